/- The law LiveLeast. -/
import Derived.Test.YtaejhppfcmeopaaLvX
namespace Go.Proofs.Ytaejhppfcmeopaa
open Go.RowKit
section
variable {w : World}
theorem res_in {bs : List Blk} {K i : Nat} (h : i < bs.length) : (resIn bs K)[i]? = some (zs (inL bs K i)) := by
  unfold resIn
  rw [List.getElem?_map, List.getElem?_range h]; rfl
theorem res_out {bs : List Blk} {K i : Nat} (h : i < bs.length) : (resOut bs K)[i]? = some (zs (outL bs K i)) := by
  unfold resOut
  rw [List.getElem?_map, List.getElem?_range h]; rfl
theorem res_in_len (bs : List Blk) (K : Nat) : (resIn bs K).length = bs.length := by simp [resIn]
theorem res_out_len (bs : List Blk) (K : Nat) : (resOut bs K).length = bs.length := by simp [resOut]
/-- The blocks lie, and what is needed ahead of them and behind. -/
structure LsM (w : World) (v v1 v2 : Value) (bs : List Blk) (K : Nat) : Prop where
  b : BlksAt w v bs
  i : LsAt w v1 (resIn bs K)
  o : LsAt w v2 (resOut bs K)
theorem LsM.below {w w' : World} {v v1 v2 : Value} {bs : List Blk} {K : Nat} (M : LsM w v v1 v2 bs K) (h : Below w.heap.size w w') : LsM w' v v1 v2 bs K := ⟨M.b.below h, M.i.below h, M.o.below h⟩
theorem BlksAt.get {w : World} {ao : Option Addr} {n cap j : Nat} {bs : List Blk} {b : Blk} (R : BlksAt w (.slice ao n cap) bs) (h : bs[j]? = some b) : ∃ g o au cu ad cd an cn, ao = some ⟨g, o, none⟩ ∧ g < w.heap.size ∧ w.cell? ⟨g, o + j * 3, none⟩ = some (.slice au b.u.length cu) ∧ w.cell? ⟨g, o + j * 3 + 1, none⟩ = some (.slice ad b.d.length cd) ∧ w.cell? ⟨g, o + j * 3 + 2, none⟩ = some (.slice an b.n.length cn) ∧
    IntsAt w (.slice au b.u.length cu) b.u ∧ IntsAt w (.slice ad b.d.length cd) b.d ∧ IntsAt w (.slice an b.n.length cn) b.n := by
  obtain ⟨a, c, h1, h2⟩ := R
  cases h1
  obtain ⟨g, o, vu, vd, vn, e1, e2, e3, e4, e5, e6, e7, e8⟩ := h2 j b h
  obtain ⟨au, cu, rfl⟩ := e6.slice
  obtain ⟨ad, cd, rfl⟩ := e7.slice
  obtain ⟨an, cn, rfl⟩ := e8.slice
  exact ⟨g, o, au, cu, ad, cd, an, cn, e1, e2, e3, e4, e5, e6, e7, e8⟩
set_option maxRecDepth 100000 in
set_option maxHeartbeats 8000000 in
theorem least_law {v : Value} {bs : List Blk} (k : Int) (R : BlksAt w v bs) : Calls Try.prog 6 #[v, .int .i64 k] w fun e w' => e = .returned (.bool true) ∧ Below w.heap.size w w' := by
  have hs := solve_any k R
  have ha := fun W : World => awake_any W
  by_cases h0 : fltP bs k = 0
  · obtain ⟨K, rfl, S⟩ := snd_of h0
    rw [h0] at hs
    have hl := S.l
    have hsm := fun (W : World) (h : Below w.heap.size w W) => small_any (R.below h) hl
    have HR := hide R
    have HSM := hide hsm
    have HS := hide S
    obtain ⟨ao, cap, rfl, _⟩ := R
    obtain ⟨n, hn⟩ : ∃ n, bs.length = n := ⟨_, rfl⟩
    have HN := hide hn
    rw [hn] at hs HSM hl ⊢
    have hn2 : (n : Int) ≤ 512 := by omega
    clear hsm S hn h0
    go_enter Try.func6, Try.ntmps6
    go_upto_region 2 with (go_at_call 9; with_reducible refine hs.mono ?_; rintro e w1 ⟨⟨v1, v2, rfl, hO⟩, hb1⟩; have HO := hide (And.intro hO hb1); clear hO hb1)
    obtain ⟨q1, q2⟩ := HO.out.1.2 K rfl HS.out
    have hb1 := HO.out.2
    obtain ⟨a1, c1, rfl⟩ := q1.slice
    obtain ⟨a2, c2, rfl⟩ := q2.slice
    rw [res_in_len, HN.out] at q1
    rw [res_out_len, HN.out] at q2
    rw [res_in_len, res_out_len, HN.out]
    have HQ := hide (And.intro q1 (And.intro q2 hb1))
    clear q1 q2 hb1 HO hs
    have hsm1 := HSM.out
    have HA := hide ha
    clear ha HSM
    go_wp2_with (first
      | (have kk := hb3; clear kk; go_at_call 11; refine (HA.out _).mono ?_; rintro e w4 ⟨rfl, hb4⟩)
      | (go_at_call 12; with_reducible refine (hsm1 w2 (HQ.out.2.2.trans (hb2.mono HQ.out.2.2.size))).mono ?_; rintro e w3 ⟨⟨r, rfl, _⟩, hb3⟩; cases r)
      | (go_at_call 11; refine (HA.out _).mono ?_; rintro e w2 ⟨rfl, hb2⟩))
    · go_ret
      have hb5 := hb2.trans (hb3.mono hb2.size)
      exact ⟨rfl, HQ.out.2.2.trans ((hb5.trans (hb4.mono hb5.size)).mono HQ.out.2.2.size)⟩
    · have M3 : Hid (LsM w3 (.slice ao n cap) (.slice a1 n c1) (.slice a2 n c2) bs K ∧ Below w.heap.size w w3) := hide (by
        have hb5 := hb2.trans (hb3.mono hb2.size)
        have hb6 := HQ.out.2.2.trans (hb5.mono HQ.out.2.2.size)
        exact ⟨⟨by have := HR.out.below hb6; rw [HN.out] at this; exact this, HQ.out.1.below hb5, HQ.out.2.1.below hb5⟩, hb6⟩)
      clear HQ HR hb2 hb3 hsm1 HA
      go_loopw [8, 9, 10, 11, 12, 13, 14] (fun i _ _ _ _ _ _ wr => ∃ j : Nat, j ≤ n ∧ i = .int .i64 j ∧ Hid (LsM wr (.slice ao n cap) (.slice a1 n c1) (.slice a2 n c2) bs K ∧ Below w.heap.size w wr)) (fun i _ _ _ _ _ _ _ => n - (intOf i).toNat)
      case atStart => exact ⟨0, Nat.zero_le _, rfl, M3.out⟩
      case round =>
        obtain ⟨j, hj, rfl, HM⟩ := hrel
        obtain ⟨W1, rfl⟩ : ∃ W1, W1 = wr := ⟨wr, rfl⟩
        by_cases hlt : j < n
        · obtain ⟨b, hb⟩ : ∃ b, bs[j]? = some b := ⟨bs[j]'(by rw [HN.out]; exact hlt), by simp⟩
          have hjb : j < bs.length := len_of_get hb
          obtain ⟨g, o, au, cu, ad, cd, an, cn, rfl, hg, e0, e1, e2, IU, ID, IN⟩ := HM.out.1.b.get hb
          have bj : (j : Int) < (n : Int) := by omega
          have hbA := (Below.refl W1.heap.size W1).alloc (Nat.le_refl _) (.cells #[.slice au b.u.length cu, .slice ad b.d.length cd, .slice an b.n.length cn] 41)
          have hbx := heap_new W1 (.cells #[.slice au b.u.length cu, .slice ad b.d.length cd, .slice an b.n.length cn] 41) rfl
          obtain ⟨gi, oi, ai, ci, rfl, li, ki, II⟩ := HM.out.1.i.list (res_in (K := K) hjb)
          obtain ⟨go, oo, ao2, co, rfl, lo, ko, IO⟩ := HM.out.1.o.list (res_out (K := K) hjb)
          obtain ⟨W2, hW2⟩ : ∃ W2, W1.alloc (.cells #[.slice au b.u.length cu, .slice ad b.d.length cd, .slice an b.n.length cn] 41) = W2 := ⟨_, rfl⟩
          have hs2 : W1.heap.size < W2.heap.size := by rw [← hW2]; simp
          have hbA2 : Below W1.heap.size W1 W2 := by rw [← hW2]; exact hbA
          rw [hW2] at hbx
          have HB := hide hb
          have HC : Hid (∀ X : World, Below W2.heap.size W2 X → (X.cell? ⟨W1.heap.size, 0, none⟩ = some (.slice au b.u.length cu) ∧ X.cell? ⟨W1.heap.size, 1, none⟩ = some (.slice ad b.d.length cd) ∧ X.cell? ⟨W1.heap.size, 2, none⟩ = some (.slice an b.n.length cn)) ∧ (X.cell? ⟨gi, oi + j, none⟩ = some (.slice ai (zs (inL bs K j)).length ci) ∧ X.cell? ⟨go, oo + j, none⟩ = some (.slice ao2 (zs (outL bs K j)).length co)) ∧ (W1.heap.size < X.heap.size ∧ gi < X.heap.size ∧ go < X.heap.size) ∧ (IntsAt X (.slice au b.u.length cu) b.u ∧ IntsAt X (.slice ad b.d.length cd) b.d ∧ IntsAt X (.slice an b.n.length cn) b.n ∧ IntsAt X (.slice ai (zs (inL bs K j)).length ci) (zs (inL bs K j)) ∧ IntsAt X (.slice ao2 (zs (outL bs K j)).length co) (zs (outL bs K j))) ∧ LsM X (.slice (some ⟨g, o, none⟩) n cap) (.slice (some ⟨gi, oi, none⟩) n c1) (.slice (some ⟨go, oo, none⟩) n c2) bs K ∧ Below w.heap.size w X) := hide (fun X hX => by
            have hb2 : Below W1.heap.size W1 X := hbA2.trans (hX.mono (Nat.le_of_lt hs2))
            have hx := (hX.block _ hs2).trans hbx
            exact ⟨⟨cell_of hx rfl, cell_of hx rfl, cell_of hx rfl⟩, ⟨by rw [keep_cell hb2 li]; exact ki, by rw [keep_cell hb2 lo]; exact ko⟩, ⟨lt_of_block hx, Nat.lt_of_lt_of_le li hb2.size, Nat.lt_of_lt_of_le lo hb2.size⟩, ⟨IU.below hb2, ID.below hb2, IN.below hb2, II.below hb2, IO.below hb2⟩, HM.out.1.below hb2, HM.out.2.trans (hb2.mono HM.out.2.size)⟩)
          have HL := hide (And.intro (IU.len) (And.intro ID.len (And.intro IN.len (And.intro II.len IO.len))))
          clear IU ID IN II IO ki ko li lo hbx hbA hbA2 hb HM hjb
          generalize hmn : b.n.length = mn at *
          generalize hmi : (zs (inL bs K j)).length = mi at *
          generalize hmo : (zs (outL bs K j)).length = mo at *
          generalize b.u.length = mu at *
          generalize b.d.length = md at *
          have HMN := hide (And.intro hmn (And.intro hmi hmo))
          clear hmn hmi hmo
          go_wp2
          go_loopw [10, 11, 12] (fun i _ _ wr => ∃ p : Nat, p ≤ mo ∧ i = .int .i64 p ∧ Hid (Below W2.heap.size W2 wr)) (fun i _ _ _ => mo - (intOf i).toNat)
          case atStart => exact ⟨0, Nat.zero_le _, rfl, Below.refl _ _⟩
          case round =>
            obtain ⟨p, hp, rfl, HX⟩ := hrel
            obtain ⟨X, rfl⟩ : ∃ X, X = wr := ⟨wr, rfl⟩
            obtain ⟨⟨x0, x1, x2⟩, ⟨xi, xo⟩, ⟨s0, s1, s2⟩, _, _⟩ := HC.out X HX.out
            by_cases hpl : p < mo
            · obtain ⟨x, hx⟩ : ∃ x, (zs (outL bs K j))[p]? = some x := ⟨(zs (outL bs K j))[p]'(by rw [HMN.out.2.2]; exact hpl), by simp⟩
              have HX0 := hide hx
              have HLO := hide (least_out HS.out HB.out (List.mem_of_getElem? hx))
              have bp : (p : Int) < (mo : Int) := by omega
              have bmo : (mo : Int) ≤ 9223372036854775807 := by have := HL.out.2.2.2.2; omega
              have bmn : (mn : Int) ≤ 9223372036854775807 := by have := HL.out.2.2.1; omega
              clear hx
              go_wp2
              clear x0 x1 x2 xi xo s0 s1 s2
              go_loopw [11, 12] (fun f i wr => ∃ q : Nat, q ≤ mn ∧ i = .int .i64 q ∧ f = .bool (fnd bs K (b.n.take q) x) ∧ Hid (Below W2.heap.size W2 wr)) (fun _ i _ => mn - (intOf i).toNat)
              case atStart => exact ⟨0, Nat.zero_le _, rfl, rfl, HX.out⟩
              case round =>
                obtain ⟨q, hq, rfl, rfl, HY⟩ := hrel
                obtain ⟨Y, rfl⟩ : ∃ Y, Y = wr := ⟨wr, rfl⟩
                obtain ⟨⟨x0, x1, x2⟩, ⟨xi, xo⟩, ⟨s0, s1, s2⟩, ⟨_, _, IN, _, IO⟩, M, _⟩ := HC.out Y HY.out
                have HYR := hide (HY.out)
                by_cases hql : q < mn
                · obtain ⟨y0, hy0⟩ : ∃ y, b.n[q]? = some y := ⟨b.n[q]'(by rw [HMN.out.1]; exact hql), by simp⟩
                  obtain ⟨y, rfl, hyn⟩ := HS.out.n j b HB.out y0 (List.mem_of_getElem? hy0)
                  obtain ⟨gn, on, rfl, ln, kn⟩ := IN.cell hy0
                  obtain ⟨gx, ox, rfl, lx, kx⟩ := IO.cell HX0.out
                  obtain ⟨g', o', ay, cy, e', ly, ky, IY⟩ := M.i.list (res_in (K := K) hyn)
                  cases e'
                  have hnx := fnd_next (bs := bs) (K := K) (x := x) hy0
                  rw [Int.toNat_natCast] at hnx
                  have HNX := hide hnx
                  have hhas := has13_any x IY
                  have byn : (y : Int) < (n : Int) := by rw [HN.out] at hyn; omega
                  have bq : (q : Int) < (mn : Int) := by omega
                  generalize hly : (zs (inL bs K y)).length = my at *
                  have HC5 : Hid (∀ Z : World, Z.heap = Y.heap → Z.cell? ⟨W1.heap.size, 2, none⟩ = some (.slice (some ⟨gn, on, none⟩) mn cn) ∧ Z.cell? ⟨gn, on + q, none⟩ = some (.int .i64 y) ∧ Z.cell? ⟨gi, oi + y, none⟩ = some (.slice ay my cy) ∧ Z.cell? ⟨go, oo + j, none⟩ = some (.slice (some ⟨gx, ox, none⟩) mo co) ∧ Z.cell? ⟨gx, ox + p, none⟩ = some (.int .i64 x)) := hide (fun Z hZ => by
                    have hz : ∀ (g o : Nat), Z.cell? ⟨g, o, none⟩ = Y.cell? ⟨g, o, none⟩ := fun g o => World.cell?_of_block (a := ⟨g, o, none⟩) (by rw [hZ])
                    rw [hz, hz, hz, hz, hz]
                    exact ⟨x2, kn, ky, xo, kx⟩)
                  have hhas2 := fun (Z : World) (R : IntsAt Z (.slice ay my cy) (zs (inL bs K y))) => has13_any x R
                  have HIY := hide IY
                  clear IN IO M hy0 hnx hhas hly hyn IY
                  cases hf : fnd bs K (b.n.take q) x with
                  | true =>
                    rw [hf, Bool.true_or] at HNX
                    clear hhas2
                    go_wp2_with fail
                    go_region
                    go_wp2
                    go_roundw
                    case rel => exact ⟨q + 1, by omega, by go_num, by rw [HNX.out], HYR.out.drew⟩
                    case measure => simp [intOf]; omega
                  | false =>
                    rw [hf, Bool.false_or] at HNX
                    go_wp2_with fail
                    have hhY := hhas2 (Y.drewN 1) (HIY.out.below (below_drewN (Below.refl _ _) 1))
                    clear hhas2
                    refine wp_region_held_drew (S := (fun Z : World => Z.cell? ⟨W1.heap.size, 2, none⟩ = some (.slice (some ⟨gn, on, none⟩) mn cn) ∧ Z.cell? ⟨gn, on + q, none⟩ = some (.int .i64 y) ∧ Z.cell? ⟨gi, oi + y, none⟩ = some (.slice ay my cy) ∧ Z.cell? ⟨go, oo + j, none⟩ = some (.slice (some ⟨gx, ox, none⟩) mo co) ∧ Z.cell? ⟨gx, ox + p, none⟩ = some (.int .i64 x))) (by kernel_rfl) (HC5.out _ rfl) (fun hHeld1 => ?_)
                    refine wpAnyH_take (i := 0) (oi := { dst := some 60, op := Go.Op.move (Go.Operand.tmp 11), type := 4, pos := "law.go:90", after := #[], guard := none }) (v := ?v2) rfl (by kernel_rfl) (by kernel_rfl) (by kernel_rfl) (fun _ _ _ h => h) (Or.inl ⟨by rfl, ?hy2⟩) (by assumption) ?_
                    case hy2 => (intro W hSw; (try dsimp only at hSw); go_simp; try with_reducible rfl)
                    try simp only [Act.put, List.setIfInBounds_toArray, List.set_cons_zero, List.set_cons_succ]
                    refine wpAnyH_take (i := 1) (oi := { dst := some 61, op := Go.Op.move (Go.Operand.tmp 60), type := 4, pos := "law.go:90", after := #[{ on := 0, ground := Go.Ground.data }], guard := none }) (v := ?v3) rfl (by kernel_rfl) (by kernel_rfl) (by kernel_rfl) (fun _ _ _ h => h) (Or.inl ⟨by rfl, ?hy3⟩) (by assumption) ?_
                    case hy3 => (intro W hSw; (try dsimp only at hSw); go_simp; try with_reducible rfl)
                    try simp only [Act.put, List.setIfInBounds_toArray, List.set_cons_zero, List.set_cons_succ]
                    refine wpAnyH_take (i := 2) (oi := { dst := some 62, op := Go.Op.move (Go.Operand.tmp 5), type := 23, pos := "law.go:90", after := #[{ on := 1, ground := Go.Ground.guard }], guard := some (1, false) }) (v := ?v4) rfl (by kernel_rfl) (by kernel_rfl) (by kernel_rfl) (fun _ _ _ h => h) (Or.inl ⟨by rfl, ?hy4⟩) (by assumption) ?_
                    case hy4 => (intro W hSw; (try dsimp only at hSw); go_simp; try with_reducible rfl)
                    try simp only [Act.put, List.setIfInBounds_toArray, List.set_cons_zero, List.set_cons_succ]
                    refine wpAnyH_take (i := 3) (oi := { dst := some 63, op := Go.Op.fieldAddr 41 (Go.Operand.tmp 9) 2, type := 0, pos := "law.go:90", after := #[{ on := 1, ground := Go.Ground.guard }], guard := some (1, false) }) (v := ?v5) rfl (by kernel_rfl) (by kernel_rfl) (by kernel_rfl) (fun _ _ _ h => h) (Or.inl ⟨by rfl, ?hy5⟩) (by assumption) ?_
                    case hy5 => (intro W hSw; (try dsimp only at hSw); go_simp; try with_reducible rfl)
                    try simp only [Act.put, List.setIfInBounds_toArray, List.set_cons_zero, List.set_cons_succ]
                    refine wpAnyH_take (i := 4) (oi := { dst := some 64, op := Go.Op.load 34 (Go.Operand.tmp 63), type := 34, pos := "law.go:90", after := #[{ on := 3, ground := Go.Ground.data }, { on := 1, ground := Go.Ground.guard }], guard := some (1, false) }) (v := ?v6) rfl (by kernel_rfl) (by kernel_rfl) (by kernel_rfl) (fun _ _ _ h => h) (Or.inl ⟨by rfl, ?hy6⟩) (by assumption) ?_
                    case hy6 => (intro W hSw; (try dsimp only at hSw); go_simp; try with_reducible rfl)
                    try simp only [Act.put, List.setIfInBounds_toArray, List.set_cons_zero, List.set_cons_succ]
                    refine wpAnyH_take (i := 5) (oi := { dst := some 65, op := Go.Op.move (Go.Operand.tmp 12), type := 3, pos := "law.go:90", after := #[{ on := 1, ground := Go.Ground.guard }], guard := some (1, false) }) (v := ?v7) rfl (by kernel_rfl) (by kernel_rfl) (by kernel_rfl) (fun _ _ _ h => h) (Or.inl ⟨by rfl, ?hy7⟩) (by assumption) ?_
                    case hy7 => (intro W hSw; (try dsimp only at hSw); go_simp; try with_reducible rfl)
                    try simp only [Act.put, List.setIfInBounds_toArray, List.set_cons_zero, List.set_cons_succ]
                    refine wpAnyH_take (i := 6) (oi := { dst := some 66, op := Go.Op.indexAddr 34 (Go.Operand.tmp 64) (Go.Operand.tmp 65), type := 0, pos := "law.go:90", after := #[{ on := 4, ground := Go.Ground.data }, { on := 5, ground := Go.Ground.data }, { on := 1, ground := Go.Ground.guard }], guard := some (1, false) }) (v := ?v8) rfl (by kernel_rfl) (by kernel_rfl) (by kernel_rfl) (fun _ _ _ h => h) (Or.inl ⟨by rfl, ?hy8⟩) (by assumption) ?_
                    case hy8 => (intro W hSw; (try dsimp only at hSw); go_simp; try with_reducible rfl)
                    try simp only [Act.put, List.setIfInBounds_toArray, List.set_cons_zero, List.set_cons_succ]
                    refine wpAnyH_take (i := 7) (oi := { dst := some 67, op := Go.Op.load 3 (Go.Operand.tmp 66), type := 3, pos := "law.go:90", after := #[{ on := 6, ground := Go.Ground.data }, { on := 1, ground := Go.Ground.guard }], guard := some (1, false) }) (v := ?v9) rfl (by kernel_rfl) (by kernel_rfl) (by kernel_rfl) (fun _ _ _ h => h) (Or.inl ⟨by rfl, ?hy9⟩) (by assumption) ?_
                    case hy9 => (intro W hSw; (try dsimp only at hSw); go_simp; try with_reducible rfl)
                    try simp only [Act.put, List.setIfInBounds_toArray, List.set_cons_zero, List.set_cons_succ]
                    refine wpAnyH_take (i := 8) (oi := { dst := some 68, op := Go.Op.indexAddr 23 (Go.Operand.tmp 62) (Go.Operand.tmp 67), type := 0, pos := "law.go:90", after := #[{ on := 2, ground := Go.Ground.data }, { on := 7, ground := Go.Ground.data }, { on := 1, ground := Go.Ground.guard }], guard := some (1, false) }) (v := ?v10) rfl (by kernel_rfl) (by kernel_rfl) (by kernel_rfl) (fun _ _ _ h => h) (Or.inl ⟨by rfl, ?hy10⟩) (by assumption) ?_
                    case hy10 => (intro W hSw; (try dsimp only at hSw); go_simp; try with_reducible rfl)
                    try simp only [Act.put, List.setIfInBounds_toArray, List.set_cons_zero, List.set_cons_succ]
                    refine wpAnyH_take (i := 9) (oi := { dst := some 69, op := Go.Op.load 34 (Go.Operand.tmp 68), type := 34, pos := "law.go:90", after := #[{ on := 8, ground := Go.Ground.data }, { on := 1, ground := Go.Ground.guard }], guard := some (1, false) }) (v := ?v11) rfl (by kernel_rfl) (by kernel_rfl) (by kernel_rfl) (fun _ _ _ h => h) (Or.inl ⟨by rfl, ?hy11⟩) (by assumption) ?_
                    case hy11 => (intro W hSw; (try dsimp only at hSw); go_simp; try with_reducible rfl)
                    try simp only [Act.put, List.setIfInBounds_toArray, List.set_cons_zero, List.set_cons_succ]
                    refine wpAnyH_take (i := 10) (oi := { dst := some 70, op := Go.Op.move (Go.Operand.tmp 6), type := 23, pos := "law.go:90", after := #[{ on := 1, ground := Go.Ground.guard }], guard := some (1, false) }) (v := ?v12) rfl (by kernel_rfl) (by kernel_rfl) (by kernel_rfl) (fun _ _ _ h => h) (Or.inl ⟨by rfl, ?hy12⟩) (by assumption) ?_
                    case hy12 => (intro W hSw; (try dsimp only at hSw); go_simp; try with_reducible rfl)
                    try simp only [Act.put, List.setIfInBounds_toArray, List.set_cons_zero, List.set_cons_succ]
                    refine wpAnyH_take (i := 11) (oi := { dst := some 71, op := Go.Op.move (Go.Operand.tmp 8), type := 3, pos := "law.go:90", after := #[{ on := 1, ground := Go.Ground.guard }], guard := some (1, false) }) (v := ?v13) rfl (by kernel_rfl) (by kernel_rfl) (by kernel_rfl) (fun _ _ _ h => h) (Or.inl ⟨by rfl, ?hy13⟩) (by assumption) ?_
                    case hy13 => (intro W hSw; (try dsimp only at hSw); go_simp; try with_reducible rfl)
                    try simp only [Act.put, List.setIfInBounds_toArray, List.set_cons_zero, List.set_cons_succ]
                    refine wpAnyH_take (i := 12) (oi := { dst := some 72, op := Go.Op.indexAddr 23 (Go.Operand.tmp 70) (Go.Operand.tmp 71), type := 0, pos := "law.go:90", after := #[{ on := 10, ground := Go.Ground.data }, { on := 11, ground := Go.Ground.data }, { on := 1, ground := Go.Ground.guard }], guard := some (1, false) }) (v := ?v14) rfl (by kernel_rfl) (by kernel_rfl) (by kernel_rfl) (fun _ _ _ h => h) (Or.inl ⟨by rfl, ?hy14⟩) (by assumption) ?_
                    case hy14 => (intro W hSw; (try dsimp only at hSw); go_simp; try with_reducible rfl)
                    try simp only [Act.put, List.setIfInBounds_toArray, List.set_cons_zero, List.set_cons_succ]
                    refine wpAnyH_take (i := 13) (oi := { dst := some 73, op := Go.Op.load 34 (Go.Operand.tmp 72), type := 34, pos := "law.go:90", after := #[{ on := 12, ground := Go.Ground.data }, { on := 1, ground := Go.Ground.guard }], guard := some (1, false) }) (v := ?v15) rfl (by kernel_rfl) (by kernel_rfl) (by kernel_rfl) (fun _ _ _ h => h) (Or.inl ⟨by rfl, ?hy15⟩) (by assumption) ?_
                    case hy15 => (intro W hSw; (try dsimp only at hSw); go_simp; try with_reducible rfl)
                    try simp only [Act.put, List.setIfInBounds_toArray, List.set_cons_zero, List.set_cons_succ]
                    refine wpAnyH_take (i := 14) (oi := { dst := some 74, op := Go.Op.move (Go.Operand.tmp 10), type := 3, pos := "law.go:90", after := #[{ on := 1, ground := Go.Ground.guard }], guard := some (1, false) }) (v := ?v16) rfl (by kernel_rfl) (by kernel_rfl) (by kernel_rfl) (fun _ _ _ h => h) (Or.inl ⟨by rfl, ?hy16⟩) (by assumption) ?_
                    case hy16 => (intro W hSw; (try dsimp only at hSw); go_simp; try with_reducible rfl)
                    try simp only [Act.put, List.setIfInBounds_toArray, List.set_cons_zero, List.set_cons_succ]
                    refine wpAnyH_take (i := 15) (oi := { dst := some 75, op := Go.Op.indexAddr 34 (Go.Operand.tmp 73) (Go.Operand.tmp 74), type := 0, pos := "law.go:90", after := #[{ on := 13, ground := Go.Ground.data }, { on := 14, ground := Go.Ground.data }, { on := 1, ground := Go.Ground.guard }], guard := some (1, false) }) (v := ?v17) rfl (by kernel_rfl) (by kernel_rfl) (by kernel_rfl) (fun _ _ _ h => h) (Or.inl ⟨by rfl, ?hy17⟩) (by assumption) ?_
                    case hy17 => (intro W hSw; (try dsimp only at hSw); go_simp; try with_reducible rfl)
                    try simp only [Act.put, List.setIfInBounds_toArray, List.set_cons_zero, List.set_cons_succ]
                    refine wpAnyH_take (i := 16) (oi := { dst := some 76, op := Go.Op.load 3 (Go.Operand.tmp 75), type := 3, pos := "law.go:90", after := #[{ on := 15, ground := Go.Ground.data }, { on := 1, ground := Go.Ground.guard }], guard := some (1, false) }) (v := ?v18) rfl (by kernel_rfl) (by kernel_rfl) (by kernel_rfl) (fun _ _ _ h => h) (Or.inl ⟨by rfl, ?hy18⟩) (by assumption) ?_
                    case hy18 => (intro W hSw; (try dsimp only at hSw); go_simp; try with_reducible rfl)
                    try simp only [Act.put, List.setIfInBounds_toArray, List.set_cons_zero, List.set_cons_succ]
                    refine wpAnyH_ready (rs := [17]) (by kernel_rfl) (by simp) ?_
                    refine AllReadyH.cons (o := { dst := some 77, op := Go.Op.call { callee := Go.Callee.value (Go.Operand.func 20), args := #[Go.Operand.tmp 69, Go.Operand.tmp 76], argTypes := #[34, 3] }, type := 4, pos := "law.go:90", after := #[{ on := 9, ground := Go.Ground.data }, { on := 16, ground := Go.Ground.data }, { on := 1, ground := Go.Ground.chain }, { on := 1, ground := Go.Ground.guard }], guard := some (1, false) }) rfl (fun K hK => ?_) AllReadyH.nil
                    go_simp
                    go_at_call 20
                    refine hhY.mono ?_
                    rintro e w6 ⟨rfl, rfl⟩
                    go_wp2_with fail
                    refine hK.out _ _ (HC5.out _ rfl) (fun hHeld19 => ?_)
                    clear hK K
                    try simp only [Act.put, List.setIfInBounds_toArray, List.set_cons_zero, List.set_cons_succ]
                    refine wpAnyH_take (i := 18) (oi := { dst := some 78, op := Go.Op.pick (Go.Operand.tmp 61) (Go.Operand.const (Go.Value.bool true)) (Go.Operand.tmp 77), type := 4, pos := "law.go:90", after := #[{ on := 1, ground := Go.Ground.data }, { on := 17, ground := Go.Ground.data }], guard := none }) (v := ?v20) rfl (by kernel_rfl) (by kernel_rfl) (by kernel_rfl) (fun _ _ _ h => h) (Or.inl ⟨by rfl, ?hy20⟩) (by assumption) ?_
                    case hy20 => (intro W hSw; (try dsimp only at hSw); go_simp; try with_reducible rfl)
                    try simp only [Act.put, List.setIfInBounds_toArray, List.set_cons_zero, List.set_cons_succ]
                    refine wpAnyH_ready (rs := [19]) (by kernel_rfl) (by simp) ?_
                    refine AllReadyH.cons (o := { dst := some 11, op := Go.Op.assign (Go.Operand.tmp 78), type := 4, pos := "law.go:90", after := #[{ on := 18, ground := Go.Ground.data }, { on := 17, ground := Go.Ground.chain }, { on := 0, ground := Go.Ground.phase }, { on := 1, ground := Go.Ground.phase }, { on := 2, ground := Go.Ground.phase }, { on := 3, ground := Go.Ground.phase }, { on := 4, ground := Go.Ground.phase }, { on := 5, ground := Go.Ground.phase }, { on := 6, ground := Go.Ground.phase }, { on := 7, ground := Go.Ground.phase }, { on := 8, ground := Go.Ground.phase }, { on := 9, ground := Go.Ground.phase }, { on := 10, ground := Go.Ground.phase }, { on := 11, ground := Go.Ground.phase }, { on := 12, ground := Go.Ground.phase }, { on := 13, ground := Go.Ground.phase }, { on := 14, ground := Go.Ground.phase }, { on := 15, ground := Go.Ground.phase }, { on := 16, ground := Go.Ground.phase }, { on := 17, ground := Go.Ground.phase }, { on := 18, ground := Go.Ground.phase }], guard := none }) rfl (fun K hK => ?_) AllReadyH.nil
                    go_simp
                    go_wp2_with fail
                    refine hK.out _ _ (HC5.out _ rfl) (fun hHeld21 => ?_)
                    clear hK K
                    try simp only [Act.put, List.setIfInBounds_toArray, List.set_cons_zero, List.set_cons_succ]
                    refine wpAnyH_done (by kernel_rfl) ?_ _
                    go_wp2
                    go_roundw
                    case rel => exact ⟨q + 1, by omega, by go_num, by rw [HNX.out], below_drewN HYR.out 1⟩
                    case measure => simp [intOf]; omega
                · obtain rfl : q = mn := by omega
                  have hfa := HLO.out.1
                  have htk : fnd bs K (b.n.take q) x = true := by
                    rw [List.take_of_length_le (by rw [HMN.out.1]; exact Nat.le_refl _)]; exact hfa
                  obtain ⟨_, ID, _, II, IO⟩ := (HC.out Y HY.out).2.2.2.1
                  obtain ⟨gx, ox, rfl, lx, kx⟩ := IO.cell HX0.out
                  have HC6 : Hid (∀ Z : World, Z.heap = Y.heap → Z.cell? ⟨W1.heap.size, 1, none⟩ = some (.slice ad md cd) ∧ Z.cell? ⟨go, oo + j, none⟩ = some (.slice (some ⟨gx, ox, none⟩) mo co) ∧ Z.cell? ⟨gx, ox + p, none⟩ = some (.int .i64 x) ∧ Z.cell? ⟨gi, oi + j, none⟩ = some (.slice ai mi ci)) := hide (fun Z hZ => by
                    have hz : ∀ (g o : Nat), Z.cell? ⟨g, o, none⟩ = Y.cell? ⟨g, o, none⟩ := fun g o => World.cell?_of_block (a := ⟨g, o, none⟩) (by rw [hZ])
                    rw [hz, hz, hz, hz]
                    exact ⟨x1, xo, kx, xi⟩)
                  have hhd := has13_any (w := Y.drewN 1) x (ID.below (below_drewN (Below.refl _ _) 1))
                  have hhi := has13_any (w := Y.drewN 1) x (II.below (below_drewN (Below.refl _ _) 1))
                  rw [htk]
                  have bp1 : (p : Int) < (mo : Int) := bp
                  clear IN IO ID II M hfa htk
                  cases hd : hasI b.d x with
                  | true =>
                    rw [hd] at hhd
                    clear hhi
                    go_wp2_with fail
                    refine wp_region_held_drew (S := (fun Z : World => Z.cell? ⟨W1.heap.size, 1, none⟩ = some (.slice ad md cd) ∧ Z.cell? ⟨go, oo + j, none⟩ = some (.slice (some ⟨gx, ox, none⟩) mo co) ∧ Z.cell? ⟨gx, ox + p, none⟩ = some (.int .i64 x) ∧ Z.cell? ⟨gi, oi + j, none⟩ = some (.slice ai mi ci))) (by kernel_rfl) (HC6.out _ rfl) (fun hHeld22 => ?_)
                    refine wpAnyH_take (i := 0) (oi := { dst := some 79, op := Go.Op.move (Go.Operand.tmp 11), type := 4, pos := "law.go:92", after := #[], guard := none }) (v := ?v23) rfl (by kernel_rfl) (by kernel_rfl) (by kernel_rfl) (fun _ _ _ h => h) (Or.inl ⟨by rfl, ?hy23⟩) (by assumption) ?_
                    case hy23 => (intro W hSw; (try dsimp only at hSw); go_simp; try with_reducible rfl)
                    try simp only [Act.put, List.setIfInBounds_toArray, List.set_cons_zero, List.set_cons_succ]
                    refine wpAnyH_take (i := 1) (oi := { dst := some 80, op := Go.Op.unOp Go.UnOp.not 4 (Go.Operand.tmp 79), type := 4, pos := "law.go:92", after := #[{ on := 0, ground := Go.Ground.data }], guard := none }) (v := ?v24) rfl (by kernel_rfl) (by kernel_rfl) (by kernel_rfl) (fun _ _ _ h => h) (Or.inl ⟨by rfl, ?hy24⟩) (by assumption) ?_
                    case hy24 => (intro W hSw; (try dsimp only at hSw); go_simp; try with_reducible rfl)
                    try simp only [Act.put, List.setIfInBounds_toArray, List.set_cons_zero, List.set_cons_succ]
                    refine wpAnyH_take (i := 2) (oi := { dst := some 81, op := Go.Op.move (Go.Operand.tmp 80), type := 4, pos := "law.go:92", after := #[{ on := 1, ground := Go.Ground.data }], guard := none }) (v := ?v25) rfl (by kernel_rfl) (by kernel_rfl) (by kernel_rfl) (fun _ _ _ h => h) (Or.inl ⟨by rfl, ?hy25⟩) (by assumption) ?_
                    case hy25 => (intro W hSw; (try dsimp only at hSw); go_simp; try with_reducible rfl)
                    try simp only [Act.put, List.setIfInBounds_toArray, List.set_cons_zero, List.set_cons_succ]
                    refine wpAnyH_take (i := 3) (oi := { dst := some 82, op := Go.Op.fieldAddr 41 (Go.Operand.tmp 9) 1, type := 0, pos := "law.go:92", after := #[{ on := 2, ground := Go.Ground.guard }], guard := some (2, false) }) (v := ?v26) rfl (by kernel_rfl) (by kernel_rfl) (by kernel_rfl) (fun _ _ _ h => h) (Or.inl ⟨by rfl, ?hy26⟩) (by assumption) ?_
                    case hy26 => (intro W hSw; (try dsimp only at hSw); go_simp; try with_reducible rfl)
                    try simp only [Act.put, List.setIfInBounds_toArray, List.set_cons_zero, List.set_cons_succ]
                    refine wpAnyH_take (i := 4) (oi := { dst := some 83, op := Go.Op.load 34 (Go.Operand.tmp 82), type := 34, pos := "law.go:92", after := #[{ on := 3, ground := Go.Ground.data }, { on := 2, ground := Go.Ground.guard }], guard := some (2, false) }) (v := ?v27) rfl (by kernel_rfl) (by kernel_rfl) (by kernel_rfl) (fun _ _ _ h => h) (Or.inl ⟨by rfl, ?hy27⟩) (by assumption) ?_
                    case hy27 => (intro W hSw; (try dsimp only at hSw); go_simp; try with_reducible rfl)
                    try simp only [Act.put, List.setIfInBounds_toArray, List.set_cons_zero, List.set_cons_succ]
                    refine wpAnyH_take (i := 5) (oi := { dst := some 84, op := Go.Op.move (Go.Operand.tmp 6), type := 23, pos := "law.go:92", after := #[{ on := 2, ground := Go.Ground.guard }], guard := some (2, false) }) (v := ?v28) rfl (by kernel_rfl) (by kernel_rfl) (by kernel_rfl) (fun _ _ _ h => h) (Or.inl ⟨by rfl, ?hy28⟩) (by assumption) ?_
                    case hy28 => (intro W hSw; (try dsimp only at hSw); go_simp; try with_reducible rfl)
                    try simp only [Act.put, List.setIfInBounds_toArray, List.set_cons_zero, List.set_cons_succ]
                    refine wpAnyH_take (i := 6) (oi := { dst := some 85, op := Go.Op.move (Go.Operand.tmp 8), type := 3, pos := "law.go:92", after := #[{ on := 2, ground := Go.Ground.guard }], guard := some (2, false) }) (v := ?v29) rfl (by kernel_rfl) (by kernel_rfl) (by kernel_rfl) (fun _ _ _ h => h) (Or.inl ⟨by rfl, ?hy29⟩) (by assumption) ?_
                    case hy29 => (intro W hSw; (try dsimp only at hSw); go_simp; try with_reducible rfl)
                    try simp only [Act.put, List.setIfInBounds_toArray, List.set_cons_zero, List.set_cons_succ]
                    refine wpAnyH_take (i := 7) (oi := { dst := some 86, op := Go.Op.indexAddr 23 (Go.Operand.tmp 84) (Go.Operand.tmp 85), type := 0, pos := "law.go:92", after := #[{ on := 5, ground := Go.Ground.data }, { on := 6, ground := Go.Ground.data }, { on := 2, ground := Go.Ground.guard }], guard := some (2, false) }) (v := ?v30) rfl (by kernel_rfl) (by kernel_rfl) (by kernel_rfl) (fun _ _ _ h => h) (Or.inl ⟨by rfl, ?hy30⟩) (by assumption) ?_
                    case hy30 => (intro W hSw; (try dsimp only at hSw); go_simp; try with_reducible rfl)
                    try simp only [Act.put, List.setIfInBounds_toArray, List.set_cons_zero, List.set_cons_succ]
                    refine wpAnyH_take (i := 8) (oi := { dst := some 87, op := Go.Op.load 34 (Go.Operand.tmp 86), type := 34, pos := "law.go:92", after := #[{ on := 7, ground := Go.Ground.data }, { on := 2, ground := Go.Ground.guard }], guard := some (2, false) }) (v := ?v31) rfl (by kernel_rfl) (by kernel_rfl) (by kernel_rfl) (fun _ _ _ h => h) (Or.inl ⟨by rfl, ?hy31⟩) (by assumption) ?_
                    case hy31 => (intro W hSw; (try dsimp only at hSw); go_simp; try with_reducible rfl)
                    try simp only [Act.put, List.setIfInBounds_toArray, List.set_cons_zero, List.set_cons_succ]
                    refine wpAnyH_take (i := 9) (oi := { dst := some 88, op := Go.Op.move (Go.Operand.tmp 10), type := 3, pos := "law.go:92", after := #[{ on := 2, ground := Go.Ground.guard }], guard := some (2, false) }) (v := ?v32) rfl (by kernel_rfl) (by kernel_rfl) (by kernel_rfl) (fun _ _ _ h => h) (Or.inl ⟨by rfl, ?hy32⟩) (by assumption) ?_
                    case hy32 => (intro W hSw; (try dsimp only at hSw); go_simp; try with_reducible rfl)
                    try simp only [Act.put, List.setIfInBounds_toArray, List.set_cons_zero, List.set_cons_succ]
                    refine wpAnyH_take (i := 10) (oi := { dst := some 89, op := Go.Op.indexAddr 34 (Go.Operand.tmp 87) (Go.Operand.tmp 88), type := 0, pos := "law.go:92", after := #[{ on := 8, ground := Go.Ground.data }, { on := 9, ground := Go.Ground.data }, { on := 2, ground := Go.Ground.guard }], guard := some (2, false) }) (v := ?v33) rfl (by kernel_rfl) (by kernel_rfl) (by kernel_rfl) (fun _ _ _ h => h) (Or.inl ⟨by rfl, ?hy33⟩) (by assumption) ?_
                    case hy33 => (intro W hSw; (try dsimp only at hSw); go_simp; try with_reducible rfl)
                    try simp only [Act.put, List.setIfInBounds_toArray, List.set_cons_zero, List.set_cons_succ]
                    refine wpAnyH_take (i := 11) (oi := { dst := some 90, op := Go.Op.load 3 (Go.Operand.tmp 89), type := 3, pos := "law.go:92", after := #[{ on := 10, ground := Go.Ground.data }, { on := 2, ground := Go.Ground.guard }], guard := some (2, false) }) (v := ?v34) rfl (by kernel_rfl) (by kernel_rfl) (by kernel_rfl) (fun _ _ _ h => h) (Or.inl ⟨by rfl, ?hy34⟩) (by assumption) ?_
                    case hy34 => (intro W hSw; (try dsimp only at hSw); go_simp; try with_reducible rfl)
                    try simp only [Act.put, List.setIfInBounds_toArray, List.set_cons_zero, List.set_cons_succ]
                    refine wpAnyH_ready (rs := [12]) (by kernel_rfl) (by simp) ?_
                    refine AllReadyH.cons (o := { dst := some 91, op := Go.Op.call { callee := Go.Callee.value (Go.Operand.func 20), args := #[Go.Operand.tmp 83, Go.Operand.tmp 90], argTypes := #[34, 3] }, type := 4, pos := "law.go:92", after := #[{ on := 4, ground := Go.Ground.data }, { on := 11, ground := Go.Ground.data }, { on := 2, ground := Go.Ground.chain }, { on := 2, ground := Go.Ground.guard }], guard := some (2, false) }) rfl (fun K hK => ?_) AllReadyH.nil
                    go_simp
                    go_at_call 20
                    refine hhd.mono ?_
                    rintro e w6 ⟨rfl, rfl⟩
                    go_wp2_with fail
                    refine hK.out _ _ (HC6.out _ rfl) (fun hHeld35 => ?_)
                    clear hK K
                    try simp only [Act.put, List.setIfInBounds_toArray, List.set_cons_zero, List.set_cons_succ]
                    refine wpAnyH_take (i := 13) (oi := { dst := some 92, op := Go.Op.unOp Go.UnOp.not 4 (Go.Operand.tmp 91), type := 4, pos := "law.go:92", after := #[{ on := 12, ground := Go.Ground.data }, { on := 2, ground := Go.Ground.guard }], guard := some (2, false) }) (v := ?v36) rfl (by kernel_rfl) (by kernel_rfl) (by kernel_rfl) (fun _ _ _ h => h) (Or.inl ⟨by rfl, ?hy36⟩) (by assumption) ?_
                    case hy36 => (intro W hSw; (try dsimp only at hSw); go_simp; try with_reducible rfl)
                    try simp only [Act.put, List.setIfInBounds_toArray, List.set_cons_zero, List.set_cons_succ]
                    refine wpAnyH_take (i := 14) (oi := { dst := some 93, op := Go.Op.move (Go.Operand.tmp 92), type := 4, pos := "law.go:92", after := #[{ on := 13, ground := Go.Ground.data }, { on := 12, ground := Go.Ground.chain }, { on := 2, ground := Go.Ground.guard }], guard := some (2, false) }) (v := ?v37) rfl (by kernel_rfl) (by kernel_rfl) (by kernel_rfl) (fun _ _ _ h => h) (Or.inl ⟨by rfl, ?hy37⟩) (by assumption) ?_
                    case hy37 => (intro W hSw; (try dsimp only at hSw); go_simp; try with_reducible rfl)
                    try simp only [Act.put, List.setIfInBounds_toArray, List.set_cons_zero, List.set_cons_succ]
                    refine wpAnyH_take (i := 15) (oi := { dst := some 94, op := Go.Op.move (Go.Operand.tmp 5), type := 23, pos := "law.go:92", after := #[{ on := 14, ground := Go.Ground.guard }], guard := some (14, true) }) (v := undef) rfl (by kernel_rfl) (by kernel_rfl) (by kernel_rfl) (fun _ _ _ h => h) (Or.inr ⟨by rfl, rfl⟩) (by assumption) ?_
                    try simp only [Act.put, List.setIfInBounds_toArray, List.set_cons_zero, List.set_cons_succ]
                    refine wpAnyH_take (i := 16) (oi := { dst := some 95, op := Go.Op.move (Go.Operand.tmp 8), type := 3, pos := "law.go:92", after := #[{ on := 14, ground := Go.Ground.guard }], guard := some (14, true) }) (v := undef) rfl (by kernel_rfl) (by kernel_rfl) (by kernel_rfl) (fun _ _ _ h => h) (Or.inr ⟨by rfl, rfl⟩) (by assumption) ?_
                    try simp only [Act.put, List.setIfInBounds_toArray, List.set_cons_zero, List.set_cons_succ]
                    refine wpAnyH_take (i := 17) (oi := { dst := some 96, op := Go.Op.indexAddr 23 (Go.Operand.tmp 94) (Go.Operand.tmp 95), type := 0, pos := "law.go:92", after := #[{ on := 15, ground := Go.Ground.data }, { on := 16, ground := Go.Ground.data }, { on := 14, ground := Go.Ground.guard }], guard := some (14, true) }) (v := undef) rfl (by kernel_rfl) (by kernel_rfl) (by kernel_rfl) (fun _ _ _ h => h) (Or.inr ⟨by rfl, rfl⟩) (by assumption) ?_
                    try simp only [Act.put, List.setIfInBounds_toArray, List.set_cons_zero, List.set_cons_succ]
                    refine wpAnyH_take (i := 18) (oi := { dst := some 97, op := Go.Op.load 34 (Go.Operand.tmp 96), type := 34, pos := "law.go:92", after := #[{ on := 17, ground := Go.Ground.data }, { on := 14, ground := Go.Ground.guard }], guard := some (14, true) }) (v := undef) rfl (by kernel_rfl) (by kernel_rfl) (by kernel_rfl) (fun _ _ _ h => h) (Or.inr ⟨by rfl, rfl⟩) (by assumption) ?_
                    try simp only [Act.put, List.setIfInBounds_toArray, List.set_cons_zero, List.set_cons_succ]
                    refine wpAnyH_take (i := 19) (oi := { dst := some 98, op := Go.Op.move (Go.Operand.tmp 6), type := 23, pos := "law.go:92", after := #[{ on := 14, ground := Go.Ground.guard }], guard := some (14, true) }) (v := undef) rfl (by kernel_rfl) (by kernel_rfl) (by kernel_rfl) (fun _ _ _ h => h) (Or.inr ⟨by rfl, rfl⟩) (by assumption) ?_
                    try simp only [Act.put, List.setIfInBounds_toArray, List.set_cons_zero, List.set_cons_succ]
                    refine wpAnyH_take (i := 20) (oi := { dst := some 99, op := Go.Op.move (Go.Operand.tmp 8), type := 3, pos := "law.go:92", after := #[{ on := 14, ground := Go.Ground.guard }], guard := some (14, true) }) (v := undef) rfl (by kernel_rfl) (by kernel_rfl) (by kernel_rfl) (fun _ _ _ h => h) (Or.inr ⟨by rfl, rfl⟩) (by assumption) ?_
                    try simp only [Act.put, List.setIfInBounds_toArray, List.set_cons_zero, List.set_cons_succ]
                    refine wpAnyH_take (i := 21) (oi := { dst := some 100, op := Go.Op.indexAddr 23 (Go.Operand.tmp 98) (Go.Operand.tmp 99), type := 0, pos := "law.go:92", after := #[{ on := 19, ground := Go.Ground.data }, { on := 20, ground := Go.Ground.data }, { on := 14, ground := Go.Ground.guard }], guard := some (14, true) }) (v := undef) rfl (by kernel_rfl) (by kernel_rfl) (by kernel_rfl) (fun _ _ _ h => h) (Or.inr ⟨by rfl, rfl⟩) (by assumption) ?_
                    try simp only [Act.put, List.setIfInBounds_toArray, List.set_cons_zero, List.set_cons_succ]
                    refine wpAnyH_take (i := 22) (oi := { dst := some 101, op := Go.Op.load 34 (Go.Operand.tmp 100), type := 34, pos := "law.go:92", after := #[{ on := 21, ground := Go.Ground.data }, { on := 14, ground := Go.Ground.guard }], guard := some (14, true) }) (v := undef) rfl (by kernel_rfl) (by kernel_rfl) (by kernel_rfl) (fun _ _ _ h => h) (Or.inr ⟨by rfl, rfl⟩) (by assumption) ?_
                    try simp only [Act.put, List.setIfInBounds_toArray, List.set_cons_zero, List.set_cons_succ]
                    refine wpAnyH_take (i := 23) (oi := { dst := some 102, op := Go.Op.move (Go.Operand.tmp 10), type := 3, pos := "law.go:92", after := #[{ on := 14, ground := Go.Ground.guard }], guard := some (14, true) }) (v := undef) rfl (by kernel_rfl) (by kernel_rfl) (by kernel_rfl) (fun _ _ _ h => h) (Or.inr ⟨by rfl, rfl⟩) (by assumption) ?_
                    try simp only [Act.put, List.setIfInBounds_toArray, List.set_cons_zero, List.set_cons_succ]
                    refine wpAnyH_take (i := 24) (oi := { dst := some 103, op := Go.Op.indexAddr 34 (Go.Operand.tmp 101) (Go.Operand.tmp 102), type := 0, pos := "law.go:92", after := #[{ on := 22, ground := Go.Ground.data }, { on := 23, ground := Go.Ground.data }, { on := 14, ground := Go.Ground.guard }], guard := some (14, true) }) (v := undef) rfl (by kernel_rfl) (by kernel_rfl) (by kernel_rfl) (fun _ _ _ h => h) (Or.inr ⟨by rfl, rfl⟩) (by assumption) ?_
                    try simp only [Act.put, List.setIfInBounds_toArray, List.set_cons_zero, List.set_cons_succ]
                    refine wpAnyH_take (i := 25) (oi := { dst := some 104, op := Go.Op.load 3 (Go.Operand.tmp 103), type := 3, pos := "law.go:92", after := #[{ on := 24, ground := Go.Ground.data }, { on := 14, ground := Go.Ground.guard }], guard := some (14, true) }) (v := undef) rfl (by kernel_rfl) (by kernel_rfl) (by kernel_rfl) (fun _ _ _ h => h) (Or.inr ⟨by rfl, rfl⟩) (by assumption) ?_
                    try simp only [Act.put, List.setIfInBounds_toArray, List.set_cons_zero, List.set_cons_succ]
                    refine wpAnyH_take (i := 26) (oi := { dst := some 105, op := Go.Op.call { callee := Go.Callee.value (Go.Operand.func 20), args := #[Go.Operand.tmp 97, Go.Operand.tmp 104], argTypes := #[34, 3] }, type := 4, pos := "law.go:92", after := #[{ on := 18, ground := Go.Ground.data }, { on := 25, ground := Go.Ground.data }, { on := 14, ground := Go.Ground.chain }, { on := 14, ground := Go.Ground.guard }], guard := some (14, true) }) (v := undef) rfl (by kernel_rfl) (by kernel_rfl) (by kernel_rfl) (fun _ _ _ h => h) (Or.inr ⟨by rfl, rfl⟩) (by assumption) ?_
                    try simp only [Act.put, List.setIfInBounds_toArray, List.set_cons_zero, List.set_cons_succ]
                    refine wpAnyH_take (i := 27) (oi := { dst := some 106, op := Go.Op.unOp Go.UnOp.not 4 (Go.Operand.tmp 105), type := 4, pos := "law.go:92", after := #[{ on := 26, ground := Go.Ground.data }, { on := 14, ground := Go.Ground.guard }], guard := some (14, true) }) (v := undef) rfl (by kernel_rfl) (by kernel_rfl) (by kernel_rfl) (fun _ _ _ h => h) (Or.inr ⟨by rfl, rfl⟩) (by assumption) ?_
                    try simp only [Act.put, List.setIfInBounds_toArray, List.set_cons_zero, List.set_cons_succ]
                    refine wpAnyH_take (i := 28) (oi := { dst := some 107, op := Go.Op.pick (Go.Operand.tmp 93) (Go.Operand.tmp 106) (Go.Operand.const (Go.Value.bool false)), type := 4, pos := "law.go:92", after := #[{ on := 14, ground := Go.Ground.data }, { on := 27, ground := Go.Ground.data }, { on := 2, ground := Go.Ground.guard }], guard := some (2, false) }) (v := ?v51) rfl (by kernel_rfl) (by kernel_rfl) (by kernel_rfl) (fun _ _ _ h => h) (Or.inl ⟨by rfl, ?hy51⟩) (by assumption) ?_
                    case hy51 => (intro W hSw; (try dsimp only at hSw); go_simp; try with_reducible rfl)
                    try simp only [Act.put, List.setIfInBounds_toArray, List.set_cons_zero, List.set_cons_succ]
                    refine wpAnyH_take (i := 29) (oi := { dst := some 108, op := Go.Op.pick (Go.Operand.tmp 81) (Go.Operand.const (Go.Value.bool true)) (Go.Operand.tmp 107), type := 4, pos := "law.go:92", after := #[{ on := 2, ground := Go.Ground.data }, { on := 28, ground := Go.Ground.data }], guard := none }) (v := ?v52) rfl (by kernel_rfl) (by kernel_rfl) (by kernel_rfl) (fun _ _ _ h => h) (Or.inl ⟨by rfl, ?hy52⟩) (by assumption) ?_
                    case hy52 => (intro W hSw; (try dsimp only at hSw); go_simp; try with_reducible rfl)
                    try simp only [Act.put, List.setIfInBounds_toArray, List.set_cons_zero, List.set_cons_succ]
                    refine wpAnyH_done (by kernel_rfl) ?_ _
                    go_wp2
                    go_roundw
                    case rel => exact ⟨p + 1, by omega, by go_num, below_drewN HYR.out 1⟩
                    case measure => simp [intOf]; omega
                  | false =>
                    have hin := HLO.out.2 hd
                    rw [hd] at hhd
                    rw [hin] at hhi
                    clear hin
                    go_wp2_with fail
                    refine wp_region_held_drew (S := (fun Z : World => Z.cell? ⟨W1.heap.size, 1, none⟩ = some (.slice ad md cd) ∧ Z.cell? ⟨go, oo + j, none⟩ = some (.slice (some ⟨gx, ox, none⟩) mo co) ∧ Z.cell? ⟨gx, ox + p, none⟩ = some (.int .i64 x) ∧ Z.cell? ⟨gi, oi + j, none⟩ = some (.slice ai mi ci))) (by kernel_rfl) (HC6.out _ rfl) (fun hHeld53 => ?_)
                    refine wpAnyH_take (i := 0) (oi := { dst := some 79, op := Go.Op.move (Go.Operand.tmp 11), type := 4, pos := "law.go:92", after := #[], guard := none }) (v := ?v54) rfl (by kernel_rfl) (by kernel_rfl) (by kernel_rfl) (fun _ _ _ h => h) (Or.inl ⟨by rfl, ?hy54⟩) (by assumption) ?_
                    case hy54 => (intro W hSw; (try dsimp only at hSw); go_simp; try with_reducible rfl)
                    try simp only [Act.put, List.setIfInBounds_toArray, List.set_cons_zero, List.set_cons_succ]
                    refine wpAnyH_take (i := 1) (oi := { dst := some 80, op := Go.Op.unOp Go.UnOp.not 4 (Go.Operand.tmp 79), type := 4, pos := "law.go:92", after := #[{ on := 0, ground := Go.Ground.data }], guard := none }) (v := ?v55) rfl (by kernel_rfl) (by kernel_rfl) (by kernel_rfl) (fun _ _ _ h => h) (Or.inl ⟨by rfl, ?hy55⟩) (by assumption) ?_
                    case hy55 => (intro W hSw; (try dsimp only at hSw); go_simp; try with_reducible rfl)
                    try simp only [Act.put, List.setIfInBounds_toArray, List.set_cons_zero, List.set_cons_succ]
                    refine wpAnyH_take (i := 2) (oi := { dst := some 81, op := Go.Op.move (Go.Operand.tmp 80), type := 4, pos := "law.go:92", after := #[{ on := 1, ground := Go.Ground.data }], guard := none }) (v := ?v56) rfl (by kernel_rfl) (by kernel_rfl) (by kernel_rfl) (fun _ _ _ h => h) (Or.inl ⟨by rfl, ?hy56⟩) (by assumption) ?_
                    case hy56 => (intro W hSw; (try dsimp only at hSw); go_simp; try with_reducible rfl)
                    try simp only [Act.put, List.setIfInBounds_toArray, List.set_cons_zero, List.set_cons_succ]
                    refine wpAnyH_take (i := 3) (oi := { dst := some 82, op := Go.Op.fieldAddr 41 (Go.Operand.tmp 9) 1, type := 0, pos := "law.go:92", after := #[{ on := 2, ground := Go.Ground.guard }], guard := some (2, false) }) (v := ?v57) rfl (by kernel_rfl) (by kernel_rfl) (by kernel_rfl) (fun _ _ _ h => h) (Or.inl ⟨by rfl, ?hy57⟩) (by assumption) ?_
                    case hy57 => (intro W hSw; (try dsimp only at hSw); go_simp; try with_reducible rfl)
                    try simp only [Act.put, List.setIfInBounds_toArray, List.set_cons_zero, List.set_cons_succ]
                    refine wpAnyH_take (i := 4) (oi := { dst := some 83, op := Go.Op.load 34 (Go.Operand.tmp 82), type := 34, pos := "law.go:92", after := #[{ on := 3, ground := Go.Ground.data }, { on := 2, ground := Go.Ground.guard }], guard := some (2, false) }) (v := ?v58) rfl (by kernel_rfl) (by kernel_rfl) (by kernel_rfl) (fun _ _ _ h => h) (Or.inl ⟨by rfl, ?hy58⟩) (by assumption) ?_
                    case hy58 => (intro W hSw; (try dsimp only at hSw); go_simp; try with_reducible rfl)
                    try simp only [Act.put, List.setIfInBounds_toArray, List.set_cons_zero, List.set_cons_succ]
                    refine wpAnyH_take (i := 5) (oi := { dst := some 84, op := Go.Op.move (Go.Operand.tmp 6), type := 23, pos := "law.go:92", after := #[{ on := 2, ground := Go.Ground.guard }], guard := some (2, false) }) (v := ?v59) rfl (by kernel_rfl) (by kernel_rfl) (by kernel_rfl) (fun _ _ _ h => h) (Or.inl ⟨by rfl, ?hy59⟩) (by assumption) ?_
                    case hy59 => (intro W hSw; (try dsimp only at hSw); go_simp; try with_reducible rfl)
                    try simp only [Act.put, List.setIfInBounds_toArray, List.set_cons_zero, List.set_cons_succ]
                    refine wpAnyH_take (i := 6) (oi := { dst := some 85, op := Go.Op.move (Go.Operand.tmp 8), type := 3, pos := "law.go:92", after := #[{ on := 2, ground := Go.Ground.guard }], guard := some (2, false) }) (v := ?v60) rfl (by kernel_rfl) (by kernel_rfl) (by kernel_rfl) (fun _ _ _ h => h) (Or.inl ⟨by rfl, ?hy60⟩) (by assumption) ?_
                    case hy60 => (intro W hSw; (try dsimp only at hSw); go_simp; try with_reducible rfl)
                    try simp only [Act.put, List.setIfInBounds_toArray, List.set_cons_zero, List.set_cons_succ]
                    refine wpAnyH_take (i := 7) (oi := { dst := some 86, op := Go.Op.indexAddr 23 (Go.Operand.tmp 84) (Go.Operand.tmp 85), type := 0, pos := "law.go:92", after := #[{ on := 5, ground := Go.Ground.data }, { on := 6, ground := Go.Ground.data }, { on := 2, ground := Go.Ground.guard }], guard := some (2, false) }) (v := ?v61) rfl (by kernel_rfl) (by kernel_rfl) (by kernel_rfl) (fun _ _ _ h => h) (Or.inl ⟨by rfl, ?hy61⟩) (by assumption) ?_
                    case hy61 => (intro W hSw; (try dsimp only at hSw); go_simp; try with_reducible rfl)
                    try simp only [Act.put, List.setIfInBounds_toArray, List.set_cons_zero, List.set_cons_succ]
                    refine wpAnyH_take (i := 8) (oi := { dst := some 87, op := Go.Op.load 34 (Go.Operand.tmp 86), type := 34, pos := "law.go:92", after := #[{ on := 7, ground := Go.Ground.data }, { on := 2, ground := Go.Ground.guard }], guard := some (2, false) }) (v := ?v62) rfl (by kernel_rfl) (by kernel_rfl) (by kernel_rfl) (fun _ _ _ h => h) (Or.inl ⟨by rfl, ?hy62⟩) (by assumption) ?_
                    case hy62 => (intro W hSw; (try dsimp only at hSw); go_simp; try with_reducible rfl)
                    try simp only [Act.put, List.setIfInBounds_toArray, List.set_cons_zero, List.set_cons_succ]
                    refine wpAnyH_take (i := 9) (oi := { dst := some 88, op := Go.Op.move (Go.Operand.tmp 10), type := 3, pos := "law.go:92", after := #[{ on := 2, ground := Go.Ground.guard }], guard := some (2, false) }) (v := ?v63) rfl (by kernel_rfl) (by kernel_rfl) (by kernel_rfl) (fun _ _ _ h => h) (Or.inl ⟨by rfl, ?hy63⟩) (by assumption) ?_
                    case hy63 => (intro W hSw; (try dsimp only at hSw); go_simp; try with_reducible rfl)
                    try simp only [Act.put, List.setIfInBounds_toArray, List.set_cons_zero, List.set_cons_succ]
                    refine wpAnyH_take (i := 10) (oi := { dst := some 89, op := Go.Op.indexAddr 34 (Go.Operand.tmp 87) (Go.Operand.tmp 88), type := 0, pos := "law.go:92", after := #[{ on := 8, ground := Go.Ground.data }, { on := 9, ground := Go.Ground.data }, { on := 2, ground := Go.Ground.guard }], guard := some (2, false) }) (v := ?v64) rfl (by kernel_rfl) (by kernel_rfl) (by kernel_rfl) (fun _ _ _ h => h) (Or.inl ⟨by rfl, ?hy64⟩) (by assumption) ?_
                    case hy64 => (intro W hSw; (try dsimp only at hSw); go_simp; try with_reducible rfl)
                    try simp only [Act.put, List.setIfInBounds_toArray, List.set_cons_zero, List.set_cons_succ]
                    refine wpAnyH_take (i := 11) (oi := { dst := some 90, op := Go.Op.load 3 (Go.Operand.tmp 89), type := 3, pos := "law.go:92", after := #[{ on := 10, ground := Go.Ground.data }, { on := 2, ground := Go.Ground.guard }], guard := some (2, false) }) (v := ?v65) rfl (by kernel_rfl) (by kernel_rfl) (by kernel_rfl) (fun _ _ _ h => h) (Or.inl ⟨by rfl, ?hy65⟩) (by assumption) ?_
                    case hy65 => (intro W hSw; (try dsimp only at hSw); go_simp; try with_reducible rfl)
                    try simp only [Act.put, List.setIfInBounds_toArray, List.set_cons_zero, List.set_cons_succ]
                    refine wpAnyH_ready (rs := [12]) (by kernel_rfl) (by simp) ?_
                    refine AllReadyH.cons (o := { dst := some 91, op := Go.Op.call { callee := Go.Callee.value (Go.Operand.func 20), args := #[Go.Operand.tmp 83, Go.Operand.tmp 90], argTypes := #[34, 3] }, type := 4, pos := "law.go:92", after := #[{ on := 4, ground := Go.Ground.data }, { on := 11, ground := Go.Ground.data }, { on := 2, ground := Go.Ground.chain }, { on := 2, ground := Go.Ground.guard }], guard := some (2, false) }) rfl (fun K hK => ?_) AllReadyH.nil
                    go_simp
                    go_at_call 20
                    refine hhd.mono ?_
                    rintro e w6 ⟨rfl, rfl⟩
                    go_wp2_with fail
                    refine hK.out _ _ (HC6.out _ rfl) (fun hHeld66 => ?_)
                    clear hK K
                    try simp only [Act.put, List.setIfInBounds_toArray, List.set_cons_zero, List.set_cons_succ]
                    refine wpAnyH_take (i := 13) (oi := { dst := some 92, op := Go.Op.unOp Go.UnOp.not 4 (Go.Operand.tmp 91), type := 4, pos := "law.go:92", after := #[{ on := 12, ground := Go.Ground.data }, { on := 2, ground := Go.Ground.guard }], guard := some (2, false) }) (v := ?v67) rfl (by kernel_rfl) (by kernel_rfl) (by kernel_rfl) (fun _ _ _ h => h) (Or.inl ⟨by rfl, ?hy67⟩) (by assumption) ?_
                    case hy67 => (intro W hSw; (try dsimp only at hSw); go_simp; try with_reducible rfl)
                    try simp only [Act.put, List.setIfInBounds_toArray, List.set_cons_zero, List.set_cons_succ]
                    refine wpAnyH_take (i := 14) (oi := { dst := some 93, op := Go.Op.move (Go.Operand.tmp 92), type := 4, pos := "law.go:92", after := #[{ on := 13, ground := Go.Ground.data }, { on := 12, ground := Go.Ground.chain }, { on := 2, ground := Go.Ground.guard }], guard := some (2, false) }) (v := ?v68) rfl (by kernel_rfl) (by kernel_rfl) (by kernel_rfl) (fun _ _ _ h => h) (Or.inl ⟨by rfl, ?hy68⟩) (by assumption) ?_
                    case hy68 => (intro W hSw; (try dsimp only at hSw); go_simp; try with_reducible rfl)
                    try simp only [Act.put, List.setIfInBounds_toArray, List.set_cons_zero, List.set_cons_succ]
                    refine wpAnyH_take (i := 15) (oi := { dst := some 94, op := Go.Op.move (Go.Operand.tmp 5), type := 23, pos := "law.go:92", after := #[{ on := 14, ground := Go.Ground.guard }], guard := some (14, true) }) (v := ?v69) rfl (by kernel_rfl) (by kernel_rfl) (by kernel_rfl) (fun _ _ _ h => h) (Or.inl ⟨by rfl, ?hy69⟩) (by assumption) ?_
                    case hy69 => (intro W hSw; (try dsimp only at hSw); go_simp; try with_reducible rfl)
                    try simp only [Act.put, List.setIfInBounds_toArray, List.set_cons_zero, List.set_cons_succ]
                    refine wpAnyH_take (i := 16) (oi := { dst := some 95, op := Go.Op.move (Go.Operand.tmp 8), type := 3, pos := "law.go:92", after := #[{ on := 14, ground := Go.Ground.guard }], guard := some (14, true) }) (v := ?v70) rfl (by kernel_rfl) (by kernel_rfl) (by kernel_rfl) (fun _ _ _ h => h) (Or.inl ⟨by rfl, ?hy70⟩) (by assumption) ?_
                    case hy70 => (intro W hSw; (try dsimp only at hSw); go_simp; try with_reducible rfl)
                    try simp only [Act.put, List.setIfInBounds_toArray, List.set_cons_zero, List.set_cons_succ]
                    refine wpAnyH_take (i := 17) (oi := { dst := some 96, op := Go.Op.indexAddr 23 (Go.Operand.tmp 94) (Go.Operand.tmp 95), type := 0, pos := "law.go:92", after := #[{ on := 15, ground := Go.Ground.data }, { on := 16, ground := Go.Ground.data }, { on := 14, ground := Go.Ground.guard }], guard := some (14, true) }) (v := ?v71) rfl (by kernel_rfl) (by kernel_rfl) (by kernel_rfl) (fun _ _ _ h => h) (Or.inl ⟨by rfl, ?hy71⟩) (by assumption) ?_
                    case hy71 => (intro W hSw; (try dsimp only at hSw); go_simp; try with_reducible rfl)
                    try simp only [Act.put, List.setIfInBounds_toArray, List.set_cons_zero, List.set_cons_succ]
                    refine wpAnyH_take (i := 18) (oi := { dst := some 97, op := Go.Op.load 34 (Go.Operand.tmp 96), type := 34, pos := "law.go:92", after := #[{ on := 17, ground := Go.Ground.data }, { on := 14, ground := Go.Ground.guard }], guard := some (14, true) }) (v := ?v72) rfl (by kernel_rfl) (by kernel_rfl) (by kernel_rfl) (fun _ _ _ h => h) (Or.inl ⟨by rfl, ?hy72⟩) (by assumption) ?_
                    case hy72 => (intro W hSw; (try dsimp only at hSw); go_simp; try with_reducible rfl)
                    try simp only [Act.put, List.setIfInBounds_toArray, List.set_cons_zero, List.set_cons_succ]
                    refine wpAnyH_take (i := 19) (oi := { dst := some 98, op := Go.Op.move (Go.Operand.tmp 6), type := 23, pos := "law.go:92", after := #[{ on := 14, ground := Go.Ground.guard }], guard := some (14, true) }) (v := ?v73) rfl (by kernel_rfl) (by kernel_rfl) (by kernel_rfl) (fun _ _ _ h => h) (Or.inl ⟨by rfl, ?hy73⟩) (by assumption) ?_
                    case hy73 => (intro W hSw; (try dsimp only at hSw); go_simp; try with_reducible rfl)
                    try simp only [Act.put, List.setIfInBounds_toArray, List.set_cons_zero, List.set_cons_succ]
                    refine wpAnyH_take (i := 20) (oi := { dst := some 99, op := Go.Op.move (Go.Operand.tmp 8), type := 3, pos := "law.go:92", after := #[{ on := 14, ground := Go.Ground.guard }], guard := some (14, true) }) (v := ?v74) rfl (by kernel_rfl) (by kernel_rfl) (by kernel_rfl) (fun _ _ _ h => h) (Or.inl ⟨by rfl, ?hy74⟩) (by assumption) ?_
                    case hy74 => (intro W hSw; (try dsimp only at hSw); go_simp; try with_reducible rfl)
                    try simp only [Act.put, List.setIfInBounds_toArray, List.set_cons_zero, List.set_cons_succ]
                    refine wpAnyH_take (i := 21) (oi := { dst := some 100, op := Go.Op.indexAddr 23 (Go.Operand.tmp 98) (Go.Operand.tmp 99), type := 0, pos := "law.go:92", after := #[{ on := 19, ground := Go.Ground.data }, { on := 20, ground := Go.Ground.data }, { on := 14, ground := Go.Ground.guard }], guard := some (14, true) }) (v := ?v75) rfl (by kernel_rfl) (by kernel_rfl) (by kernel_rfl) (fun _ _ _ h => h) (Or.inl ⟨by rfl, ?hy75⟩) (by assumption) ?_
                    case hy75 => (intro W hSw; (try dsimp only at hSw); go_simp; try with_reducible rfl)
                    try simp only [Act.put, List.setIfInBounds_toArray, List.set_cons_zero, List.set_cons_succ]
                    refine wpAnyH_take (i := 22) (oi := { dst := some 101, op := Go.Op.load 34 (Go.Operand.tmp 100), type := 34, pos := "law.go:92", after := #[{ on := 21, ground := Go.Ground.data }, { on := 14, ground := Go.Ground.guard }], guard := some (14, true) }) (v := ?v76) rfl (by kernel_rfl) (by kernel_rfl) (by kernel_rfl) (fun _ _ _ h => h) (Or.inl ⟨by rfl, ?hy76⟩) (by assumption) ?_
                    case hy76 => (intro W hSw; (try dsimp only at hSw); go_simp; try with_reducible rfl)
                    try simp only [Act.put, List.setIfInBounds_toArray, List.set_cons_zero, List.set_cons_succ]
                    refine wpAnyH_take (i := 23) (oi := { dst := some 102, op := Go.Op.move (Go.Operand.tmp 10), type := 3, pos := "law.go:92", after := #[{ on := 14, ground := Go.Ground.guard }], guard := some (14, true) }) (v := ?v77) rfl (by kernel_rfl) (by kernel_rfl) (by kernel_rfl) (fun _ _ _ h => h) (Or.inl ⟨by rfl, ?hy77⟩) (by assumption) ?_
                    case hy77 => (intro W hSw; (try dsimp only at hSw); go_simp; try with_reducible rfl)
                    try simp only [Act.put, List.setIfInBounds_toArray, List.set_cons_zero, List.set_cons_succ]
                    refine wpAnyH_take (i := 24) (oi := { dst := some 103, op := Go.Op.indexAddr 34 (Go.Operand.tmp 101) (Go.Operand.tmp 102), type := 0, pos := "law.go:92", after := #[{ on := 22, ground := Go.Ground.data }, { on := 23, ground := Go.Ground.data }, { on := 14, ground := Go.Ground.guard }], guard := some (14, true) }) (v := ?v78) rfl (by kernel_rfl) (by kernel_rfl) (by kernel_rfl) (fun _ _ _ h => h) (Or.inl ⟨by rfl, ?hy78⟩) (by assumption) ?_
                    case hy78 => (intro W hSw; (try dsimp only at hSw); go_simp; try with_reducible rfl)
                    try simp only [Act.put, List.setIfInBounds_toArray, List.set_cons_zero, List.set_cons_succ]
                    refine wpAnyH_take (i := 25) (oi := { dst := some 104, op := Go.Op.load 3 (Go.Operand.tmp 103), type := 3, pos := "law.go:92", after := #[{ on := 24, ground := Go.Ground.data }, { on := 14, ground := Go.Ground.guard }], guard := some (14, true) }) (v := ?v79) rfl (by kernel_rfl) (by kernel_rfl) (by kernel_rfl) (fun _ _ _ h => h) (Or.inl ⟨by rfl, ?hy79⟩) (by assumption) ?_
                    case hy79 => (intro W hSw; (try dsimp only at hSw); go_simp; try with_reducible rfl)
                    try simp only [Act.put, List.setIfInBounds_toArray, List.set_cons_zero, List.set_cons_succ]
                    refine wpAnyH_ready (rs := [26]) (by kernel_rfl) (by simp) ?_
                    refine AllReadyH.cons (o := { dst := some 105, op := Go.Op.call { callee := Go.Callee.value (Go.Operand.func 20), args := #[Go.Operand.tmp 97, Go.Operand.tmp 104], argTypes := #[34, 3] }, type := 4, pos := "law.go:92", after := #[{ on := 18, ground := Go.Ground.data }, { on := 25, ground := Go.Ground.data }, { on := 14, ground := Go.Ground.chain }, { on := 14, ground := Go.Ground.guard }], guard := some (14, true) }) rfl (fun K hK => ?_) AllReadyH.nil
                    go_simp
                    go_at_call 20
                    refine hhi.mono ?_
                    rintro e w6 ⟨rfl, rfl⟩
                    go_wp2_with fail
                    refine hK.out _ _ (HC6.out _ rfl) (fun hHeld80 => ?_)
                    clear hK K
                    try simp only [Act.put, List.setIfInBounds_toArray, List.set_cons_zero, List.set_cons_succ]
                    refine wpAnyH_take (i := 27) (oi := { dst := some 106, op := Go.Op.unOp Go.UnOp.not 4 (Go.Operand.tmp 105), type := 4, pos := "law.go:92", after := #[{ on := 26, ground := Go.Ground.data }, { on := 14, ground := Go.Ground.guard }], guard := some (14, true) }) (v := ?v81) rfl (by kernel_rfl) (by kernel_rfl) (by kernel_rfl) (fun _ _ _ h => h) (Or.inl ⟨by rfl, ?hy81⟩) (by assumption) ?_
                    case hy81 => (intro W hSw; (try dsimp only at hSw); go_simp; try with_reducible rfl)
                    try simp only [Act.put, List.setIfInBounds_toArray, List.set_cons_zero, List.set_cons_succ]
                    refine wpAnyH_take (i := 28) (oi := { dst := some 107, op := Go.Op.pick (Go.Operand.tmp 93) (Go.Operand.tmp 106) (Go.Operand.const (Go.Value.bool false)), type := 4, pos := "law.go:92", after := #[{ on := 14, ground := Go.Ground.data }, { on := 27, ground := Go.Ground.data }, { on := 2, ground := Go.Ground.guard }], guard := some (2, false) }) (v := ?v82) rfl (by kernel_rfl) (by kernel_rfl) (by kernel_rfl) (fun _ _ _ h => h) (Or.inl ⟨by rfl, ?hy82⟩) (by assumption) ?_
                    case hy82 => (intro W hSw; (try dsimp only at hSw); go_simp; try with_reducible rfl)
                    try simp only [Act.put, List.setIfInBounds_toArray, List.set_cons_zero, List.set_cons_succ]
                    refine wpAnyH_take (i := 29) (oi := { dst := some 108, op := Go.Op.pick (Go.Operand.tmp 81) (Go.Operand.const (Go.Value.bool true)) (Go.Operand.tmp 107), type := 4, pos := "law.go:92", after := #[{ on := 2, ground := Go.Ground.data }, { on := 28, ground := Go.Ground.data }], guard := none }) (v := ?v83) rfl (by kernel_rfl) (by kernel_rfl) (by kernel_rfl) (fun _ _ _ h => h) (Or.inl ⟨by rfl, ?hy83⟩) (by assumption) ?_
                    case hy83 => (intro W hSw; (try dsimp only at hSw); go_simp; try with_reducible rfl)
                    try simp only [Act.put, List.setIfInBounds_toArray, List.set_cons_zero, List.set_cons_succ]
                    refine wpAnyH_done (by kernel_rfl) ?_ _
                    go_wp2
                    go_roundw
                    case rel => exact ⟨p + 1, by omega, by go_num, below_drewN HYR.out 1⟩
                    case measure => simp [intOf]; omega
            · obtain rfl : p = mo := by omega
              have bmi : (mi : Int) ≤ 9223372036854775807 := by have := HL.out.2.2.2.1; omega
              go_wp2
              clear x0 x1 x2 xi xo s0 s1 s2
              go_loopw [13, 14] (fun i _ wr => ∃ p : Nat, p ≤ mi ∧ i = .int .i64 p ∧ Hid (Below W2.heap.size W2 wr)) (fun i _ _ => mi - (intOf i).toNat)
              case atStart => exact ⟨0, Nat.zero_le _, rfl, HX.out⟩
              case round =>
                obtain ⟨p, hp, rfl, HZ⟩ := hrel
                obtain ⟨Z, rfl⟩ : ∃ Z, Z = wr := ⟨wr, rfl⟩
                obtain ⟨⟨x0, x1, x2⟩, ⟨xi, xo⟩, ⟨s0, s1, s2⟩, ⟨IU, ID, _, II, IO⟩, M, hbz⟩ := HC.out Z HZ.out
                have HZR := hide HZ.out
                by_cases hpl : p < mi
                · obtain ⟨x, hx⟩ : ∃ x, (zs (inL bs K j))[p]? = some x := ⟨(zs (inL bs K j))[p]'(by rw [HMN.out.2.1]; exact hpl), by simp⟩
                  have HLI := hide (least_in HS.out HB.out (List.mem_of_getElem? hx))
                  have hhu := has13_any x IU
                  have hho := has13_any x IO
                  have hhd := has13_any x ID
                  obtain ⟨gx, ox, rfl, lx, kx⟩ := II.cell hx
                  cases p with
                  | zero =>
                    rw [Nat.add_zero] at kx
                    clear IU ID IO II M hbz hx
                    have bp : (0 : Int) < (mi : Int) := by omega
                    cases hu : hasI b.u x with
                    | true =>
                      rw [hu] at hhu
                      clear hho hhd
                      go_wp2_with (first
                        | (go_at_call 20; refine hhu.mono ?_; rintro e w6 ⟨rfl, rfl⟩))
                      go_roundw
                      case rel => exact ⟨0 + 1, by omega, by go_num, HZR.out⟩
                      case measure => simp [intOf]; omega
                    | false =>
                      rw [hu] at hhu
                      obtain ⟨h1, h2⟩ := HLI.out hu
                      rw [h1] at hho
                      rw [h2] at hhd
                      clear h1 h2
                      go_wp2_with (first
                        | (have kk := st2; clear kk; go_at_call 20; with_reducible refine hhd.mono ?_; rintro e w6 ⟨rfl, rfl⟩)
                        | (have kk := st1; clear kk; go_at_call 20; with_reducible refine hho.mono ?_; rintro e w6 ⟨rfl, rfl⟩; have st2 : True := trivial)
                        | (go_at_call 20; with_reducible refine hhu.mono ?_; rintro e w6 ⟨rfl, rfl⟩; have st1 : True := trivial))
                      go_roundw
                      case rel => exact ⟨0 + 1, by omega, by go_num, HZR.out⟩
                      case measure => simp [intOf]; omega
                  | succ p =>
                    obtain ⟨x', hx'⟩ : ∃ x, (zs (inL bs K j))[p]? = some x := ⟨(zs (inL bs K j))[p]'(by rw [HMN.out.2.1]; omega), by simp⟩
                    obtain ⟨gx', ox', e', lx', kx'⟩ := II.cell hx'
                    cases e'
                    have hlt' := in_rises hx' hx
                    have hge : decide (x ≤ x') = false := by simp; omega
                    have bp : (p : Int) + 1 < (mi : Int) := by omega
                    clear IU ID IO II M hbz hx hx' hlt'
                    cases hu : hasI b.u x with
                    | true =>
                      rw [hu] at hhu
                      clear hho hhd
                      go_wp2_with (first
                        | (go_at_call 20; refine hhu.mono ?_; rintro e w6 ⟨rfl, rfl⟩))
                      go_roundw
                      case rel => exact ⟨p + 1 + 1, by omega, by go_num, HZR.out⟩
                      case measure => simp [intOf]; omega
                    | false =>
                      rw [hu] at hhu
                      obtain ⟨h1, h2⟩ := HLI.out hu
                      rw [h1] at hho
                      rw [h2] at hhd
                      clear h1 h2
                      go_wp2_with (first
                        | (have kk := st2; clear kk; go_at_call 20; with_reducible refine hhd.mono ?_; rintro e w6 ⟨rfl, rfl⟩)
                        | (have kk := st1; clear kk; go_at_call 20; with_reducible refine hho.mono ?_; rintro e w6 ⟨rfl, rfl⟩; have st2 : True := trivial)
                        | (go_at_call 20; with_reducible refine hhu.mono ?_; rintro e w6 ⟨rfl, rfl⟩; have st1 : True := trivial))
                      go_roundw
                      case rel => exact ⟨p + 1 + 1, by omega, by go_num, HZR.out⟩
                      case measure => simp [intOf]; omega
                · obtain rfl : p = mi := by omega
                  have HM2 := hide (And.intro M hbz)
                  clear IU ID II IO M hbz
                  go_wp2
                  go_roundw
                  case rel => exact ⟨j + 1, by omega, by go_num, HM2.out⟩
                  case measure => simp [intOf]; omega
        · obtain rfl : j = n := by omega
          have HBB := hide HM.out.2
          clear HM
          go_wp2
          go_ret
          exact ⟨rfl, HBB.out⟩
  · have hne0 : (fltP bs k != 0) = true := by simpa using h0
    generalize hq : fltP bs k = q at *
    obtain ⟨ao, cap, rfl, _⟩ := R
    go_enter Try.func6, Try.ntmps6
    go_wp2_with (first
      | (have kk := hb2; clear kk; go_at_call 11; refine (ha _).mono ?_; rintro e w3 ⟨rfl, hb3⟩)
      | (have kk := hb1; clear kk; go_at_call 11; refine (ha _).mono ?_; rintro e w2 ⟨rfl, hb2⟩)
      | (go_at_call 9; with_reducible refine hs.mono ?_; rintro e w1 ⟨⟨v1, v2, rfl, hO⟩, hb1⟩; clear hO))
    go_ret
    exact ⟨rfl, hb1.trans ((hb2.trans (hb3.mono hb2.size)).mono hb1.size)⟩
end
end Go.Proofs.Ytaejhppfcmeopaa
