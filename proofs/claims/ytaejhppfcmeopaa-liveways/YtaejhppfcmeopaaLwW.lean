/- The law LiveWays. -/
import Derived.Test.YtaejhppfcmeopaaLwQ
namespace Go.Proofs.Ytaejhppfcmeopaa
open Go.RowKit
/-- What is needed at a block was written on the way, or is needed at its beginning. -/
def Wy (bs : List Blk) (K a : Nat) (xs : List Int) : Prop := ∀ v, v < K → Need bs v a → (v : Int) ∈ xs ∨ Need bs v 0
theorem Wy.step {bs : List Blk} {K a a' : Nat} {xs : List Int} {b : Blk} (W : Wy bs K a xs) (hb : bs[a]? = some b) (h : (a' : Int) ∈ b.n) : Wy bs K a' (xs ++ b.d) := fun v hv hn => by
  by_cases hd : (v : Int) ∈ b.d
  · exact .inl (by simp [hd])
  · rcases W v hv (.pass hb h hd hn) with h1 | h1
    · exact .inl (by simp [h1])
    · exact .inr h1
theorem Wy.use {bs : List Blk} {K a : Nat} {xs : List Int} {b : Blk} (W : Wy bs K a xs) (S : Snd bs K) (hb : bs[a]? = some b) {x : Int} (hx : x ∈ b.u) (hn : hasI xs x = false) : hasI (zs (inL bs K 0)) x = true := by
  obtain ⟨v, rfl, hv⟩ := S.u a b hb x hx
  rw [hasI_iff, in_mem S]
  rcases W v hv (.use hb hx) with h | h
  · exact absurd h (hasI_false.mp hn)
  · exact ⟨v, rfl, hv, h⟩
theorem TurnsAt.cell {w : World} {ao : Option Addr} {n cap i t : Nat} {l : List Nat} (R : TurnsAt w (.slice ao n cap) l) (h : l[i]? = some t) : t < 256 ∧ ∃ g o, ao = some ⟨g, o, none⟩ ∧ g < w.heap.size ∧ w.cell? ⟨g, o + i, none⟩ = some (.int .u8 t) := by
  obtain ⟨a, c, h1, _, h2⟩ := R
  cases h1
  exact h2 i t h
section
variable {w : World}
set_option maxRecDepth 100000 in
set_option maxHeartbeats 8000000 in
theorem ways_law {v v2 : Value} {bs : List Blk} (k : Int) (R : BlksAt w v bs) (hbd : Bnd bs) {ts : List Nat} (RT : TurnsAt w v2 ts) : Calls Try.prog 5 #[v, .int .i64 k, v2] w fun e w' => e = .returned (.bool true) ∧ Below w.heap.size w w' := by
  have hs := solve_any k R
  have ha := fun W : World => awake_any W
  have HRT := hide RT
  obtain ⟨at0, ct, rfl, htl, _⟩ := RT
  by_cases h0 : fltP bs k = 0
  · obtain ⟨K, rfl, S⟩ := snd_of h0
    rw [h0] at hs
    have hl := S.l
    have hsm := fun (W : World) (h : Below w.heap.size w W) => small_any (R.below h) hl
    have HR := hide R
    have HSM := hide hsm
    have HS := hide S
    obtain ⟨ao, cap, rfl, _⟩ := R
    obtain ⟨n, hn⟩ : ∃ n, bs.length = n := ⟨_, rfl⟩
    have HN := hide hn
    rw [hn] at hs HSM hl ⊢
    have hn2 : (n : Int) ≤ 512 := by omega
    obtain ⟨tn, htn⟩ : ∃ tn, ts.length = tn := ⟨_, rfl⟩
    have HTN := hide htn
    rw [htn] at HRT htl ⊢
    have htl2 : (tn : Int) ≤ 9223372036854775807 := by omega
    have HBD := hide hbd
    clear hsm S hn h0 htn hbd
    go_enter Try.func5, Try.ntmps5
    go_upto_region 2 with (go_at_call 9; with_reducible refine hs.mono ?_; rintro e w1 ⟨⟨v1, v2, rfl, hO⟩, hb1⟩; have HO := hide (And.intro hO hb1); clear hO hb1)
    obtain ⟨q1, q2⟩ := HO.out.1.2 K rfl HS.out
    have hb1 := HO.out.2
    obtain ⟨a1, c1, rfl⟩ := q1.slice
    obtain ⟨a2, c2, rfl⟩ := q2.slice
    rw [res_in_len, HN.out] at q1
    rw [res_in_len, res_out_len, HN.out]
    have HQ := hide (And.intro q1 hb1)
    clear q1 q2 hb1 HO hs
    have hsm1 := HSM.out
    have HA := hide ha
    clear ha HSM
    by_cases hn0 : n = 0
    · subst hn0
      clear hsm1
      go_wp2_with (first
        | (have kk := hb2; clear kk; go_at_call 11; refine (HA.out _).mono ?_; rintro e w3 ⟨rfl, hb3⟩)
        | (go_at_call 11; refine (HA.out _).mono ?_; rintro e w2 ⟨rfl, hb2⟩))
      go_ret
      exact ⟨rfl, HQ.out.2.trans ((hb2.trans (hb3.mono hb2.size)).mono HQ.out.2.size)⟩
    · have hnz : ((n : Int) == 0) = false := by simp; omega
      have hnn : ((n : Int) == (n : Int)) = true := by simp
      go_wp2_with (first
        | (have kk := hb3; clear kk; go_at_call 11; refine (HA.out _).mono ?_; rintro e w4 ⟨rfl, hb4⟩)
        | (go_at_call 12; with_reducible refine (hsm1 w2 (HQ.out.2.trans (hb2.mono HQ.out.2.size))).mono ?_; rintro e w3 ⟨⟨r, rfl, HSP⟩, hb3⟩; cases r)
        | (go_at_call 11; refine (HA.out _).mono ?_; rintro e w2 ⟨rfl, hb2⟩))
      · go_ret
        have hb5 := hb2.trans (hb3.mono hb2.size)
        exact ⟨rfl, HQ.out.2.trans ((hb5.trans (hb4.mono hb5.size)).mono HQ.out.2.size)⟩
      · have HSM : smallP bs = true := (HSP.out HBD.out).symm
        have M3 : Hid (BlksAt w3 (.slice ao n cap) bs ∧ LsAt w3 (.slice a1 n c1) (resIn bs K) ∧ TurnsAt w3 (.slice at0 tn ct) ts ∧ Below w.heap.size w w3) := hide (by
          have hb5 := hb2.trans (hb3.mono hb2.size)
          have hb6 := HQ.out.2.trans (hb5.mono HQ.out.2.size)
          have hts := HRT.out.below hb6
          exact ⟨by have := HR.out.below hb6; rw [HN.out] at this; exact this, HQ.out.1.below hb5, hts, hb6⟩)
        have HSMH := hide HSM
        have ho0 : (w3.alloc (.cells #[] 3)).ownsRow w3.heap.size 3 1 (.slice (some ⟨w3.heap.size, 0, none⟩) 0 0) 0 [] := ⟨rfl, .inr ⟨w3.heap.size, 0, #[], rfl, Nat.le_refl _, heap_new _ _ rfl, Nat.le_refl _, by simp, rfl, rfl⟩⟩
        have HO0 := hide (And.intro ho0 ((Below.refl w3.heap.size w3).alloc (Nat.le_refl _) (.cells #[] 3)))
        clear HQ HR HRT hb2 hb3 hsm1 HA ho0 HSM HSP
        go_loopw [10, 11, 12, 13, 14] (fun a vw i _ _ wr => ∃ (i' a' : Nat) (xs : List Int), i' ≤ 30 ∧ i = .int .i64 i' ∧ a = .int .i64 a' ∧ a' < n ∧ Hid (wr.ownsRow w3.heap.size 3 1 vw xs.length (ints xs) ∧ (∃ b m c, vw = .slice (some b) m c) ∧ xs.length ≤ i' * 400 ∧ Wy bs K a' xs ∧ Below w3.heap.size w3 wr)) (fun _ _ i _ _ _ => 30 - (intOf i).toNat)
        case atStart => exact ⟨0, 0, [], by omega, rfl, rfl, by omega, HO0.out.1, ⟨_, _, _, rfl⟩, by simp, fun _ _ h => .inr h, HO0.out.2⟩
        case round =>
          obtain ⟨i, a, xs, hi30, rfl, rfl, han, HL⟩ := hrel
          obtain ⟨W1, rfl⟩ : ∃ W1, W1 = wr := ⟨wr, rfl⟩
          obtain ⟨ba, mm, cc, hvw⟩ := HL.out.2.1
          subst hvw
          by_cases hin : i < tn
          · have hin2 : (i : Int) < (tn : Int) := by omega
            by_cases hi : i < 30
            · have hi2 : (i : Int) < 30 := by omega
              obtain ⟨hO, _, hxl, hwy, hB⟩ := HL.out
              obtain ⟨b, hb⟩ : ∃ b, bs[a]? = some b := ⟨bs[a]'(by rw [HN.out]; exact han), by simp⟩
              have hsl := small_len HSMH.out hb
              have MB := M3.out.1.below hB
              have MI := M3.out.2.1.below hB
              have MT := M3.out.2.2.1.below hB
              obtain ⟨g, o, au, cu, ad, cd, an, cn, rfl, hg3, e0, e1, e2, IU3, ID3, IN3⟩ := M3.out.1.get hb
              rw [← keep_cell hB hg3] at e0 e1 e2
              have hg := Nat.lt_of_lt_of_le hg3 hB.size
              have IU := IU3.below hB
              have ID := ID3.below hB
              have IN := IN3.below hB
              have HIN3 := hide IN3
              clear IU3 ID3 IN3 hg3
              have ha2 : (a : Int) < (n : Int) := by omega
              have hbA := (Below.refl W1.heap.size W1).alloc (Nat.le_refl _) (.cells #[.slice au b.u.length cu, .slice ad b.d.length cd, .slice an b.n.length cn] 41)
              have hbx := heap_new W1 (.cells #[.slice au b.u.length cu, .slice ad b.d.length cd, .slice an b.n.length cn] 41) rfl
              obtain ⟨gi, oi, ai, ci, rfl, li, ki, II⟩ := MI.list (res_in (K := K) (show 0 < bs.length by rw [HN.out]; omega))
              rw [Nat.add_zero] at ki
              obtain ⟨t, ht⟩ : ∃ t, ts[i]? = some t := ⟨ts[i]'(by rw [HTN.out]; exact hin), by simp⟩
              obtain ⟨ht256, gt, ot, rfl, lt, kt⟩ := MT.cell ht
              obtain ⟨W2, hW2⟩ : ∃ W2, W1.alloc (.cells #[.slice au b.u.length cu, .slice ad b.d.length cd, .slice an b.n.length cn] 41) = W2 := ⟨_, rfl⟩
              have hs2 : W1.heap.size < W2.heap.size := by rw [← hW2]; simp
              have hbA2 : Below W1.heap.size W1 W2 := by rw [← hW2]; exact hbA
              rw [hW2] at hbx
              have HB := hide hb
              have HO1 := hide (And.intro hO (And.intro hxl (And.intro hwy hB)))
              have HC : Hid (∀ X : World, Below W2.heap.size W2 X → X.heap[W1.heap.size]? = some (.cells #[.slice au b.u.length cu, .slice ad b.d.length cd, .slice an b.n.length cn] 41 (0, 0)) ∧ X.cell? ⟨gi, oi, none⟩ = some (.slice ai (zs (inL bs K 0)).length ci) ∧ X.cell? ⟨gt, ot + i, none⟩ = some (.int .u8 t) ∧ (gi < X.heap.size ∧ gt < X.heap.size) ∧ (IntsAt X (.slice au b.u.length cu) b.u ∧ IntsAt X (.slice ad b.d.length cd) b.d ∧ IntsAt X (.slice an b.n.length cn) b.n ∧ IntsAt X (.slice ai (zs (inL bs K 0)).length ci) (zs (inL bs K 0))) ∧ X.ownsRow w3.heap.size 3 1 (.slice (some ba) mm cc) xs.length (ints xs) ∧ Below W1.heap.size W1 X) := hide (fun X hX => by
                have hb2 : Below W1.heap.size W1 X := hbA2.trans (hX.mono (Nat.le_of_lt hs2))
                have hx := (hX.block _ hs2).trans hbx
                exact ⟨hx, by rw [keep_cell hb2 li]; exact ki, by rw [keep_cell hb2 lt]; exact kt, ⟨Nat.lt_of_lt_of_le li hb2.size, Nat.lt_of_lt_of_le lt hb2.size⟩, ⟨IU.below hb2, ID.below hb2, IN.below hb2, II.below hb2⟩, ownsRow_keep hO fun g hg => hb2.block g (hO.lt g hg).2, hb2⟩)
              have HLN := hide (And.intro (IU.len) (And.intro ID.len (And.intro IN.len II.len)))
              have hmsl := hsl
              have hmu9 : (b.u.length : Int) ≤ 400 := by omega
              clear IU ID IN II ki kt li lt hbx hbA hbA2 hb HL hO hxl hwy hB MB MI MT ht
              generalize hmn : b.n.length = mn at *
              generalize hmi : (zs (inL bs K 0)).length = mi at *
              generalize hmu : b.u.length = mu at *
              generalize hmd : b.d.length = md at *
              have HMN := hide (And.intro hmn (And.intro hmi (And.intro hmu hmd)))
              clear hmn hmi hmu hmd
              go_wp2
              go_loopw [14] (fun k wr => ∃ q : Nat, q ≤ mu ∧ k = .int .i64 q ∧ Hid (Below W2.heap.size W2 wr)) (fun k _ => mu - (intOf k).toNat)
              case atStart => exact ⟨0, Nat.zero_le _, rfl, Below.refl _ _⟩
              case round =>
                obtain ⟨q, hq, rfl, HX⟩ := hrel
                obtain ⟨X, rfl⟩ : ∃ X, X = wr := ⟨wr, rfl⟩
                obtain ⟨hx, ki, kt, ⟨li, lt⟩, ⟨IU, ID, IN, II⟩, hO, hB1⟩ := HC.out X HX.out
                have lbx := lt_of_block hx
                by_cases hql : q < mu
                · obtain ⟨x, hxq⟩ : ∃ x, b.u[q]? = some x := ⟨b.u[q]'(by rw [HMN.out.2.2.1]; exact hql), by simp⟩
                  obtain ⟨gu, ou, rfl, lu, ku⟩ := IU.cell hxq
                  have k0 := cell_of (o := 0) hx rfl
                  have HUS := hide (HO1.out.2.2.1.use HS.out HB.out (List.mem_of_getElem? hxq))
                  have bq : (q : Int) < (mu : Int) := by omega
                  have hn1 : 0 < n := by omega
                  have hIx : IntsAt X (.slice (some ba) mm cc) xs := IntsAt.of_row hO (by have := HO1.out.2.1; omega)
                  have hbd1 := below_drewN (Below.refl X.heap.size X) 1
                  have hhw := has13_any (w := X.drewN 1) x (hIx.below hbd1)
                  have hhi := has13_any (w := X.drewN 1) x (II.below hbd1)
                  have HC5 : Hid (∀ Z : World, Z.heap = X.heap → Z.cell? ⟨W1.heap.size, 0, none⟩ = some (.slice (some ⟨gu, ou, none⟩) mu cu) ∧ Z.cell? ⟨gu, ou + q, none⟩ = some (.int .i64 x) ∧ Z.cell? ⟨gi, oi, none⟩ = some (.slice ai mi ci)) := hide (fun Z hZ => by
                    have hz : ∀ (g o : Nat), Z.cell? ⟨g, o, none⟩ = X.cell? ⟨g, o, none⟩ := fun g o => World.cell?_of_block (a := ⟨g, o, none⟩) (by rw [hZ])
                    rw [hz, hz, hz]
                    exact ⟨k0, ku, ki⟩)
                  clear IU ID IN II hO hB1 hx hIx hbd1 hxq
                  cases hw : hasI xs x with
                  | true =>
                    rw [hw] at hhw
                    clear hhi
                    go_wp2_with fail
                    refine wp_region_held_drew (S := (fun Z : World => Z.cell? ⟨W1.heap.size, 0, none⟩ = some (.slice (some ⟨gu, ou, none⟩) mu cu) ∧ Z.cell? ⟨gu, ou + q, none⟩ = some (.int .i64 x) ∧ Z.cell? ⟨gi, oi, none⟩ = some (.slice ai mi ci))) (by kernel_rfl) (HC5.out _ rfl) (fun hHeld1 => ?_)
                    refine wpAnyH_take (i := 0) (oi := { dst := some 79, op := Go.Op.move (Go.Operand.tmp 11), type := 34, pos := "law.go:66", after := #[], guard := none }) (v := ?v2) rfl (by kernel_rfl) (by kernel_rfl) (by kernel_rfl) (fun _ _ _ h => h) (Or.inl ⟨by rfl, ?hy2⟩) (by assumption) ?_
                    case hy2 => (intro W hSw; (try dsimp only at hSw); go_simp; try with_reducible rfl)
                    try simp only [Act.put, List.setIfInBounds_toArray, List.set_cons_zero, List.set_cons_succ]
                    refine wpAnyH_take (i := 1) (oi := { dst := some 80, op := Go.Op.fieldAddr 41 (Go.Operand.tmp 13) 0, type := 0, pos := "law.go:66", after := #[], guard := none }) (v := ?v3) rfl (by kernel_rfl) (by kernel_rfl) (by kernel_rfl) (fun _ _ _ h => h) (Or.inl ⟨by rfl, ?hy3⟩) (by assumption) ?_
                    case hy3 => (intro W hSw; (try dsimp only at hSw); go_simp; try with_reducible rfl)
                    try simp only [Act.put, List.setIfInBounds_toArray, List.set_cons_zero, List.set_cons_succ]
                    refine wpAnyH_take (i := 2) (oi := { dst := some 81, op := Go.Op.load 34 (Go.Operand.tmp 80), type := 34, pos := "law.go:66", after := #[{ on := 1, ground := Go.Ground.data }], guard := none }) (v := ?v4) rfl (by kernel_rfl) (by kernel_rfl) (by kernel_rfl) (fun _ _ _ h => h) (Or.inl ⟨by rfl, ?hy4⟩) (by assumption) ?_
                    case hy4 => (intro W hSw; (try dsimp only at hSw); go_simp; try with_reducible rfl)
                    try simp only [Act.put, List.setIfInBounds_toArray, List.set_cons_zero, List.set_cons_succ]
                    refine wpAnyH_take (i := 3) (oi := { dst := some 82, op := Go.Op.move (Go.Operand.tmp 14), type := 3, pos := "law.go:66", after := #[], guard := none }) (v := ?v5) rfl (by kernel_rfl) (by kernel_rfl) (by kernel_rfl) (fun _ _ _ h => h) (Or.inl ⟨by rfl, ?hy5⟩) (by assumption) ?_
                    case hy5 => (intro W hSw; (try dsimp only at hSw); go_simp; try with_reducible rfl)
                    try simp only [Act.put, List.setIfInBounds_toArray, List.set_cons_zero, List.set_cons_succ]
                    refine wpAnyH_take (i := 4) (oi := { dst := some 83, op := Go.Op.indexAddr 34 (Go.Operand.tmp 81) (Go.Operand.tmp 82), type := 0, pos := "law.go:66", after := #[{ on := 2, ground := Go.Ground.data }, { on := 3, ground := Go.Ground.data }], guard := none }) (v := ?v6) rfl (by kernel_rfl) (by kernel_rfl) (by kernel_rfl) (fun _ _ _ h => h) (Or.inl ⟨by rfl, ?hy6⟩) (by assumption) ?_
                    case hy6 => (intro W hSw; (try dsimp only at hSw); go_simp; try with_reducible rfl)
                    try simp only [Act.put, List.setIfInBounds_toArray, List.set_cons_zero, List.set_cons_succ]
                    refine wpAnyH_take (i := 5) (oi := { dst := some 84, op := Go.Op.load 3 (Go.Operand.tmp 83), type := 3, pos := "law.go:66", after := #[{ on := 4, ground := Go.Ground.data }], guard := none }) (v := ?v7) rfl (by kernel_rfl) (by kernel_rfl) (by kernel_rfl) (fun _ _ _ h => h) (Or.inl ⟨by rfl, ?hy7⟩) (by assumption) ?_
                    case hy7 => (intro W hSw; (try dsimp only at hSw); go_simp; try with_reducible rfl)
                    try simp only [Act.put, List.setIfInBounds_toArray, List.set_cons_zero, List.set_cons_succ]
                    refine wpAnyH_ready (rs := [6]) (by kernel_rfl) (by simp) ?_
                    refine AllReadyH.cons (o := { dst := some 85, op := Go.Op.call { callee := Go.Callee.value (Go.Operand.func 20), args := #[Go.Operand.tmp 79, Go.Operand.tmp 84], argTypes := #[34, 3] }, type := 4, pos := "law.go:66", after := #[{ on := 0, ground := Go.Ground.data }, { on := 5, ground := Go.Ground.data }], guard := none }) rfl (fun K hK => ?_) AllReadyH.nil
                    go_simp
                    go_at_call 20
                    refine hhw.mono ?_
                    rintro e w6 ⟨rfl, rfl⟩
                    go_wp2_with fail
                    refine hK.out _ _ (HC5.out _ rfl) (fun hHeld8 => ?_)
                    clear hK K
                    try simp only [Act.put, List.setIfInBounds_toArray, List.set_cons_zero, List.set_cons_succ]
                    refine wpAnyH_take (i := 7) (oi := { dst := some 86, op := Go.Op.unOp Go.UnOp.not 4 (Go.Operand.tmp 85), type := 4, pos := "law.go:66", after := #[{ on := 6, ground := Go.Ground.data }], guard := none }) (v := ?v9) rfl (by kernel_rfl) (by kernel_rfl) (by kernel_rfl) (fun _ _ _ h => h) (Or.inl ⟨by rfl, ?hy9⟩) (by assumption) ?_
                    case hy9 => (intro W hSw; (try dsimp only at hSw); go_simp; try with_reducible rfl)
                    try simp only [Act.put, List.setIfInBounds_toArray, List.set_cons_zero, List.set_cons_succ]
                    refine wpAnyH_take (i := 8) (oi := { dst := some 87, op := Go.Op.move (Go.Operand.tmp 86), type := 4, pos := "law.go:66", after := #[{ on := 7, ground := Go.Ground.data }, { on := 6, ground := Go.Ground.chain }], guard := none }) (v := ?v10) rfl (by kernel_rfl) (by kernel_rfl) (by kernel_rfl) (fun _ _ _ h => h) (Or.inl ⟨by rfl, ?hy10⟩) (by assumption) ?_
                    case hy10 => (intro W hSw; (try dsimp only at hSw); go_simp; try with_reducible rfl)
                    try simp only [Act.put, List.setIfInBounds_toArray, List.set_cons_zero, List.set_cons_succ]
                    refine wpAnyH_take (i := 9) (oi := { dst := some 88, op := Go.Op.move (Go.Operand.tmp 7), type := 23, pos := "law.go:66", after := #[{ on := 8, ground := Go.Ground.guard }], guard := some (8, true) }) (v := undef) rfl (by kernel_rfl) (by kernel_rfl) (by kernel_rfl) (fun _ _ _ h => h) (Or.inr ⟨by rfl, rfl⟩) (by assumption) ?_
                    try simp only [Act.put, List.setIfInBounds_toArray, List.set_cons_zero, List.set_cons_succ]
                    refine wpAnyH_take (i := 10) (oi := { dst := some 89, op := Go.Op.indexAddr 23 (Go.Operand.tmp 88) (Go.Operand.const (Go.Value.int Go.IntKind.i64 0)), type := 0, pos := "law.go:66", after := #[{ on := 9, ground := Go.Ground.data }, { on := 8, ground := Go.Ground.guard }], guard := some (8, true) }) (v := undef) rfl (by kernel_rfl) (by kernel_rfl) (by kernel_rfl) (fun _ _ _ h => h) (Or.inr ⟨by rfl, rfl⟩) (by assumption) ?_
                    try simp only [Act.put, List.setIfInBounds_toArray, List.set_cons_zero, List.set_cons_succ]
                    refine wpAnyH_take (i := 11) (oi := { dst := some 90, op := Go.Op.load 34 (Go.Operand.tmp 89), type := 34, pos := "law.go:66", after := #[{ on := 10, ground := Go.Ground.data }, { on := 8, ground := Go.Ground.guard }], guard := some (8, true) }) (v := undef) rfl (by kernel_rfl) (by kernel_rfl) (by kernel_rfl) (fun _ _ _ h => h) (Or.inr ⟨by rfl, rfl⟩) (by assumption) ?_
                    try simp only [Act.put, List.setIfInBounds_toArray, List.set_cons_zero, List.set_cons_succ]
                    refine wpAnyH_take (i := 12) (oi := { dst := some 91, op := Go.Op.fieldAddr 41 (Go.Operand.tmp 13) 0, type := 0, pos := "law.go:66", after := #[{ on := 8, ground := Go.Ground.guard }], guard := some (8, true) }) (v := undef) rfl (by kernel_rfl) (by kernel_rfl) (by kernel_rfl) (fun _ _ _ h => h) (Or.inr ⟨by rfl, rfl⟩) (by assumption) ?_
                    try simp only [Act.put, List.setIfInBounds_toArray, List.set_cons_zero, List.set_cons_succ]
                    refine wpAnyH_take (i := 13) (oi := { dst := some 92, op := Go.Op.load 34 (Go.Operand.tmp 91), type := 34, pos := "law.go:66", after := #[{ on := 12, ground := Go.Ground.data }, { on := 8, ground := Go.Ground.guard }], guard := some (8, true) }) (v := undef) rfl (by kernel_rfl) (by kernel_rfl) (by kernel_rfl) (fun _ _ _ h => h) (Or.inr ⟨by rfl, rfl⟩) (by assumption) ?_
                    try simp only [Act.put, List.setIfInBounds_toArray, List.set_cons_zero, List.set_cons_succ]
                    refine wpAnyH_take (i := 14) (oi := { dst := some 93, op := Go.Op.move (Go.Operand.tmp 14), type := 3, pos := "law.go:66", after := #[{ on := 8, ground := Go.Ground.guard }], guard := some (8, true) }) (v := undef) rfl (by kernel_rfl) (by kernel_rfl) (by kernel_rfl) (fun _ _ _ h => h) (Or.inr ⟨by rfl, rfl⟩) (by assumption) ?_
                    try simp only [Act.put, List.setIfInBounds_toArray, List.set_cons_zero, List.set_cons_succ]
                    refine wpAnyH_take (i := 15) (oi := { dst := some 94, op := Go.Op.indexAddr 34 (Go.Operand.tmp 92) (Go.Operand.tmp 93), type := 0, pos := "law.go:66", after := #[{ on := 13, ground := Go.Ground.data }, { on := 14, ground := Go.Ground.data }, { on := 8, ground := Go.Ground.guard }], guard := some (8, true) }) (v := undef) rfl (by kernel_rfl) (by kernel_rfl) (by kernel_rfl) (fun _ _ _ h => h) (Or.inr ⟨by rfl, rfl⟩) (by assumption) ?_
                    try simp only [Act.put, List.setIfInBounds_toArray, List.set_cons_zero, List.set_cons_succ]
                    refine wpAnyH_take (i := 16) (oi := { dst := some 95, op := Go.Op.load 3 (Go.Operand.tmp 94), type := 3, pos := "law.go:66", after := #[{ on := 15, ground := Go.Ground.data }, { on := 8, ground := Go.Ground.guard }], guard := some (8, true) }) (v := undef) rfl (by kernel_rfl) (by kernel_rfl) (by kernel_rfl) (fun _ _ _ h => h) (Or.inr ⟨by rfl, rfl⟩) (by assumption) ?_
                    try simp only [Act.put, List.setIfInBounds_toArray, List.set_cons_zero, List.set_cons_succ]
                    refine wpAnyH_take (i := 17) (oi := { dst := some 96, op := Go.Op.call { callee := Go.Callee.value (Go.Operand.func 20), args := #[Go.Operand.tmp 90, Go.Operand.tmp 95], argTypes := #[34, 3] }, type := 4, pos := "law.go:66", after := #[{ on := 11, ground := Go.Ground.data }, { on := 16, ground := Go.Ground.data }, { on := 8, ground := Go.Ground.chain }, { on := 8, ground := Go.Ground.guard }], guard := some (8, true) }) (v := undef) rfl (by kernel_rfl) (by kernel_rfl) (by kernel_rfl) (fun _ _ _ h => h) (Or.inr ⟨by rfl, rfl⟩) (by assumption) ?_
                    try simp only [Act.put, List.setIfInBounds_toArray, List.set_cons_zero, List.set_cons_succ]
                    refine wpAnyH_take (i := 18) (oi := { dst := some 97, op := Go.Op.unOp Go.UnOp.not 4 (Go.Operand.tmp 96), type := 4, pos := "law.go:66", after := #[{ on := 17, ground := Go.Ground.data }, { on := 8, ground := Go.Ground.guard }], guard := some (8, true) }) (v := undef) rfl (by kernel_rfl) (by kernel_rfl) (by kernel_rfl) (fun _ _ _ h => h) (Or.inr ⟨by rfl, rfl⟩) (by assumption) ?_
                    try simp only [Act.put, List.setIfInBounds_toArray, List.set_cons_zero, List.set_cons_succ]
                    refine wpAnyH_take (i := 19) (oi := { dst := some 98, op := Go.Op.pick (Go.Operand.tmp 87) (Go.Operand.tmp 97) (Go.Operand.const (Go.Value.bool false)), type := 4, pos := "law.go:66", after := #[{ on := 8, ground := Go.Ground.data }, { on := 18, ground := Go.Ground.data }], guard := none }) (v := ?v21) rfl (by kernel_rfl) (by kernel_rfl) (by kernel_rfl) (fun _ _ _ h => h) (Or.inl ⟨by rfl, ?hy21⟩) (by assumption) ?_
                    case hy21 => (intro W hSw; (try dsimp only at hSw); go_simp; try with_reducible rfl)
                    try simp only [Act.put, List.setIfInBounds_toArray, List.set_cons_zero, List.set_cons_succ]
                    refine wpAnyH_done (by kernel_rfl) ?_ _
                    go_wp2
                    go_roundw
                    case rel => exact ⟨q + 1, by omega, by go_num, below_drewN HX.out 1⟩
                    case measure => simp [intOf]; omega
                  | false =>
                    have h1 := HUS.out hw
                    rw [hw] at hhw
                    rw [h1] at hhi
                    clear h1
                    go_wp2_with fail
                    refine wp_region_held_drew (S := (fun Z : World => Z.cell? ⟨W1.heap.size, 0, none⟩ = some (.slice (some ⟨gu, ou, none⟩) mu cu) ∧ Z.cell? ⟨gu, ou + q, none⟩ = some (.int .i64 x) ∧ Z.cell? ⟨gi, oi, none⟩ = some (.slice ai mi ci))) (by kernel_rfl) (HC5.out _ rfl) (fun hHeld22 => ?_)
                    refine wpAnyH_take (i := 0) (oi := { dst := some 79, op := Go.Op.move (Go.Operand.tmp 11), type := 34, pos := "law.go:66", after := #[], guard := none }) (v := ?v23) rfl (by kernel_rfl) (by kernel_rfl) (by kernel_rfl) (fun _ _ _ h => h) (Or.inl ⟨by rfl, ?hy23⟩) (by assumption) ?_
                    case hy23 => (intro W hSw; (try dsimp only at hSw); go_simp; try with_reducible rfl)
                    try simp only [Act.put, List.setIfInBounds_toArray, List.set_cons_zero, List.set_cons_succ]
                    refine wpAnyH_take (i := 1) (oi := { dst := some 80, op := Go.Op.fieldAddr 41 (Go.Operand.tmp 13) 0, type := 0, pos := "law.go:66", after := #[], guard := none }) (v := ?v24) rfl (by kernel_rfl) (by kernel_rfl) (by kernel_rfl) (fun _ _ _ h => h) (Or.inl ⟨by rfl, ?hy24⟩) (by assumption) ?_
                    case hy24 => (intro W hSw; (try dsimp only at hSw); go_simp; try with_reducible rfl)
                    try simp only [Act.put, List.setIfInBounds_toArray, List.set_cons_zero, List.set_cons_succ]
                    refine wpAnyH_take (i := 2) (oi := { dst := some 81, op := Go.Op.load 34 (Go.Operand.tmp 80), type := 34, pos := "law.go:66", after := #[{ on := 1, ground := Go.Ground.data }], guard := none }) (v := ?v25) rfl (by kernel_rfl) (by kernel_rfl) (by kernel_rfl) (fun _ _ _ h => h) (Or.inl ⟨by rfl, ?hy25⟩) (by assumption) ?_
                    case hy25 => (intro W hSw; (try dsimp only at hSw); go_simp; try with_reducible rfl)
                    try simp only [Act.put, List.setIfInBounds_toArray, List.set_cons_zero, List.set_cons_succ]
                    refine wpAnyH_take (i := 3) (oi := { dst := some 82, op := Go.Op.move (Go.Operand.tmp 14), type := 3, pos := "law.go:66", after := #[], guard := none }) (v := ?v26) rfl (by kernel_rfl) (by kernel_rfl) (by kernel_rfl) (fun _ _ _ h => h) (Or.inl ⟨by rfl, ?hy26⟩) (by assumption) ?_
                    case hy26 => (intro W hSw; (try dsimp only at hSw); go_simp; try with_reducible rfl)
                    try simp only [Act.put, List.setIfInBounds_toArray, List.set_cons_zero, List.set_cons_succ]
                    refine wpAnyH_take (i := 4) (oi := { dst := some 83, op := Go.Op.indexAddr 34 (Go.Operand.tmp 81) (Go.Operand.tmp 82), type := 0, pos := "law.go:66", after := #[{ on := 2, ground := Go.Ground.data }, { on := 3, ground := Go.Ground.data }], guard := none }) (v := ?v27) rfl (by kernel_rfl) (by kernel_rfl) (by kernel_rfl) (fun _ _ _ h => h) (Or.inl ⟨by rfl, ?hy27⟩) (by assumption) ?_
                    case hy27 => (intro W hSw; (try dsimp only at hSw); go_simp; try with_reducible rfl)
                    try simp only [Act.put, List.setIfInBounds_toArray, List.set_cons_zero, List.set_cons_succ]
                    refine wpAnyH_take (i := 5) (oi := { dst := some 84, op := Go.Op.load 3 (Go.Operand.tmp 83), type := 3, pos := "law.go:66", after := #[{ on := 4, ground := Go.Ground.data }], guard := none }) (v := ?v28) rfl (by kernel_rfl) (by kernel_rfl) (by kernel_rfl) (fun _ _ _ h => h) (Or.inl ⟨by rfl, ?hy28⟩) (by assumption) ?_
                    case hy28 => (intro W hSw; (try dsimp only at hSw); go_simp; try with_reducible rfl)
                    try simp only [Act.put, List.setIfInBounds_toArray, List.set_cons_zero, List.set_cons_succ]
                    refine wpAnyH_ready (rs := [6]) (by kernel_rfl) (by simp) ?_
                    refine AllReadyH.cons (o := { dst := some 85, op := Go.Op.call { callee := Go.Callee.value (Go.Operand.func 20), args := #[Go.Operand.tmp 79, Go.Operand.tmp 84], argTypes := #[34, 3] }, type := 4, pos := "law.go:66", after := #[{ on := 0, ground := Go.Ground.data }, { on := 5, ground := Go.Ground.data }], guard := none }) rfl (fun K hK => ?_) AllReadyH.nil
                    go_simp
                    go_at_call 20
                    refine hhw.mono ?_
                    rintro e w6 ⟨rfl, rfl⟩
                    go_wp2_with fail
                    refine hK.out _ _ (HC5.out _ rfl) (fun hHeld29 => ?_)
                    clear hK K
                    try simp only [Act.put, List.setIfInBounds_toArray, List.set_cons_zero, List.set_cons_succ]
                    refine wpAnyH_take (i := 7) (oi := { dst := some 86, op := Go.Op.unOp Go.UnOp.not 4 (Go.Operand.tmp 85), type := 4, pos := "law.go:66", after := #[{ on := 6, ground := Go.Ground.data }], guard := none }) (v := ?v30) rfl (by kernel_rfl) (by kernel_rfl) (by kernel_rfl) (fun _ _ _ h => h) (Or.inl ⟨by rfl, ?hy30⟩) (by assumption) ?_
                    case hy30 => (intro W hSw; (try dsimp only at hSw); go_simp; try with_reducible rfl)
                    try simp only [Act.put, List.setIfInBounds_toArray, List.set_cons_zero, List.set_cons_succ]
                    refine wpAnyH_take (i := 8) (oi := { dst := some 87, op := Go.Op.move (Go.Operand.tmp 86), type := 4, pos := "law.go:66", after := #[{ on := 7, ground := Go.Ground.data }, { on := 6, ground := Go.Ground.chain }], guard := none }) (v := ?v31) rfl (by kernel_rfl) (by kernel_rfl) (by kernel_rfl) (fun _ _ _ h => h) (Or.inl ⟨by rfl, ?hy31⟩) (by assumption) ?_
                    case hy31 => (intro W hSw; (try dsimp only at hSw); go_simp; try with_reducible rfl)
                    try simp only [Act.put, List.setIfInBounds_toArray, List.set_cons_zero, List.set_cons_succ]
                    refine wpAnyH_take (i := 9) (oi := { dst := some 88, op := Go.Op.move (Go.Operand.tmp 7), type := 23, pos := "law.go:66", after := #[{ on := 8, ground := Go.Ground.guard }], guard := some (8, true) }) (v := ?v32) rfl (by kernel_rfl) (by kernel_rfl) (by kernel_rfl) (fun _ _ _ h => h) (Or.inl ⟨by rfl, ?hy32⟩) (by assumption) ?_
                    case hy32 => (intro W hSw; (try dsimp only at hSw); go_simp; try with_reducible rfl)
                    try simp only [Act.put, List.setIfInBounds_toArray, List.set_cons_zero, List.set_cons_succ]
                    refine wpAnyH_take (i := 10) (oi := { dst := some 89, op := Go.Op.indexAddr 23 (Go.Operand.tmp 88) (Go.Operand.const (Go.Value.int Go.IntKind.i64 0)), type := 0, pos := "law.go:66", after := #[{ on := 9, ground := Go.Ground.data }, { on := 8, ground := Go.Ground.guard }], guard := some (8, true) }) (v := ?v33) rfl (by kernel_rfl) (by kernel_rfl) (by kernel_rfl) (fun _ _ _ h => h) (Or.inl ⟨by rfl, ?hy33⟩) (by assumption) ?_
                    case hy33 => (intro W hSw; (try dsimp only at hSw); go_simp; try with_reducible rfl)
                    try simp only [Act.put, List.setIfInBounds_toArray, List.set_cons_zero, List.set_cons_succ]
                    refine wpAnyH_take (i := 11) (oi := { dst := some 90, op := Go.Op.load 34 (Go.Operand.tmp 89), type := 34, pos := "law.go:66", after := #[{ on := 10, ground := Go.Ground.data }, { on := 8, ground := Go.Ground.guard }], guard := some (8, true) }) (v := ?v34) rfl (by kernel_rfl) (by kernel_rfl) (by kernel_rfl) (fun _ _ _ h => h) (Or.inl ⟨by rfl, ?hy34⟩) (by assumption) ?_
                    case hy34 => (intro W hSw; (try dsimp only at hSw); go_simp; try with_reducible rfl)
                    try simp only [Act.put, List.setIfInBounds_toArray, List.set_cons_zero, List.set_cons_succ]
                    refine wpAnyH_take (i := 12) (oi := { dst := some 91, op := Go.Op.fieldAddr 41 (Go.Operand.tmp 13) 0, type := 0, pos := "law.go:66", after := #[{ on := 8, ground := Go.Ground.guard }], guard := some (8, true) }) (v := ?v35) rfl (by kernel_rfl) (by kernel_rfl) (by kernel_rfl) (fun _ _ _ h => h) (Or.inl ⟨by rfl, ?hy35⟩) (by assumption) ?_
                    case hy35 => (intro W hSw; (try dsimp only at hSw); go_simp; try with_reducible rfl)
                    try simp only [Act.put, List.setIfInBounds_toArray, List.set_cons_zero, List.set_cons_succ]
                    refine wpAnyH_take (i := 13) (oi := { dst := some 92, op := Go.Op.load 34 (Go.Operand.tmp 91), type := 34, pos := "law.go:66", after := #[{ on := 12, ground := Go.Ground.data }, { on := 8, ground := Go.Ground.guard }], guard := some (8, true) }) (v := ?v36) rfl (by kernel_rfl) (by kernel_rfl) (by kernel_rfl) (fun _ _ _ h => h) (Or.inl ⟨by rfl, ?hy36⟩) (by assumption) ?_
                    case hy36 => (intro W hSw; (try dsimp only at hSw); go_simp; try with_reducible rfl)
                    try simp only [Act.put, List.setIfInBounds_toArray, List.set_cons_zero, List.set_cons_succ]
                    refine wpAnyH_take (i := 14) (oi := { dst := some 93, op := Go.Op.move (Go.Operand.tmp 14), type := 3, pos := "law.go:66", after := #[{ on := 8, ground := Go.Ground.guard }], guard := some (8, true) }) (v := ?v37) rfl (by kernel_rfl) (by kernel_rfl) (by kernel_rfl) (fun _ _ _ h => h) (Or.inl ⟨by rfl, ?hy37⟩) (by assumption) ?_
                    case hy37 => (intro W hSw; (try dsimp only at hSw); go_simp; try with_reducible rfl)
                    try simp only [Act.put, List.setIfInBounds_toArray, List.set_cons_zero, List.set_cons_succ]
                    refine wpAnyH_take (i := 15) (oi := { dst := some 94, op := Go.Op.indexAddr 34 (Go.Operand.tmp 92) (Go.Operand.tmp 93), type := 0, pos := "law.go:66", after := #[{ on := 13, ground := Go.Ground.data }, { on := 14, ground := Go.Ground.data }, { on := 8, ground := Go.Ground.guard }], guard := some (8, true) }) (v := ?v38) rfl (by kernel_rfl) (by kernel_rfl) (by kernel_rfl) (fun _ _ _ h => h) (Or.inl ⟨by rfl, ?hy38⟩) (by assumption) ?_
                    case hy38 => (intro W hSw; (try dsimp only at hSw); go_simp; try with_reducible rfl)
                    try simp only [Act.put, List.setIfInBounds_toArray, List.set_cons_zero, List.set_cons_succ]
                    refine wpAnyH_take (i := 16) (oi := { dst := some 95, op := Go.Op.load 3 (Go.Operand.tmp 94), type := 3, pos := "law.go:66", after := #[{ on := 15, ground := Go.Ground.data }, { on := 8, ground := Go.Ground.guard }], guard := some (8, true) }) (v := ?v39) rfl (by kernel_rfl) (by kernel_rfl) (by kernel_rfl) (fun _ _ _ h => h) (Or.inl ⟨by rfl, ?hy39⟩) (by assumption) ?_
                    case hy39 => (intro W hSw; (try dsimp only at hSw); go_simp; try with_reducible rfl)
                    try simp only [Act.put, List.setIfInBounds_toArray, List.set_cons_zero, List.set_cons_succ]
                    refine wpAnyH_ready (rs := [17]) (by kernel_rfl) (by simp) ?_
                    refine AllReadyH.cons (o := { dst := some 96, op := Go.Op.call { callee := Go.Callee.value (Go.Operand.func 20), args := #[Go.Operand.tmp 90, Go.Operand.tmp 95], argTypes := #[34, 3] }, type := 4, pos := "law.go:66", after := #[{ on := 11, ground := Go.Ground.data }, { on := 16, ground := Go.Ground.data }, { on := 8, ground := Go.Ground.chain }, { on := 8, ground := Go.Ground.guard }], guard := some (8, true) }) rfl (fun K hK => ?_) AllReadyH.nil
                    go_simp
                    go_at_call 20
                    refine hhi.mono ?_
                    rintro e w6 ⟨rfl, rfl⟩
                    go_wp2_with fail
                    refine hK.out _ _ (HC5.out _ rfl) (fun hHeld40 => ?_)
                    clear hK K
                    try simp only [Act.put, List.setIfInBounds_toArray, List.set_cons_zero, List.set_cons_succ]
                    refine wpAnyH_take (i := 18) (oi := { dst := some 97, op := Go.Op.unOp Go.UnOp.not 4 (Go.Operand.tmp 96), type := 4, pos := "law.go:66", after := #[{ on := 17, ground := Go.Ground.data }, { on := 8, ground := Go.Ground.guard }], guard := some (8, true) }) (v := ?v41) rfl (by kernel_rfl) (by kernel_rfl) (by kernel_rfl) (fun _ _ _ h => h) (Or.inl ⟨by rfl, ?hy41⟩) (by assumption) ?_
                    case hy41 => (intro W hSw; (try dsimp only at hSw); go_simp; try with_reducible rfl)
                    try simp only [Act.put, List.setIfInBounds_toArray, List.set_cons_zero, List.set_cons_succ]
                    refine wpAnyH_take (i := 19) (oi := { dst := some 98, op := Go.Op.pick (Go.Operand.tmp 87) (Go.Operand.tmp 97) (Go.Operand.const (Go.Value.bool false)), type := 4, pos := "law.go:66", after := #[{ on := 8, ground := Go.Ground.data }, { on := 18, ground := Go.Ground.data }], guard := none }) (v := ?v42) rfl (by kernel_rfl) (by kernel_rfl) (by kernel_rfl) (fun _ _ _ h => h) (Or.inl ⟨by rfl, ?hy42⟩) (by assumption) ?_
                    case hy42 => (intro W hSw; (try dsimp only at hSw); go_simp; try with_reducible rfl)
                    try simp only [Act.put, List.setIfInBounds_toArray, List.set_cons_zero, List.set_cons_succ]
                    refine wpAnyH_done (by kernel_rfl) ?_ _
                    go_wp2
                    go_roundw
                    case rel => exact ⟨q + 1, by omega, by go_num, below_drewN HX.out 1⟩
                    case measure => simp [intOf]; omega
                · obtain rfl : q = mu := by omega
                  obtain ⟨v', w', hr, hO', ⟨b', m', c', rfl⟩, hgr⟩ := row_app hO ⟨_, _, _, rfl⟩ (HO1.out.2.2.2.size |> fun h => Nat.le_trans h hB1.size) ID (by have h1 := HO1.out.2.1; have h2 := HMN.out.2.2.2; omega)
                  have hwb : (Value.slice (some ba) mm cc).ownBlock ≠ some W1.heap.size := fun e => by
                    obtain ⟨cur, hc⟩ := row_type hO e
                    rw [hx] at hc; simp at hc
                  have hx' := (hgr.block _ (lt_of_block hx) (fun e => hwb e.symm)).trans hx
                  have hB' : Below w3.heap.size w3 w' := by
                    have h1 := HO1.out.2.2.2.trans (hB1.mono HO1.out.2.2.2.size)
                    refine h1.trans ⟨hgr.os, hgr.tape, hgr.output, hgr.size, fun j hj => hgr.block j (Nat.lt_of_lt_of_le hj h1.size) fun e => ?_⟩
                    have := (hO.lt j e.symm).1
                    omega
                  have k0 := cell_of (o := 0) hx rfl
                  have k1 := cell_of (o := 1) hx rfl
                  have k2 := cell_of (o := 2) hx' rfl
                  have lx' := lt_of_block hx'
                  have HOW := hide (And.intro hO' hB')
                  have hbw : Below w.heap.size w w' := M3.out.2.2.2.trans (hB'.mono M3.out.2.2.2.size)
                  have HBW := hide hbw
                  clear IU ID IN II hO hO' hgr hwb hx hx' hB1 ki li kt lt hbw hB'
                  have HRUN := hide hr
                  clear hr
                  by_cases hm0 : mn = 0
                  · have hm0' : ((mn : Int) == 0) = true := by simp [hm0]
                    go_wp2_with (refine wpList_append_eq (by rfl) _ _ 34 (by rfl) (by rfl) (by rfl) HRUN.out ?_)
                    go_ret
                    exact ⟨rfl, HBW.out⟩
                  · have hm0' : ((mn : Int) == 0) = false := by simp; omega
                    go_wp2_with (refine wpList_append_eq (by rfl) _ _ 34 (by rfl) (by rfl) (by rfl) HRUN.out ?_)
                    obtain ⟨hO', hB'⟩ := HOW.out
                    have MB := M3.out.1.below hB'
                    obtain ⟨t, ht⟩ : ∃ t, ts[i]? = some t := ⟨ts[i]'(by rw [HTN.out]; exact hin), by simp⟩
                    obtain ⟨ht256, gt', ot', e', lt, kt⟩ := (M3.out.2.2.1.below hB').cell ht
                    cases e'
                    have hmod : t % mn < mn := Nat.mod_lt _ (by omega)
                    obtain ⟨y0, hy0⟩ : ∃ y, b.n[t % mn]? = some y := ⟨b.n[t % mn]'(by rw [HMN.out.1]; exact hmod), by simp⟩
                    obtain ⟨y, rfl, hyn⟩ := HS.out.n a b HB.out y0 (List.mem_of_getElem? hy0)
                    obtain ⟨gn, on, rfl, ln, kn⟩ := (HIN3.out.below hB').cell hy0
                    have HNX := hide (And.intro (HO1.out.2.2.1.step HB.out (List.mem_of_getElem? hy0)) (And.intro hO' hB'))
                    have hyn2 : y < n := by rw [HN.out] at hyn; exact hyn
                    have em : (t : Int) % (mn : Int) = ((t % mn : Nat) : Int) := (Int.natCast_emod t mn).symm
                    have em2 : (t : Int).tmod (mn : Int) = ((t % mn : Nat) : Int) := by rw [Int.tmod_eq_emod_of_nonneg (by omega), em]
                    have hmn9 : mn ≤ 400 := by omega
                    have em3 : IntKind.i64.wrap ((t % mn : Nat) : Int) = ((t % mn : Nat) : Int) := wrap_id (by omega) (by omega)
                    have hz0 : (mn : Int) ≠ 0 := by omega
                    have ht2 : (t : Int) < 256 := by omega
                    generalize t % mn = z at *
                    have hz2 : (z : Int) < (mn : Int) := by omega
                    clear hO' hB' MB ht hyn hy0
                    go_region
                    go_wp2
                    go_roundw
                    case rel => exact ⟨i + 1, y, xs ++ b.d, by omega, by go_num, rfl, hyn2, HNX.out.2.1, ⟨_, _, _, rfl⟩, by rw [List.length_append]; have h1 := HO1.out.2.1; have h2 := HMN.out.2.2.2; omega, HNX.out.1, HNX.out.2.2.drew⟩
                    case measure => simp [intOf]; omega
            · have hi2 : decide ((i : Int) < 30) = false := by simp; omega
              have hi3 : i = 30 := by omega
              have HBB := hide (M3.out.2.2.2.trans (HL.out.2.2.2.2.mono M3.out.2.2.2.size))
              clear HL
              go_wp2
              go_ret
              exact ⟨rfl, HBB.out⟩
          · have hin2 : decide ((i : Int) < (tn : Int)) = false := by simp; omega
            have HBB := hide (M3.out.2.2.2.trans (HL.out.2.2.2.2.mono M3.out.2.2.2.size))
            clear HL
            go_wp2
            go_ret
            exact ⟨rfl, HBB.out⟩
  · have hne0 : (fltP bs k != 0) = true := by simpa using h0
    generalize hq : fltP bs k = q at *
    obtain ⟨ao, cap, rfl, _⟩ := R
    go_enter Try.func5, Try.ntmps5
    go_wp2_with (first
      | (have kk := hb2; clear kk; go_at_call 11; refine (ha _).mono ?_; rintro e w3 ⟨rfl, hb3⟩)
      | (have kk := hb1; clear kk; go_at_call 11; refine (ha _).mono ?_; rintro e w2 ⟨rfl, hb2⟩)
      | (go_at_call 9; with_reducible refine hs.mono ?_; rintro e w1 ⟨⟨v1, v2, rfl, hO⟩, hb1⟩; clear hO))
    go_ret
    exact ⟨rfl, hb1.trans ((hb2.trans (hb3.mono hb2.size)).mono hb1.size)⟩
end
end Go.Proofs.Ytaejhppfcmeopaa
