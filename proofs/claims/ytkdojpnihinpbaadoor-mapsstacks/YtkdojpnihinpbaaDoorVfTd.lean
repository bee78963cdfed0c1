/- takes, the rest. -/
import Derived.Test.YtkdojpnihinpbaaDoorVfTc
namespace Go.Proofs.YtkdojpnihinpbaaDoor
open Go.RowKit
section
variable {B A : Nat} {w w' : World} {p : Pg} {f : Fd} {V : Fv} {fi at_ mo : Int}
theorem tks_drew {n : Nat} {mu : Must} {W : World} {e : Ending} (h : TksO n mu w e W) : TksO n mu w e W.drew := by
  obtain ⟨f, caps, h1, h2, h3⟩ := h
  refine ⟨f, caps, h1, fun m ks hl hk => ?_, below_drew h3⟩
  obtain ⟨Z, U, z1, z2, z3⟩ := h2 m ks hl hk
  exact ⟨Z, U, z1, z2, z2.st 0 W W.drew z3 (fun _ _ => rfl)⟩
set_option maxRecDepth 100000 in
set_option maxHeartbeats 1000000 in
theorem tk_24 (F : FlAt B w A p f V fi at_ mo) (i : In3) (hn : p.ty.length ≤ 1024) (ho : i.o = 24) (hk : ∀ k ∈ f.re, isKB p.ty.length k = true) (hl : f.re.length ≤ 4096) : Calls Tryd.prog 80 #[.pointer (some ⟨A, 0, none⟩), .agg #[.int .i64 i.o, .int .i64 i.a, .int .i64 i.b]] w (TksO p.ty.length (.fit f.re) w) := by
  obtain ⟨ra, rc, hr⟩ := sl_form F.re
  obtain ⟨W1, hW1⟩ : ∃ W1, w.alloc (.cells #[.int .i64 i.o, .int .i64 i.a, .int .i64 i.b] 47) = W1 := ⟨_, rfl⟩
  have b1 : Below w.heap.size w W1 := by rw [← hW1]; exact (Below.refl _ _).alloc (Nat.le_refl _) _
  have F1 := F.below b1
  have HB := hide b1
  have HF1 := hide F1
  have hI : W1.heap[w.heap.size]? = some (.cells #[.int .i64 i.o, .int .i64 i.a, .int .i64 i.b] 47 (0, 0)) := by rw [← hW1]; exact heap_new _ _ rfl
  have i0 : W1.cell? ⟨w.heap.size, 0, none⟩ = some (.int .i64 i.o) := cell_of hI rfl
  have i1 : W1.cell? ⟨w.heap.size, 1, none⟩ = some (.int .i64 i.a) := cell_of hI rfl
  have hlA := lt_of_block F.box
  have hlI := lt_of_block hI
  have HN := hide hn
  clear b1 F1 hI F hn
  have c8 : W1.cell? ⟨A, 8, none⟩ = some V.u2 := cell_of HF1.out.box rfl
  rw [hr] at c8
  have HI := hide (is_of_sl (X := fun _ => False) (hr ▸ HF1.out.re) HF1.out.hB (fun _ _ h => h))
  have HK := hide hk
  have HL := hide hl
  have HT := hide (fun T => tks_fit (T := T) HN.out HB.out HK.out (by have := HL.out; omega) HI.out)
  clear hr hk hl HI HK HL HN
  generalize f.re.length = rl at *
  rw [ho] at i0 hW1 ⊢
  clear ho
  go_enter Tryd.func80, Tryd.ntmps80
  go_wp2_with fail
  refine (fitting_any _ _ _ _).mono ?_
  rintro e w3 ⟨rfl, rfl⟩
  go_wp2
  go_ret2
  exact HT.out _
set_option maxRecDepth 100000 in
set_option maxHeartbeats 1000000 in
theorem tk_4 (F : FlAt B w A p f V fi at_ mo) (i : In3) (hn : p.ty.length ≤ 1024) (ho : i.o = 4) {k : Nat} {o : Int} (ha : i.a = (k : Int)) (hx : f.lo[k]? = some o) (hko : isKB p.ty.length o = true) : Calls Tryd.prog 80 #[.pointer (some ⟨A, 0, none⟩), .agg #[.int .i64 i.o, .int .i64 i.a, .int .i64 i.b]] w (TksO p.ty.length (.fit [o]) w) := by
  obtain ⟨ra, rc, hr⟩ := sl_form F.lo
  obtain ⟨W1, hW1⟩ : ∃ W1, w.alloc (.cells #[.int .i64 i.o, .int .i64 i.a, .int .i64 i.b] 47) = W1 := ⟨_, rfl⟩
  have b1 : Below w.heap.size w W1 := by rw [← hW1]; exact (Below.refl _ _).alloc (Nat.le_refl _) _
  have F1 := F.below b1
  have HB := hide b1
  have HF1 := hide F1
  have hI : W1.heap[w.heap.size]? = some (.cells #[.int .i64 i.o, .int .i64 i.a, .int .i64 i.b] 47 (0, 0)) := by rw [← hW1]; exact heap_new _ _ rfl
  have i0 : W1.cell? ⟨w.heap.size, 0, none⟩ = some (.int .i64 i.o) := cell_of hI rfl
  have i1 : W1.cell? ⟨w.heap.size, 1, none⟩ = some (.int .i64 i.a) := cell_of hI rfl
  have hlA := lt_of_block F.box
  have hlI := lt_of_block hI
  have HN := hide hn
  clear b1 F1 hI F hn
  have c7 : W1.cell? ⟨A, 7, none⟩ = some V.u1 := cell_of HF1.out.box rfl
  obtain ⟨ao, cap, hao, _, hel⟩ := HF1.out.lo
  rw [hao] at c7
  obtain ⟨g, q, rfl, hg, hc, _⟩ := ints_at hel hx
  have hgw : g < W1.heap.size := Nat.lt_of_lt_of_le hg HF1.out.hB
  have hlt : k < f.lo.length := get_lt hx
  have e1 : decide (k < f.lo.length) = true := by simpa using hlt
  have HT := hide (fun (W : World) (h : Below w.heap.size w W) T1 T2 => tks_lit (os := [o]) (T1 := T1) (T2 := T2) HN.out h (by intro x hx; simp at hx; subst hx; exact hko) (by simp) rfl)
  rw [ha] at i1 hW1 ⊢
  have HCL := hide (show ∀ W : World, Below W1.heap.size W1 W → W.cell? ⟨A, 7, none⟩ = some (.slice (some ⟨g, q, none⟩) f.lo.length cap) ∧ W.cell? ⟨w.heap.size, 1, none⟩ = some (.int .i64 k) ∧ W.cell? ⟨g, q + k, none⟩ = some (.int .i64 o) from fun W h => ⟨(h.cell (p := ⟨A, 7, none⟩) (World.block_lt_of_cell? W1 _ c7)).trans c7, (h.cell (p := ⟨w.heap.size, 1, none⟩) (World.block_lt_of_cell? W1 _ i1)).trans i1, (h.cell (p := ⟨g, q + k, none⟩) (World.block_lt_of_cell? W1 _ hc)).trans hc⟩)
  clear hr hao hel hx hko ha HN
  generalize f.lo.length = ll at *
  rw [ho] at i0 hW1 ⊢
  clear ho
  go_enter Tryd.func80, Tryd.ntmps80
  go_wp2_with fail
  refine wp_region_held_drew (S := (fun W => W.cell? ⟨A, 7, none⟩ = some (.slice (some ⟨g, q, none⟩) ll cap) ∧ W.cell? ⟨w.heap.size, 1, none⟩ = some (.int .i64 k) ∧ W.cell? ⟨g, q + k, none⟩ = some (.int .i64 o))) (by kernel_rfl) ⟨c7, i1, hc⟩ (fun hHeld1 => ?_)
  refine wpAnyH_take (i := 0) (oi := { dst := some 10, op := Go.Op.move (Go.Operand.tmp 0), type := 67, pos := "table.go:45", after := #[], guard := none }) (v := ?v2) rfl (by kernel_rfl) (by kernel_rfl) (by kernel_rfl) (fun _ _ _ h => h) (Or.inl ⟨by rfl, ?hy2⟩) (by assumption) ?_
  case hy2 => (intro W hSw; (try dsimp only at hSw); go_simp; try with_reducible rfl)
  try simp only [Act.put, List.setIfInBounds_toArray, List.set_cons_zero, List.set_cons_succ]
  refine wpAnyH_take (i := 1) (oi := { dst := some 11, op := Go.Op.nilCheck (Go.Operand.tmp 10), type := 0, pos := "table.go:45", after := #[{ on := 0, ground := Go.Ground.data }], guard := none }) (v := ?v3) rfl (by kernel_rfl) (by kernel_rfl) (by kernel_rfl) (fun _ _ _ h => h) (Or.inl ⟨by rfl, ?hy3⟩) (by assumption) ?_
  case hy3 => (intro W hSw; (try dsimp only at hSw); go_simp; try with_reducible rfl)
  try simp only [Act.put, List.setIfInBounds_toArray, List.set_cons_zero, List.set_cons_succ]
  refine wpAnyH_take (i := 2) (oi := { dst := some 12, op := Go.Op.fieldAddr 75 (Go.Operand.tmp 11) 2, type := 0, pos := "table.go:45", after := #[{ on := 1, ground := Go.Ground.data }], guard := none }) (v := ?v4) rfl (by kernel_rfl) (by kernel_rfl) (by kernel_rfl) (fun _ _ _ h => h) (Or.inl ⟨by rfl, ?hy4⟩) (by assumption) ?_
  case hy4 => (intro W hSw; (try dsimp only at hSw); go_simp; try with_reducible rfl)
  try simp only [Act.put, List.setIfInBounds_toArray, List.set_cons_zero, List.set_cons_succ]
  refine wpAnyH_take (i := 3) (oi := { dst := some 13, op := Go.Op.fieldAddr 50 (Go.Operand.tmp 12) 1, type := 0, pos := "table.go:45", after := #[{ on := 2, ground := Go.Ground.data }], guard := none }) (v := ?v5) rfl (by kernel_rfl) (by kernel_rfl) (by kernel_rfl) (fun _ _ _ h => h) (Or.inl ⟨by rfl, ?hy5⟩) (by assumption) ?_
  case hy5 => (intro W hSw; (try dsimp only at hSw); go_simp; try with_reducible rfl)
  try simp only [Act.put, List.setIfInBounds_toArray, List.set_cons_zero, List.set_cons_succ]
  refine wpAnyH_take (i := 4) (oi := { dst := some 14, op := Go.Op.load 37 (Go.Operand.tmp 13), type := 37, pos := "table.go:45", after := #[{ on := 3, ground := Go.Ground.data }], guard := none }) (v := ?v6) rfl (by kernel_rfl) (by kernel_rfl) (by kernel_rfl) (fun _ _ _ h => h) (Or.inl ⟨by rfl, ?hy6⟩) (by assumption) ?_
  case hy6 => (intro W hSw; (try dsimp only at hSw); go_simp; try with_reducible rfl)
  try simp only [Act.put, List.setIfInBounds_toArray, List.set_cons_zero, List.set_cons_succ]
  refine wpAnyH_take (i := 5) (oi := { dst := some 15, op := Go.Op.fieldAddr 47 (Go.Operand.tmp 3) 1, type := 0, pos := "table.go:45", after := #[], guard := none }) (v := ?v7) rfl (by kernel_rfl) (by kernel_rfl) (by kernel_rfl) (fun _ _ _ h => h) (Or.inl ⟨by rfl, ?hy7⟩) (by assumption) ?_
  case hy7 => (intro W hSw; (try dsimp only at hSw); go_simp; try with_reducible rfl)
  try simp only [Act.put, List.setIfInBounds_toArray, List.set_cons_zero, List.set_cons_succ]
  refine wpAnyH_take (i := 6) (oi := { dst := some 16, op := Go.Op.load 3 (Go.Operand.tmp 15), type := 3, pos := "table.go:45", after := #[{ on := 5, ground := Go.Ground.data }], guard := none }) (v := ?v8) rfl (by kernel_rfl) (by kernel_rfl) (by kernel_rfl) (fun _ _ _ h => h) (Or.inl ⟨by rfl, ?hy8⟩) (by assumption) ?_
  case hy8 => (intro W hSw; (try dsimp only at hSw); go_simp; try with_reducible rfl)
  try simp only [Act.put, List.setIfInBounds_toArray, List.set_cons_zero, List.set_cons_succ]
  refine wpAnyH_take (i := 7) (oi := { dst := some 17, op := Go.Op.indexAddr 37 (Go.Operand.tmp 14) (Go.Operand.tmp 16), type := 0, pos := "table.go:45", after := #[{ on := 4, ground := Go.Ground.data }, { on := 6, ground := Go.Ground.data }], guard := none }) (v := ?v9) rfl (by kernel_rfl) (by kernel_rfl) (by kernel_rfl) (fun _ _ _ h => h) (Or.inl ⟨by rfl, ?hy9⟩) (by assumption) ?_
  case hy9 => (intro W hSw; (try dsimp only at hSw); go_simp; try with_reducible rfl)
  try simp only [Act.put, List.setIfInBounds_toArray, List.set_cons_zero, List.set_cons_succ]
  refine wpAnyH_take (i := 8) (oi := { dst := some 18, op := Go.Op.load 3 (Go.Operand.tmp 17), type := 3, pos := "table.go:45", after := #[{ on := 7, ground := Go.Ground.data }], guard := none }) (v := ?v10) rfl (by kernel_rfl) (by kernel_rfl) (by kernel_rfl) (fun _ _ _ h => h) (Or.inl ⟨by rfl, ?hy10⟩) (by assumption) ?_
  case hy10 => (intro W hSw; (try dsimp only at hSw); go_simp; try with_reducible rfl)
  try simp only [Act.put, List.setIfInBounds_toArray, List.set_cons_zero, List.set_cons_succ]
  refine wpAnyH_ready (rs := [9]) (by kernel_rfl) (by simp) ?_
  refine AllReadyH.cons (o := { dst := some 19, op := Go.Op.buildSlice 37 1 #[(0, Go.Operand.tmp 18)], type := 37, pos := "table.go:45", after := #[{ on := 8, ground := Go.Ground.data }], guard := none }) rfl (fun K hK => ?_) AllReadyH.nil
  go_simp
  go_wp2_with fail
  refine hK.out _ _ (HCL.out _ (below_drew ((Below.refl _ _).alloc (Nat.le_refl _) _))) (fun hHeld11 => ?_)
  clear hK K
  try simp only [Act.put, List.setIfInBounds_toArray, List.set_cons_zero, List.set_cons_succ]
  refine wpAnyH_ready (rs := [10]) (by kernel_rfl) (by simp) ?_
  refine AllReadyH.cons (o := { dst := some 20, op := Go.Op.call { callee := Go.Callee.value (Go.Operand.func 88), args := #[Go.Operand.tmp 19], argTypes := #[37] }, type := 132, pos := "table.go:45", after := #[{ on := 9, ground := Go.Ground.data }], guard := none }) rfl (fun K hK => ?_) AllReadyH.nil
  go_simp
  go_at_call 88
  refine (fitting_any _ _ _ _).mono ?_
  rintro e w3 ⟨rfl, rfl⟩
  go_wp2_with fail
  refine hK.out _ _ (HCL.out _ (below_drew (((Below.refl _ _).alloc (Nat.le_refl _) _).alloc (by simp) _))) (fun hHeld12 => ?_)
  clear hK K
  try simp only [Act.put, List.setIfInBounds_toArray, List.set_cons_zero, List.set_cons_succ]
  refine wpAnyH_take (i := 11) (oi := { dst := some 21, op := Go.Op.extract (Go.Operand.tmp 20) 0, type := 3, pos := "table.go:45", after := #[{ on := 10, ground := Go.Ground.data }], guard := none }) (v := ?v13) rfl (by kernel_rfl) (by kernel_rfl) (by kernel_rfl) (fun _ _ _ h => h) (Or.inl ⟨by rfl, ?hy13⟩) (by assumption) ?_
  case hy13 => (intro W hSw; (try dsimp only at hSw); go_simp; try with_reducible rfl)
  try simp only [Act.put, List.setIfInBounds_toArray, List.set_cons_zero, List.set_cons_succ]
  refine wpAnyH_take (i := 12) (oi := { dst := some 22, op := Go.Op.extract (Go.Operand.tmp 20) 1, type := 131, pos := "table.go:45", after := #[{ on := 10, ground := Go.Ground.data }], guard := none }) (v := ?v14) rfl (by kernel_rfl) (by kernel_rfl) (by kernel_rfl) (fun _ _ _ h => h) (Or.inl ⟨by rfl, ?hy14⟩) (by assumption) ?_
  case hy14 => (intro W hSw; (try dsimp only at hSw); go_simp; try with_reducible rfl)
  try simp only [Act.put, List.setIfInBounds_toArray, List.set_cons_zero, List.set_cons_succ]
  refine wpAnyH_take (i := 13) (oi := { dst := some 4, op := Go.Op.assign (Go.Operand.tmp 21), type := 3, pos := "table.go:45", after := #[{ on := 11, ground := Go.Ground.data }, { on := 10, ground := Go.Ground.chain }, { on := 0, ground := Go.Ground.phase }, { on := 1, ground := Go.Ground.phase }, { on := 2, ground := Go.Ground.phase }, { on := 3, ground := Go.Ground.phase }, { on := 4, ground := Go.Ground.phase }, { on := 5, ground := Go.Ground.phase }, { on := 6, ground := Go.Ground.phase }, { on := 7, ground := Go.Ground.phase }, { on := 8, ground := Go.Ground.phase }, { on := 9, ground := Go.Ground.phase }, { on := 10, ground := Go.Ground.phase }, { on := 11, ground := Go.Ground.phase }, { on := 12, ground := Go.Ground.phase }], guard := none }) (v := ?v15) rfl (by kernel_rfl) (by kernel_rfl) (by kernel_rfl) (fun _ _ _ h => h) (Or.inl ⟨by rfl, ?hy15⟩) (by assumption) ?_
  case hy15 => (intro W hSw; (try dsimp only at hSw); go_simp; try with_reducible rfl)
  try simp only [Act.put, List.setIfInBounds_toArray, List.set_cons_zero, List.set_cons_succ]
  refine wpAnyH_take (i := 14) (oi := { dst := some 5, op := Go.Op.assign (Go.Operand.tmp 22), type := 131, pos := "table.go:45", after := #[{ on := 12, ground := Go.Ground.data }, { on := 13, ground := Go.Ground.chain }, { on := 0, ground := Go.Ground.phase }, { on := 1, ground := Go.Ground.phase }, { on := 2, ground := Go.Ground.phase }, { on := 3, ground := Go.Ground.phase }, { on := 4, ground := Go.Ground.phase }, { on := 5, ground := Go.Ground.phase }, { on := 6, ground := Go.Ground.phase }, { on := 7, ground := Go.Ground.phase }, { on := 8, ground := Go.Ground.phase }, { on := 9, ground := Go.Ground.phase }, { on := 10, ground := Go.Ground.phase }, { on := 11, ground := Go.Ground.phase }, { on := 12, ground := Go.Ground.phase }, { on := 13, ground := Go.Ground.phase }], guard := none }) (v := ?v16) rfl (by kernel_rfl) (by kernel_rfl) (by kernel_rfl) (fun _ _ _ h => h) (Or.inl ⟨by rfl, ?hy16⟩) (by assumption) ?_
  case hy16 => (intro W hSw; (try dsimp only at hSw); go_simp; try with_reducible rfl)
  try simp only [Act.put, List.setIfInBounds_toArray, List.set_cons_zero, List.set_cons_succ]
  refine wpAnyH_done (by kernel_rfl) ?_ _
  go_wp2
  go_ret2
  exact tks_drew (HT.out W1 HB.out 3 37)
set_option maxRecDepth 100000 in
set_option maxHeartbeats 1000000 in
theorem tk_22 (F : FlAt B w A p f V fi at_ mo) (i : In3) (hn : p.ty.length ≤ 1024) (ho : i.o = 22) {m : Nat} {g : Fd} (ha : i.a = (m : Int)) (hx : p.fu[m]? = some g) (hp : 0 ≤ g.pa ∧ g.pa ≤ (g.lo.length : Int)) (hk : ∀ k ∈ parK g, isKB p.ty.length k = true) (hl : g.lo.length ≤ 4096) : Calls Tryd.prog 80 #[.pointer (some ⟨A, 0, none⟩), .agg #[.int .i64 i.o, .int .i64 i.a, .int .i64 i.b]] w (TksO p.ty.length (.fit (parK g)) w) := by
  obtain ⟨W1, hW1⟩ : ∃ W1, w.alloc (.cells #[.int .i64 i.o, .int .i64 i.a, .int .i64 i.b] 47) = W1 := ⟨_, rfl⟩
  have b1 : Below w.heap.size w W1 := by rw [← hW1]; exact (Below.refl _ _).alloc (Nat.le_refl _) _
  have F1 := F.below b1
  have HB := hide b1
  have HF1 := hide F1
  have hI : W1.heap[w.heap.size]? = some (.cells #[.int .i64 i.o, .int .i64 i.a, .int .i64 i.b] 47 (0, 0)) := by rw [← hW1]; exact heap_new _ _ rfl
  have i0 : W1.cell? ⟨w.heap.size, 0, none⟩ = some (.int .i64 i.o) := cell_of hI rfl
  have i1 : W1.cell? ⟨w.heap.size, 1, none⟩ = some (.int .i64 i.a) := cell_of hI rfl
  have hlA := lt_of_block F.box
  have hlI := lt_of_block hI
  have HN := hide hn
  clear b1 F1 hI F hn
  have c3 : W1.cell? ⟨A, 3, none⟩ = some V.v2 := cell_of HF1.out.box rfl
  obtain ⟨gg, oo, c, n, v1, v2, v3, v4, hv, hnn, hlt, hg, ⟨y0, y1, y2, y3, y4⟩, r1, r2, r3, r4⟩ := fd_at HF1.out.pg.fu hx
  rw [hv] at c3
  obtain ⟨x1, z1, rfl⟩ := sl_form r1
  obtain ⟨x2, z2, rfl⟩ := sl_form r2
  obtain ⟨x3, z3, rfl⟩ := sl_form r3
  obtain ⟨x4, z4, rfl⟩ := sl_form r4
  have hgw : gg < W1.heap.size := Nat.lt_of_lt_of_le hg HF1.out.hB
  have e1 : decide (m < n) = true := by simpa using hlt
  obtain ⟨q, hq⟩ : ∃ q : Nat, g.pa = (q : Int) := ⟨g.pa.toNat, by omega⟩
  have hpl : (parK g).length = q := by unfold parK; rw [hq, List.length_take]; simp; omega
  have HS := hide (show SlAt 1 IntP B W1 (.slice x1 q z1) (parK g) from by
    have := ints_take r1 q (by omega)
    unfold parK
    rw [hq]
    exact this)
  have hcap : q ≤ g.lo.length ∧ g.lo.length ≤ z1 := by
    obtain ⟨_, _, h1, h2, _⟩ := r1
    cases h1
    omega
  have HT := hide (fun (W : World) (h : Below W1.heap.size W1 W) T => by
    have := tks_fit (w := w) (T := T) HN.out (bel_tr HB.out h) hk (by rw [hpl]; omega) (hpl ▸ is_of_sl (X := fun _ => False) (ints_keep (Nat.le_refl _) (fun j hj => h.block j (Nat.lt_of_lt_of_le hj HF1.out.hB)) HS.out) (Nat.le_trans HF1.out.hB h.size) (fun _ _ h => h))
    rw [hpl] at this
    exact this)
  rw [hq] at y0
  have HPA := hide (fun W : World => params_at W (ao := x1) (v2 := .slice x2 g.re.length z2) (v3 := .slice x3 g.ar.length z3) (v4 := .slice x4 g.co.length z4) hcap.1 hcap.2)
  have HCL := hide (show ∀ W : World, Below W1.heap.size W1 W → W.cell? ⟨A, 3, none⟩ = some (.slice (some ⟨gg, oo, none⟩) n c) ∧ W.cell? ⟨w.heap.size, 1, none⟩ = some (.int .i64 i.a) from fun W h => ⟨(h.cell (p := ⟨A, 3, none⟩) (World.block_lt_of_cell? W1 _ c3)).trans c3, (h.cell (p := ⟨w.heap.size, 1, none⟩) (World.block_lt_of_cell? W1 _ i1)).trans i1⟩)
  rw [ha] at i1 hW1 HCL ⊢
  clear hv hnn hx hp hk hl ha r1 r2 r3 r4 HN hq hpl HS hcap
  generalize g.lo.length = l1 at *
  generalize g.re.length = l2 at *
  generalize g.ar.length = l3 at *
  generalize g.co.length = l4 at *
  rw [ho] at i0 hW1 ⊢
  clear ho
  go_enter Tryd.func80, Tryd.ntmps80
  go_wp2_with fail
  refine wp_region_held_drew (S := (fun W => W.cell? ⟨A, 3, none⟩ = some (.slice (some ⟨gg, oo, none⟩) n c) ∧ W.cell? ⟨w.heap.size, 1, none⟩ = some (.int .i64 m) ∧ W.cell? ⟨gg, oo + m * 5, none⟩ = some (.int .i64 q) ∧ W.cell? ⟨gg, oo + m * 5 + 1, none⟩ = some (.slice x1 l1 z1) ∧ W.cell? ⟨gg, oo + m * 5 + 2, none⟩ = some (.slice x2 l2 z2) ∧ W.cell? ⟨gg, oo + m * 5 + 3, none⟩ = some (.slice x3 l3 z3) ∧ W.cell? ⟨gg, oo + m * 5 + 4, none⟩ = some (.slice x4 l4 z4))) (by kernel_rfl) ⟨c3, i1, y0, y1, y2, y3, y4⟩ (fun hHeld17 => ?_)
  refine wpAnyH_take (i := 0) (oi := { dst := some 96, op := Go.Op.move (Go.Operand.tmp 0), type := 67, pos := "table.go:67", after := #[], guard := none }) (v := ?v18) rfl (by kernel_rfl) (by kernel_rfl) (by kernel_rfl) (fun _ _ _ h => h) (Or.inl ⟨by rfl, ?hy18⟩) (by assumption) ?_
  case hy18 => (intro W hSw; (try dsimp only at hSw); go_simp; try with_reducible rfl)
  try simp only [Act.put, List.setIfInBounds_toArray, List.set_cons_zero, List.set_cons_succ]
  refine wpAnyH_take (i := 1) (oi := { dst := some 97, op := Go.Op.nilCheck (Go.Operand.tmp 96), type := 0, pos := "table.go:67", after := #[{ on := 0, ground := Go.Ground.data }], guard := none }) (v := ?v19) rfl (by kernel_rfl) (by kernel_rfl) (by kernel_rfl) (fun _ _ _ h => h) (Or.inl ⟨by rfl, ?hy19⟩) (by assumption) ?_
  case hy19 => (intro W hSw; (try dsimp only at hSw); go_simp; try with_reducible rfl)
  try simp only [Act.put, List.setIfInBounds_toArray, List.set_cons_zero, List.set_cons_succ]
  refine wpAnyH_take (i := 2) (oi := { dst := some 98, op := Go.Op.fieldAddr 75 (Go.Operand.tmp 97) 1, type := 0, pos := "table.go:67", after := #[{ on := 1, ground := Go.Ground.data }], guard := none }) (v := ?v20) rfl (by kernel_rfl) (by kernel_rfl) (by kernel_rfl) (fun _ _ _ h => h) (Or.inl ⟨by rfl, ?hy20⟩) (by assumption) ?_
  case hy20 => (intro W hSw; (try dsimp only at hSw); go_simp; try with_reducible rfl)
  try simp only [Act.put, List.setIfInBounds_toArray, List.set_cons_zero, List.set_cons_succ]
  refine wpAnyH_take (i := 3) (oi := { dst := some 99, op := Go.Op.fieldAddr 27 (Go.Operand.tmp 98) 1, type := 0, pos := "table.go:67", after := #[{ on := 2, ground := Go.Ground.data }], guard := none }) (v := ?v21) rfl (by kernel_rfl) (by kernel_rfl) (by kernel_rfl) (fun _ _ _ h => h) (Or.inl ⟨by rfl, ?hy21⟩) (by assumption) ?_
  case hy21 => (intro W hSw; (try dsimp only at hSw); go_simp; try with_reducible rfl)
  try simp only [Act.put, List.setIfInBounds_toArray, List.set_cons_zero, List.set_cons_succ]
  refine wpAnyH_take (i := 4) (oi := { dst := some 100, op := Go.Op.load 23 (Go.Operand.tmp 99), type := 23, pos := "table.go:67", after := #[{ on := 3, ground := Go.Ground.data }], guard := none }) (v := ?v22) rfl (by kernel_rfl) (by kernel_rfl) (by kernel_rfl) (fun _ _ _ h => h) (Or.inl ⟨by rfl, ?hy22⟩) (by assumption) ?_
  case hy22 => (intro W hSw; (try dsimp only at hSw); go_simp; try with_reducible rfl)
  try simp only [Act.put, List.setIfInBounds_toArray, List.set_cons_zero, List.set_cons_succ]
  refine wpAnyH_take (i := 5) (oi := { dst := some 101, op := Go.Op.fieldAddr 47 (Go.Operand.tmp 3) 1, type := 0, pos := "table.go:67", after := #[], guard := none }) (v := ?v23) rfl (by kernel_rfl) (by kernel_rfl) (by kernel_rfl) (fun _ _ _ h => h) (Or.inl ⟨by rfl, ?hy23⟩) (by assumption) ?_
  case hy23 => (intro W hSw; (try dsimp only at hSw); go_simp; try with_reducible rfl)
  try simp only [Act.put, List.setIfInBounds_toArray, List.set_cons_zero, List.set_cons_succ]
  refine wpAnyH_take (i := 6) (oi := { dst := some 102, op := Go.Op.load 3 (Go.Operand.tmp 101), type := 3, pos := "table.go:67", after := #[{ on := 5, ground := Go.Ground.data }], guard := none }) (v := ?v24) rfl (by kernel_rfl) (by kernel_rfl) (by kernel_rfl) (fun _ _ _ h => h) (Or.inl ⟨by rfl, ?hy24⟩) (by assumption) ?_
  case hy24 => (intro W hSw; (try dsimp only at hSw); go_simp; try with_reducible rfl)
  try simp only [Act.put, List.setIfInBounds_toArray, List.set_cons_zero, List.set_cons_succ]
  refine wpAnyH_take (i := 7) (oi := { dst := some 103, op := Go.Op.indexAddr 23 (Go.Operand.tmp 100) (Go.Operand.tmp 102), type := 0, pos := "table.go:67", after := #[{ on := 4, ground := Go.Ground.data }, { on := 6, ground := Go.Ground.data }], guard := none }) (v := ?v25) rfl (by kernel_rfl) (by kernel_rfl) (by kernel_rfl) (fun _ _ _ h => h) (Or.inl ⟨by rfl, ?hy25⟩) (by assumption) ?_
  case hy25 => (intro W hSw; (try dsimp only at hSw); go_simp; try with_reducible rfl)
  try simp only [Act.put, List.setIfInBounds_toArray, List.set_cons_zero, List.set_cons_succ]
  refine wpAnyH_take (i := 8) (oi := { dst := some 104, op := Go.Op.load 50 (Go.Operand.tmp 103), type := 50, pos := "table.go:67", after := #[{ on := 7, ground := Go.Ground.data }], guard := none }) (v := ?v26) rfl (by kernel_rfl) (by kernel_rfl) (by kernel_rfl) (fun _ _ _ h => h) (Or.inl ⟨by rfl, ?hy26⟩) (by assumption) ?_
  case hy26 => (intro W hSw; (try dsimp only at hSw); go_simp; try with_reducible rfl)
  try simp only [Act.put, List.setIfInBounds_toArray, List.set_cons_zero, List.set_cons_succ]
  refine wpAnyH_ready (rs := [9]) (by kernel_rfl) (by simp) ?_
  refine AllReadyH.cons (o := { dst := some 105, op := Go.Op.call { callee := Go.Callee.value (Go.Operand.func 86), args := #[Go.Operand.tmp 104], argTypes := #[50] }, type := 37, pos := "table.go:67", after := #[{ on := 8, ground := Go.Ground.data }], guard := none }) rfl (fun K hK => ?_) AllReadyH.nil
  go_simp
  go_at_call 86
  refine (HPA.out _).mono ?_
  rintro e w3 ⟨rfl, hb3⟩
  have HZ := hide (show Below W1.heap.size W1 w3 from bel_tr (below_drew (Below.refl _ _)) hb3)
  have hke : ∀ {b o : Nat} {u : Value}, W1.cell? ⟨b, o, none⟩ = some u → w3.cell? ⟨b, o, none⟩ = some u := fun {b o u} h => (HZ.out.cell (p := ⟨b, o, none⟩) (World.block_lt_of_cell? W1 _ h)).trans h
  have HKE := hide (show w3.cell? ⟨A, 3, none⟩ = some (.slice (some ⟨gg, oo, none⟩) n c) ∧ w3.cell? ⟨w.heap.size, 1, none⟩ = some (.int .i64 m) ∧ w3.cell? ⟨gg, oo + m * 5, none⟩ = some (.int .i64 q) ∧ w3.cell? ⟨gg, oo + m * 5 + 1, none⟩ = some (.slice x1 l1 z1) ∧ w3.cell? ⟨gg, oo + m * 5 + 2, none⟩ = some (.slice x2 l2 z2) ∧ w3.cell? ⟨gg, oo + m * 5 + 3, none⟩ = some (.slice x3 l3 z3) ∧ w3.cell? ⟨gg, oo + m * 5 + 4, none⟩ = some (.slice x4 l4 z4) from ⟨hke c3, hke i1, hke y0, hke y1, hke y2, hke y3, hke y4⟩)
  clear hke
  go_wp2_with fail
  refine hK.out _ _ HKE.out (fun hHeld27 => ?_)
  clear hK K
  try simp only [Act.put, List.setIfInBounds_toArray, List.set_cons_zero, List.set_cons_succ]
  refine wpAnyH_ready (rs := [10]) (by kernel_rfl) (by simp) ?_
  refine AllReadyH.cons (o := { dst := some 106, op := Go.Op.call { callee := Go.Callee.value (Go.Operand.func 88), args := #[Go.Operand.tmp 105], argTypes := #[37] }, type := 132, pos := "table.go:67", after := #[{ on := 9, ground := Go.Ground.data }, { on := 9, ground := Go.Ground.chain }], guard := none }) rfl (fun K hK => ?_) AllReadyH.nil
  go_simp
  go_at_call 88
  refine (fitting_any _ _ _ _).mono ?_
  rintro e w4 ⟨rfl, rfl⟩
  have HK5 := hide (show ∀ (b o : Nat) (u : Value), w3.cell? ⟨b, o, none⟩ = some u → (w3.alloc (.cells #[.slice x1 q z1] 37)).cell? ⟨b, o, none⟩ = some u from fun b o u h => (((Below.refl w3.heap.size w3).alloc (Nat.le_refl _) _).cell (p := ⟨b, o, none⟩) (World.block_lt_of_cell? w3 _ h)).trans h)
  obtain ⟨j1, j2, j3, j4, j5, j6, j7⟩ := HKE.out
  go_wp2_with fail
  refine hK.out _ _ ⟨HK5.out _ _ _ j1, HK5.out _ _ _ j2, HK5.out _ _ _ j3, HK5.out _ _ _ j4, HK5.out _ _ _ j5, HK5.out _ _ _ j6, HK5.out _ _ _ j7⟩ (fun hHeld28 => ?_)
  clear hK K
  try simp only [Act.put, List.setIfInBounds_toArray, List.set_cons_zero, List.set_cons_succ]
  refine wpAnyH_take (i := 11) (oi := { dst := some 107, op := Go.Op.extract (Go.Operand.tmp 106) 0, type := 3, pos := "table.go:67", after := #[{ on := 10, ground := Go.Ground.data }], guard := none }) (v := ?v29) rfl (by kernel_rfl) (by kernel_rfl) (by kernel_rfl) (fun _ _ _ h => h) (Or.inl ⟨by rfl, ?hy29⟩) (by assumption) ?_
  case hy29 => (intro W hSw; (try dsimp only at hSw); go_simp; try with_reducible rfl)
  try simp only [Act.put, List.setIfInBounds_toArray, List.set_cons_zero, List.set_cons_succ]
  refine wpAnyH_take (i := 12) (oi := { dst := some 108, op := Go.Op.extract (Go.Operand.tmp 106) 1, type := 131, pos := "table.go:67", after := #[{ on := 10, ground := Go.Ground.data }], guard := none }) (v := ?v30) rfl (by kernel_rfl) (by kernel_rfl) (by kernel_rfl) (fun _ _ _ h => h) (Or.inl ⟨by rfl, ?hy30⟩) (by assumption) ?_
  case hy30 => (intro W hSw; (try dsimp only at hSw); go_simp; try with_reducible rfl)
  try simp only [Act.put, List.setIfInBounds_toArray, List.set_cons_zero, List.set_cons_succ]
  refine wpAnyH_take (i := 13) (oi := { dst := some 4, op := Go.Op.assign (Go.Operand.tmp 107), type := 3, pos := "table.go:67", after := #[{ on := 11, ground := Go.Ground.data }, { on := 10, ground := Go.Ground.chain }, { on := 0, ground := Go.Ground.phase }, { on := 1, ground := Go.Ground.phase }, { on := 2, ground := Go.Ground.phase }, { on := 3, ground := Go.Ground.phase }, { on := 4, ground := Go.Ground.phase }, { on := 5, ground := Go.Ground.phase }, { on := 6, ground := Go.Ground.phase }, { on := 7, ground := Go.Ground.phase }, { on := 8, ground := Go.Ground.phase }, { on := 9, ground := Go.Ground.phase }, { on := 10, ground := Go.Ground.phase }, { on := 11, ground := Go.Ground.phase }, { on := 12, ground := Go.Ground.phase }], guard := none }) (v := ?v31) rfl (by kernel_rfl) (by kernel_rfl) (by kernel_rfl) (fun _ _ _ h => h) (Or.inl ⟨by rfl, ?hy31⟩) (by assumption) ?_
  case hy31 => (intro W hSw; (try dsimp only at hSw); go_simp; try with_reducible rfl)
  try simp only [Act.put, List.setIfInBounds_toArray, List.set_cons_zero, List.set_cons_succ]
  refine wpAnyH_take (i := 14) (oi := { dst := some 5, op := Go.Op.assign (Go.Operand.tmp 108), type := 131, pos := "table.go:67", after := #[{ on := 12, ground := Go.Ground.data }, { on := 13, ground := Go.Ground.chain }, { on := 0, ground := Go.Ground.phase }, { on := 1, ground := Go.Ground.phase }, { on := 2, ground := Go.Ground.phase }, { on := 3, ground := Go.Ground.phase }, { on := 4, ground := Go.Ground.phase }, { on := 5, ground := Go.Ground.phase }, { on := 6, ground := Go.Ground.phase }, { on := 7, ground := Go.Ground.phase }, { on := 8, ground := Go.Ground.phase }, { on := 9, ground := Go.Ground.phase }, { on := 10, ground := Go.Ground.phase }, { on := 11, ground := Go.Ground.phase }, { on := 12, ground := Go.Ground.phase }, { on := 13, ground := Go.Ground.phase }], guard := none }) (v := ?v32) rfl (by kernel_rfl) (by kernel_rfl) (by kernel_rfl) (fun _ _ _ h => h) (Or.inl ⟨by rfl, ?hy32⟩) (by assumption) ?_
  case hy32 => (intro W hSw; (try dsimp only at hSw); go_simp; try with_reducible rfl)
  try simp only [Act.put, List.setIfInBounds_toArray, List.set_cons_zero, List.set_cons_succ]
  refine wpAnyH_done (by kernel_rfl) ?_ _
  go_wp2
  go_ret2
  exact HT.out w3 HZ.out _
end
end Go.Proofs.YtkdojpnihinpbaaDoor
