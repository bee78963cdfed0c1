/- names: are A and B what they must be? -/
import Derived.Test.YtkdojpnihinpbaaDoorVfG
namespace Go.Proofs.YtkdojpnihinpbaaDoor
open Go.RowKit
section
variable {B A : Nat} {w w' : World} {p : Pg} {f : Fd} {V : Fv} {fi at_ mo : Int}
theorem FlAt.below (F : FlAt B w A p f V fi at_ mo) (h : Below w.heap.size w w') : FlAt B w' A p f V fi at_ mo :=
  F.keep (fun j hj => h.block j (Nat.lt_of_lt_of_le hj F.hB)) (h.block A (lt_of_block F.box)) h.size
/-- What names reads: the lengths of lists, the instruction's box. -/
structure NmC (W : World) (A b : Nat) (i : In3) (n1 n2 n3 n4 l1 l3 : Nat) : Prop where
  c2 : ∃ a c, W.cell? ⟨A, 2, none⟩ = some (.slice a n1 c)
  c3 : ∃ a c, W.cell? ⟨A, 3, none⟩ = some (.slice a n2 c)
  c4 : ∃ a c, W.cell? ⟨A, 4, none⟩ = some (.slice a n3 c)
  c5 : ∃ a c, W.cell? ⟨A, 5, none⟩ = some (.slice a n4 c)
  c7 : ∃ a c, W.cell? ⟨A, 7, none⟩ = some (.slice a l1 c)
  c9 : ∃ a c, W.cell? ⟨A, 9, none⟩ = some (.slice a l3 c)
  i0 : W.cell? ⟨b, 0, none⟩ = some (.int .i64 i.o)
  i1 : W.cell? ⟨b, 1, none⟩ = some (.int .i64 i.a)
  i2 : W.cell? ⟨b, 2, none⟩ = some (.int .i64 i.b)
theorem sl_form {α : Type} {k : Nat} {P : World → List Value → α → Prop} {v : Value} {l : List α} (R : SlAt k P B w v l) : ∃ a c, v = .slice a l.length c := by
  obtain ⟨a, c, h, _⟩ := R
  exact ⟨a, c, h⟩
theorem FlAt.nmc (F : FlAt B w A p f V fi at_ mo) (i : In3) {b : Nat} (hb : w.heap[b]? = some (.cells #[.int .i64 i.o, .int .i64 i.a, .int .i64 i.b] 47 (0, 0))) : NmC w A b i p.ty.length p.fu.length p.ta.length p.st.length f.lo.length f.ar.length := by
  obtain ⟨a1, d1, h1⟩ := sl_form F.pg.ty
  obtain ⟨a2, d2, h2⟩ := sl_form F.pg.fu
  obtain ⟨a3, d3, h3⟩ := sl_form F.pg.ta
  obtain ⟨a4, d4, h4⟩ := sl_form F.pg.st
  obtain ⟨a5, d5, h5⟩ := sl_form F.lo
  obtain ⟨a6, d6, h6⟩ := sl_form F.ar
  exact ⟨⟨a1, d1, h1 ▸ cell_of F.box rfl⟩, ⟨a2, d2, h2 ▸ cell_of F.box rfl⟩, ⟨a3, d3, h3 ▸ cell_of F.box rfl⟩, ⟨a4, d4, h4 ▸ cell_of F.box rfl⟩, ⟨a5, d5, h5 ▸ cell_of F.box rfl⟩, ⟨a6, d6, h6 ▸ cell_of F.box rfl⟩, cell_of hb rfl, cell_of hb rfl, cell_of hb rfl⟩
set_option maxRecDepth 100000 in
set_option maxHeartbeats 1000000 in
theorem nm_lo_3 (F : FlAt B w A p f V fi at_ mo) (i : In3) (ho : i.o = 3) : Calls Tryd.prog 79 #[.pointer (some ⟨A, 0, none⟩), .agg #[.int .i64 i.o, .int .i64 i.a, .int .i64 i.b]] w fun e w' => e = .returned (.bool (inB i.a f.lo.length)) ∧ Below w.heap.size w w' := by
  obtain ⟨W1, hW1⟩ : ∃ W1, w.alloc (.cells #[.int .i64 i.o, .int .i64 i.a, .int .i64 i.b] 47) = W1 := ⟨_, rfl⟩
  have b1 : Below w.heap.size w W1 := by rw [← hW1]; exact (Below.refl _ _).alloc (Nat.le_refl _) _
  have F1 := F.below b1
  have HB := hide b1
  have HF1 := hide F1
  have N := F1.nmc i (b := w.heap.size) (by rw [← hW1]; exact heap_new _ _ rfl)
  obtain ⟨⟨a2, d2, c2⟩, ⟨a3, d3, c3⟩, ⟨a4, d4, c4⟩, ⟨a5, d5, c5⟩, ⟨a7, d7, c7⟩, ⟨a9, d9, c9⟩, i0, i1, i2⟩ := N
  have hlA := lt_of_block F.box
  clear b1 F1 F
  generalize p.ty.length = n1 at *
  generalize p.fu.length = n2 at *
  generalize p.ta.length = n3 at *
  generalize p.st.length = n4 at *
  generalize f.lo.length = l1 at *
  generalize f.ar.length = l3 at *
  rw [ho] at i0 hW1 ⊢
  clear ho
  go_enter Tryd.func79, Tryd.ntmps79
  go_wp2_with fail
  go_quiet ((first | (go_at_call 36; exact Calls.quiet_of_same (within_any _ _ _))))
  go_wp2
  go_ret
  exact ⟨rfl, below_drewN HB.out _⟩
set_option maxRecDepth 100000 in
set_option maxHeartbeats 1000000 in
theorem nm_lo_4 (F : FlAt B w A p f V fi at_ mo) (i : In3) (ho : i.o = 4) : Calls Tryd.prog 79 #[.pointer (some ⟨A, 0, none⟩), .agg #[.int .i64 i.o, .int .i64 i.a, .int .i64 i.b]] w fun e w' => e = .returned (.bool (inB i.a f.lo.length)) ∧ Below w.heap.size w w' := by
  obtain ⟨W1, hW1⟩ : ∃ W1, w.alloc (.cells #[.int .i64 i.o, .int .i64 i.a, .int .i64 i.b] 47) = W1 := ⟨_, rfl⟩
  have b1 : Below w.heap.size w W1 := by rw [← hW1]; exact (Below.refl _ _).alloc (Nat.le_refl _) _
  have F1 := F.below b1
  have HB := hide b1
  have HF1 := hide F1
  have N := F1.nmc i (b := w.heap.size) (by rw [← hW1]; exact heap_new _ _ rfl)
  obtain ⟨⟨a2, d2, c2⟩, ⟨a3, d3, c3⟩, ⟨a4, d4, c4⟩, ⟨a5, d5, c5⟩, ⟨a7, d7, c7⟩, ⟨a9, d9, c9⟩, i0, i1, i2⟩ := N
  have hlA := lt_of_block F.box
  clear b1 F1 F
  generalize p.ty.length = n1 at *
  generalize p.fu.length = n2 at *
  generalize p.ta.length = n3 at *
  generalize p.st.length = n4 at *
  generalize f.lo.length = l1 at *
  generalize f.ar.length = l3 at *
  rw [ho] at i0 hW1 ⊢
  clear ho
  go_enter Tryd.func79, Tryd.ntmps79
  go_wp2_with fail
  go_quiet ((first | (go_at_call 36; exact Calls.quiet_of_same (within_any _ _ _))))
  go_wp2
  go_ret
  exact ⟨rfl, below_drewN HB.out _⟩
set_option maxRecDepth 100000 in
set_option maxHeartbeats 1000000 in
theorem nm_ar_13 (F : FlAt B w A p f V fi at_ mo) (i : In3) (ho : i.o = 13) : Calls Tryd.prog 79 #[.pointer (some ⟨A, 0, none⟩), .agg #[.int .i64 i.o, .int .i64 i.a, .int .i64 i.b]] w fun e w' => e = .returned (.bool (inB i.a f.ar.length)) ∧ Below w.heap.size w w' := by
  obtain ⟨W1, hW1⟩ : ∃ W1, w.alloc (.cells #[.int .i64 i.o, .int .i64 i.a, .int .i64 i.b] 47) = W1 := ⟨_, rfl⟩
  have b1 : Below w.heap.size w W1 := by rw [← hW1]; exact (Below.refl _ _).alloc (Nat.le_refl _) _
  have F1 := F.below b1
  have HB := hide b1
  have HF1 := hide F1
  have N := F1.nmc i (b := w.heap.size) (by rw [← hW1]; exact heap_new _ _ rfl)
  obtain ⟨⟨a2, d2, c2⟩, ⟨a3, d3, c3⟩, ⟨a4, d4, c4⟩, ⟨a5, d5, c5⟩, ⟨a7, d7, c7⟩, ⟨a9, d9, c9⟩, i0, i1, i2⟩ := N
  have hlA := lt_of_block F.box
  clear b1 F1 F
  generalize p.ty.length = n1 at *
  generalize p.fu.length = n2 at *
  generalize p.ta.length = n3 at *
  generalize p.st.length = n4 at *
  generalize f.lo.length = l1 at *
  generalize f.ar.length = l3 at *
  rw [ho] at i0 hW1 ⊢
  clear ho
  go_enter Tryd.func79, Tryd.ntmps79
  go_wp2_with fail
  go_quiet ((first | (go_at_call 36; exact Calls.quiet_of_same (within_any _ _ _))))
  go_wp2
  go_ret
  exact ⟨rfl, below_drewN HB.out _⟩
set_option maxRecDepth 100000 in
set_option maxHeartbeats 1000000 in
theorem nm_fu_22 (F : FlAt B w A p f V fi at_ mo) (i : In3) (ho : i.o = 22) : Calls Tryd.prog 79 #[.pointer (some ⟨A, 0, none⟩), .agg #[.int .i64 i.o, .int .i64 i.a, .int .i64 i.b]] w fun e w' => e = .returned (.bool (inB i.a p.fu.length)) ∧ Below w.heap.size w w' := by
  obtain ⟨W1, hW1⟩ : ∃ W1, w.alloc (.cells #[.int .i64 i.o, .int .i64 i.a, .int .i64 i.b] 47) = W1 := ⟨_, rfl⟩
  have b1 : Below w.heap.size w W1 := by rw [← hW1]; exact (Below.refl _ _).alloc (Nat.le_refl _) _
  have F1 := F.below b1
  have HB := hide b1
  have HF1 := hide F1
  have N := F1.nmc i (b := w.heap.size) (by rw [← hW1]; exact heap_new _ _ rfl)
  obtain ⟨⟨a2, d2, c2⟩, ⟨a3, d3, c3⟩, ⟨a4, d4, c4⟩, ⟨a5, d5, c5⟩, ⟨a7, d7, c7⟩, ⟨a9, d9, c9⟩, i0, i1, i2⟩ := N
  have hlA := lt_of_block F.box
  clear b1 F1 F
  generalize p.ty.length = n1 at *
  generalize p.fu.length = n2 at *
  generalize p.ta.length = n3 at *
  generalize p.st.length = n4 at *
  generalize f.lo.length = l1 at *
  generalize f.ar.length = l3 at *
  rw [ho] at i0 hW1 ⊢
  clear ho
  go_enter Tryd.func79, Tryd.ntmps79
  go_wp2_with fail
  go_quiet ((first | (go_at_call 36; exact Calls.quiet_of_same (within_any _ _ _))))
  go_wp2
  go_ret
  exact ⟨rfl, below_drewN HB.out _⟩
set_option maxRecDepth 100000 in
set_option maxHeartbeats 1000000 in
theorem nm_ta_23 (F : FlAt B w A p f V fi at_ mo) (i : In3) (ho : i.o = 23) : Calls Tryd.prog 79 #[.pointer (some ⟨A, 0, none⟩), .agg #[.int .i64 i.o, .int .i64 i.a, .int .i64 i.b]] w fun e w' => e = .returned (.bool (inB i.a p.ta.length)) ∧ Below w.heap.size w w' := by
  obtain ⟨W1, hW1⟩ : ∃ W1, w.alloc (.cells #[.int .i64 i.o, .int .i64 i.a, .int .i64 i.b] 47) = W1 := ⟨_, rfl⟩
  have b1 : Below w.heap.size w W1 := by rw [← hW1]; exact (Below.refl _ _).alloc (Nat.le_refl _) _
  have F1 := F.below b1
  have HB := hide b1
  have HF1 := hide F1
  have N := F1.nmc i (b := w.heap.size) (by rw [← hW1]; exact heap_new _ _ rfl)
  obtain ⟨⟨a2, d2, c2⟩, ⟨a3, d3, c3⟩, ⟨a4, d4, c4⟩, ⟨a5, d5, c5⟩, ⟨a7, d7, c7⟩, ⟨a9, d9, c9⟩, i0, i1, i2⟩ := N
  have hlA := lt_of_block F.box
  clear b1 F1 F
  generalize p.ty.length = n1 at *
  generalize p.fu.length = n2 at *
  generalize p.ta.length = n3 at *
  generalize p.st.length = n4 at *
  generalize f.lo.length = l1 at *
  generalize f.ar.length = l3 at *
  rw [ho] at i0 hW1 ⊢
  clear ho
  go_enter Tryd.func79, Tryd.ntmps79
  go_wp2_with fail
  go_quiet ((first | (go_at_call 36; exact Calls.quiet_of_same (within_any _ _ _))))
  go_wp2
  go_ret
  exact ⟨rfl, below_drewN HB.out _⟩
set_option maxRecDepth 100000 in
set_option maxHeartbeats 1000000 in
theorem nm_ty_11 (F : FlAt B w A p f V fi at_ mo) (i : In3) (ho : i.o = 11) : Calls Tryd.prog 79 #[.pointer (some ⟨A, 0, none⟩), .agg #[.int .i64 i.o, .int .i64 i.a, .int .i64 i.b]] w fun e w' => e = .returned (.bool (inB i.a p.ty.length)) ∧ Below w.heap.size w w' := by
  obtain ⟨W1, hW1⟩ : ∃ W1, w.alloc (.cells #[.int .i64 i.o, .int .i64 i.a, .int .i64 i.b] 47) = W1 := ⟨_, rfl⟩
  have b1 : Below w.heap.size w W1 := by rw [← hW1]; exact (Below.refl _ _).alloc (Nat.le_refl _) _
  have F1 := F.below b1
  have HB := hide b1
  have HF1 := hide F1
  have N := F1.nmc i (b := w.heap.size) (by rw [← hW1]; exact heap_new _ _ rfl)
  obtain ⟨⟨a2, d2, c2⟩, ⟨a3, d3, c3⟩, ⟨a4, d4, c4⟩, ⟨a5, d5, c5⟩, ⟨a7, d7, c7⟩, ⟨a9, d9, c9⟩, i0, i1, i2⟩ := N
  have hlA := lt_of_block F.box
  clear b1 F1 F
  generalize p.ty.length = n1 at *
  generalize p.fu.length = n2 at *
  generalize p.ta.length = n3 at *
  generalize p.st.length = n4 at *
  generalize f.lo.length = l1 at *
  generalize f.ar.length = l3 at *
  rw [ho] at i0 hW1 ⊢
  clear ho
  go_enter Tryd.func79, Tryd.ntmps79
  go_wp2_with fail
  refine (within_any _ _ _).mono ?_
  rintro e w2 ⟨rfl, rfl⟩
  go_wp2
  go_ret
  exact ⟨rfl, HB.out⟩
set_option maxRecDepth 100000 in
set_option maxHeartbeats 1000000 in
theorem nm_ty_12 (F : FlAt B w A p f V fi at_ mo) (i : In3) (ho : i.o = 12) : Calls Tryd.prog 79 #[.pointer (some ⟨A, 0, none⟩), .agg #[.int .i64 i.o, .int .i64 i.a, .int .i64 i.b]] w fun e w' => e = .returned (.bool (inB i.a p.ty.length)) ∧ Below w.heap.size w w' := by
  obtain ⟨W1, hW1⟩ : ∃ W1, w.alloc (.cells #[.int .i64 i.o, .int .i64 i.a, .int .i64 i.b] 47) = W1 := ⟨_, rfl⟩
  have b1 : Below w.heap.size w W1 := by rw [← hW1]; exact (Below.refl _ _).alloc (Nat.le_refl _) _
  have F1 := F.below b1
  have HB := hide b1
  have HF1 := hide F1
  have N := F1.nmc i (b := w.heap.size) (by rw [← hW1]; exact heap_new _ _ rfl)
  obtain ⟨⟨a2, d2, c2⟩, ⟨a3, d3, c3⟩, ⟨a4, d4, c4⟩, ⟨a5, d5, c5⟩, ⟨a7, d7, c7⟩, ⟨a9, d9, c9⟩, i0, i1, i2⟩ := N
  have hlA := lt_of_block F.box
  clear b1 F1 F
  generalize p.ty.length = n1 at *
  generalize p.fu.length = n2 at *
  generalize p.ta.length = n3 at *
  generalize p.st.length = n4 at *
  generalize f.lo.length = l1 at *
  generalize f.ar.length = l3 at *
  rw [ho] at i0 hW1 ⊢
  clear ho
  go_enter Tryd.func79, Tryd.ntmps79
  go_wp2_with fail
  refine (within_any _ _ _).mono ?_
  rintro e w2 ⟨rfl, rfl⟩
  go_wp2
  go_ret
  exact ⟨rfl, HB.out⟩
set_option maxRecDepth 100000 in
set_option maxHeartbeats 1000000 in
theorem nm_ty_21 (F : FlAt B w A p f V fi at_ mo) (i : In3) (ho : i.o = 21) : Calls Tryd.prog 79 #[.pointer (some ⟨A, 0, none⟩), .agg #[.int .i64 i.o, .int .i64 i.a, .int .i64 i.b]] w fun e w' => e = .returned (.bool (inB i.a p.ty.length)) ∧ Below w.heap.size w w' := by
  obtain ⟨W1, hW1⟩ : ∃ W1, w.alloc (.cells #[.int .i64 i.o, .int .i64 i.a, .int .i64 i.b] 47) = W1 := ⟨_, rfl⟩
  have b1 : Below w.heap.size w W1 := by rw [← hW1]; exact (Below.refl _ _).alloc (Nat.le_refl _) _
  have F1 := F.below b1
  have HB := hide b1
  have HF1 := hide F1
  have N := F1.nmc i (b := w.heap.size) (by rw [← hW1]; exact heap_new _ _ rfl)
  obtain ⟨⟨a2, d2, c2⟩, ⟨a3, d3, c3⟩, ⟨a4, d4, c4⟩, ⟨a5, d5, c5⟩, ⟨a7, d7, c7⟩, ⟨a9, d9, c9⟩, i0, i1, i2⟩ := N
  have hlA := lt_of_block F.box
  clear b1 F1 F
  generalize p.ty.length = n1 at *
  generalize p.fu.length = n2 at *
  generalize p.ta.length = n3 at *
  generalize p.st.length = n4 at *
  generalize f.lo.length = l1 at *
  generalize f.ar.length = l3 at *
  rw [ho] at i0 hW1 ⊢
  clear ho
  go_enter Tryd.func79, Tryd.ntmps79
  go_wp2_with fail
  refine (within_any _ _ _).mono ?_
  rintro e w2 ⟨rfl, rfl⟩
  go_wp2
  go_ret
  exact ⟨rfl, HB.out⟩
set_option maxRecDepth 100000 in
set_option maxHeartbeats 1000000 in
theorem nm_tb_16 (F : FlAt B w A p f V fi at_ mo) (i : In3) (ho : i.o = 16) : Calls Tryd.prog 79 #[.pointer (some ⟨A, 0, none⟩), .agg #[.int .i64 i.o, .int .i64 i.a, .int .i64 i.b]] w fun e w' => e = .returned (.bool (inB i.b p.ty.length)) ∧ Below w.heap.size w w' := by
  obtain ⟨W1, hW1⟩ : ∃ W1, w.alloc (.cells #[.int .i64 i.o, .int .i64 i.a, .int .i64 i.b] 47) = W1 := ⟨_, rfl⟩
  have b1 : Below w.heap.size w W1 := by rw [← hW1]; exact (Below.refl _ _).alloc (Nat.le_refl _) _
  have F1 := F.below b1
  have HB := hide b1
  have HF1 := hide F1
  have N := F1.nmc i (b := w.heap.size) (by rw [← hW1]; exact heap_new _ _ rfl)
  obtain ⟨⟨a2, d2, c2⟩, ⟨a3, d3, c3⟩, ⟨a4, d4, c4⟩, ⟨a5, d5, c5⟩, ⟨a7, d7, c7⟩, ⟨a9, d9, c9⟩, i0, i1, i2⟩ := N
  have hlA := lt_of_block F.box
  clear b1 F1 F
  generalize p.ty.length = n1 at *
  generalize p.fu.length = n2 at *
  generalize p.ta.length = n3 at *
  generalize p.st.length = n4 at *
  generalize f.lo.length = l1 at *
  generalize f.ar.length = l3 at *
  rw [ho] at i0 hW1 ⊢
  clear ho
  go_enter Tryd.func79, Tryd.ntmps79
  go_wp2_with fail
  refine (within_any _ _ _).mono ?_
  rintro e w2 ⟨rfl, rfl⟩
  go_wp2
  go_ret
  exact ⟨rfl, HB.out⟩
end
end Go.Proofs.YtkdojpnihinpbaaDoor
