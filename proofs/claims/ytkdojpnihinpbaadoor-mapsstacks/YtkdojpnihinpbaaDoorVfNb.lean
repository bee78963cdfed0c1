/- names, the rest. -/
import Derived.Test.YtkdojpnihinpbaaDoorVfN
namespace Go.Proofs.YtkdojpnihinpbaaDoor
open Go.RowKit
section
variable {B A : Nat} {w w' : World} {p : Pg} {f : Fd} {V : Fv} {fi at_ mo : Int}
set_option maxRecDepth 100000 in
set_option maxHeartbeats 1000000 in
theorem nm_nil_a (F : FlAt B w A p f V fi at_ mo) (i : In3) (ho : i.o = 2) (h0 : i.a = 0) : Calls Tryd.prog 79 #[.pointer (some ⟨A, 0, none⟩), .agg #[.int .i64 i.o, .int .i64 i.a, .int .i64 i.b]] w fun e w' => e = .returned (.bool false) ∧ Below w.heap.size w w' := by
  obtain ⟨W1, hW1⟩ : ∃ W1, w.alloc (.cells #[.int .i64 i.o, .int .i64 i.a, .int .i64 i.b] 47) = W1 := ⟨_, rfl⟩
  have b1 : Below w.heap.size w W1 := by rw [← hW1]; exact (Below.refl _ _).alloc (Nat.le_refl _) _
  have F1 := F.below b1
  have HB := hide b1
  have HF1 := hide F1
  have N := F1.nmc i (b := w.heap.size) (by rw [← hW1]; exact heap_new _ _ rfl)
  obtain ⟨⟨a2, d2, c2⟩, ⟨a3, d3, c3⟩, ⟨a4, d4, c4⟩, ⟨a5, d5, c5⟩, ⟨a7, d7, c7⟩, ⟨a9, d9, c9⟩, i0, i1, i2⟩ := N
  have hlA := lt_of_block F.box
  clear b1 F1 F
  generalize p.ty.length = n1 at *
  generalize p.fu.length = n2 at *
  generalize p.ta.length = n3 at *
  generalize p.st.length = n4 at *
  generalize f.lo.length = l1 at *
  generalize f.ar.length = l3 at *
  rw [ho] at i0 hW1 ⊢
  clear ho
  rw [h0] at i1 hW1 ⊢
  clear h0
  go_enter Tryd.func79, Tryd.ntmps79
  go_wp2
  go_ret
  exact ⟨rfl, HB.out⟩
set_option maxRecDepth 100000 in
set_option maxHeartbeats 1000000 in
theorem nm_nil_b (F : FlAt B w A p f V fi at_ mo) (i : In3) (ho : i.o = 2) (h0 : i.a ≠ 0) (hr : -9223372036854775808 ≤ i.a ∧ i.a ≤ 9223372036854775807) : Calls Tryd.prog 79 #[.pointer (some ⟨A, 0, none⟩), .agg #[.int .i64 i.o, .int .i64 i.a, .int .i64 i.b]] w fun e w' => e = .returned (.bool (isKB p.ty.length i.a)) ∧ Below w.heap.size w w' := by
  obtain ⟨W1, hW1⟩ : ∃ W1, w.alloc (.cells #[.int .i64 i.o, .int .i64 i.a, .int .i64 i.b] 47) = W1 := ⟨_, rfl⟩
  have b1 : Below w.heap.size w W1 := by rw [← hW1]; exact (Below.refl _ _).alloc (Nat.le_refl _) _
  have F1 := F.below b1
  have HB := hide b1
  have HF1 := hide F1
  have N := F1.nmc i (b := w.heap.size) (by rw [← hW1]; exact heap_new _ _ rfl)
  obtain ⟨⟨a2, d2, c2⟩, ⟨a3, d3, c3⟩, ⟨a4, d4, c4⟩, ⟨a5, d5, c5⟩, ⟨a7, d7, c7⟩, ⟨a9, d9, c9⟩, i0, i1, i2⟩ := N
  have hlA := lt_of_block F.box
  clear b1 F1 F
  generalize p.ty.length = n1 at *
  generalize p.fu.length = n2 at *
  generalize p.ta.length = n3 at *
  generalize p.st.length = n4 at *
  generalize f.lo.length = l1 at *
  generalize f.ar.length = l3 at *
  rw [ho] at i0 hW1 ⊢
  clear ho
  have HR := hide hr
  have z0 : (i.a != 0) = true := by simpa using h0
  clear hr
  go_enter Tryd.func79, Tryd.ntmps79
  go_wp2_with fail
  refine (isKind_any _ _ _ HR.out).mono ?_
  rintro e w2 ⟨rfl, rfl⟩
  go_wp2
  go_ret
  exact ⟨rfl, HB.out⟩
set_option maxRecDepth 100000 in
set_option maxHeartbeats 1000000 in
theorem nm_ari_a (F : FlAt B w A p f V fi at_ mo) (i : In3) (ho : i.o = 7) (h0 : 0 ≤ i.a) : Calls Tryd.prog 79 #[.pointer (some ⟨A, 0, none⟩), .agg #[.int .i64 i.o, .int .i64 i.a, .int .i64 i.b]] w fun e w' => e = .returned (.bool (decide (i.a ≤ 9))) ∧ Below w.heap.size w w' := by
  obtain ⟨W1, hW1⟩ : ∃ W1, w.alloc (.cells #[.int .i64 i.o, .int .i64 i.a, .int .i64 i.b] 47) = W1 := ⟨_, rfl⟩
  have b1 : Below w.heap.size w W1 := by rw [← hW1]; exact (Below.refl _ _).alloc (Nat.le_refl _) _
  have F1 := F.below b1
  have HB := hide b1
  have HF1 := hide F1
  have N := F1.nmc i (b := w.heap.size) (by rw [← hW1]; exact heap_new _ _ rfl)
  obtain ⟨⟨a2, d2, c2⟩, ⟨a3, d3, c3⟩, ⟨a4, d4, c4⟩, ⟨a5, d5, c5⟩, ⟨a7, d7, c7⟩, ⟨a9, d9, c9⟩, i0, i1, i2⟩ := N
  have hlA := lt_of_block F.box
  clear b1 F1 F
  generalize p.ty.length = n1 at *
  generalize p.fu.length = n2 at *
  generalize p.ta.length = n3 at *
  generalize p.st.length = n4 at *
  generalize f.lo.length = l1 at *
  generalize f.ar.length = l3 at *
  rw [ho] at i0 hW1 ⊢
  clear ho
  have z0 : decide (0 ≤ i.a) = true := by simpa using h0
  go_enter Tryd.func79, Tryd.ntmps79
  go_wp2
  go_ret
  exact ⟨rfl, HB.out⟩
set_option maxRecDepth 100000 in
set_option maxHeartbeats 1000000 in
theorem nm_ari_b (F : FlAt B w A p f V fi at_ mo) (i : In3) (ho : i.o = 7) (h0 : i.a < 0) : Calls Tryd.prog 79 #[.pointer (some ⟨A, 0, none⟩), .agg #[.int .i64 i.o, .int .i64 i.a, .int .i64 i.b]] w fun e w' => e = .returned (.bool false) ∧ Below w.heap.size w w' := by
  obtain ⟨W1, hW1⟩ : ∃ W1, w.alloc (.cells #[.int .i64 i.o, .int .i64 i.a, .int .i64 i.b] 47) = W1 := ⟨_, rfl⟩
  have b1 : Below w.heap.size w W1 := by rw [← hW1]; exact (Below.refl _ _).alloc (Nat.le_refl _) _
  have F1 := F.below b1
  have HB := hide b1
  have HF1 := hide F1
  have N := F1.nmc i (b := w.heap.size) (by rw [← hW1]; exact heap_new _ _ rfl)
  obtain ⟨⟨a2, d2, c2⟩, ⟨a3, d3, c3⟩, ⟨a4, d4, c4⟩, ⟨a5, d5, c5⟩, ⟨a7, d7, c7⟩, ⟨a9, d9, c9⟩, i0, i1, i2⟩ := N
  have hlA := lt_of_block F.box
  clear b1 F1 F
  generalize p.ty.length = n1 at *
  generalize p.fu.length = n2 at *
  generalize p.ta.length = n3 at *
  generalize p.st.length = n4 at *
  generalize f.lo.length = l1 at *
  generalize f.ar.length = l3 at *
  rw [ho] at i0 hW1 ⊢
  clear ho
  have z0 : decide (0 ≤ i.a) = false := by simpa using h0
  go_enter Tryd.func79, Tryd.ntmps79
  go_wp2
  go_ret
  exact ⟨rfl, HB.out⟩
set_option maxRecDepth 100000 in
set_option maxHeartbeats 1000000 in
theorem nm_str_a (F : FlAt B w A p f V fi at_ mo) (i : In3) (ho : i.o = 29) (h1 : inB i.a p.st.length = false) : Calls Tryd.prog 79 #[.pointer (some ⟨A, 0, none⟩), .agg #[.int .i64 i.o, .int .i64 i.a, .int .i64 i.b]] w fun e w' => e = .returned (.bool false) ∧ Below w.heap.size w w' := by
  obtain ⟨W1, hW1⟩ : ∃ W1, w.alloc (.cells #[.int .i64 i.o, .int .i64 i.a, .int .i64 i.b] 47) = W1 := ⟨_, rfl⟩
  have b1 : Below w.heap.size w W1 := by rw [← hW1]; exact (Below.refl _ _).alloc (Nat.le_refl _) _
  have F1 := F.below b1
  have HB := hide b1
  have HF1 := hide F1
  have N := F1.nmc i (b := w.heap.size) (by rw [← hW1]; exact heap_new _ _ rfl)
  obtain ⟨⟨a2, d2, c2⟩, ⟨a3, d3, c3⟩, ⟨a4, d4, c4⟩, ⟨a5, d5, c5⟩, ⟨a7, d7, c7⟩, ⟨a9, d9, c9⟩, i0, i1, i2⟩ := N
  have hlA := lt_of_block F.box
  clear b1 F1 F
  generalize p.ty.length = n1 at *
  generalize p.fu.length = n2 at *
  generalize p.ta.length = n3 at *
  generalize p.st.length = n4 at *
  generalize f.lo.length = l1 at *
  generalize f.ar.length = l3 at *
  rw [ho] at i0 hW1 ⊢
  clear ho
  have HW := hide (fun W : World => within_any W i.a n4)
  rw [h1] at HW
  go_enter Tryd.func79, Tryd.ntmps79
  go_wp2_with fail
  go_quiet ((first | (go_at_call 36; exact Calls.quiet_of_same (HW.out _))))
  go_wp2
  go_ret
  exact ⟨rfl, below_drewN HB.out _⟩
set_option maxRecDepth 100000 in
set_option maxHeartbeats 1000000 in
theorem nm_str_b (F : FlAt B w A p f V fi at_ mo) (i : In3) (ho : i.o = 29) (h1 : inB i.a p.st.length = true) (h2 : inB i.b p.ty.length = false) : Calls Tryd.prog 79 #[.pointer (some ⟨A, 0, none⟩), .agg #[.int .i64 i.o, .int .i64 i.a, .int .i64 i.b]] w fun e w' => e = .returned (.bool false) ∧ Below w.heap.size w w' := by
  obtain ⟨W1, hW1⟩ : ∃ W1, w.alloc (.cells #[.int .i64 i.o, .int .i64 i.a, .int .i64 i.b] 47) = W1 := ⟨_, rfl⟩
  have b1 : Below w.heap.size w W1 := by rw [← hW1]; exact (Below.refl _ _).alloc (Nat.le_refl _) _
  have F1 := F.below b1
  have HB := hide b1
  have HF1 := hide F1
  have N := F1.nmc i (b := w.heap.size) (by rw [← hW1]; exact heap_new _ _ rfl)
  obtain ⟨⟨a2, d2, c2⟩, ⟨a3, d3, c3⟩, ⟨a4, d4, c4⟩, ⟨a5, d5, c5⟩, ⟨a7, d7, c7⟩, ⟨a9, d9, c9⟩, i0, i1, i2⟩ := N
  have hlA := lt_of_block F.box
  clear b1 F1 F
  generalize p.ty.length = n1 at *
  generalize p.fu.length = n2 at *
  generalize p.ta.length = n3 at *
  generalize p.st.length = n4 at *
  generalize f.lo.length = l1 at *
  generalize f.ar.length = l3 at *
  rw [ho] at i0 hW1 ⊢
  clear ho
  go_enter Tryd.func79, Tryd.ntmps79
  go_wp2_with fail
  go_quiet ((go_at_call 36; exact Calls.quiet_of_same (within_any _ _ _)))
  go_wp2
  go_ret
  exact ⟨rfl, below_drewN HB.out _⟩
set_option maxRecDepth 100000 in
set_option maxHeartbeats 1000000 in
theorem nm_str_c (F : FlAt B w A p f V fi at_ mo) (i : In3) (ho : i.o = 29) (h1 : inB i.a p.st.length = true) {t : Nat} (hb : i.b = (t : Int)) (ht : t < p.ty.length) : Calls Tryd.prog 79 #[.pointer (some ⟨A, 0, none⟩), .agg #[.int .i64 i.o, .int .i64 i.a, .int .i64 i.b]] w fun e w' => e = .returned (.bool (onlyB p (t : Int) 0)) ∧ Below w.heap.size w w' := by
  obtain ⟨W1, hW1⟩ : ∃ W1, w.alloc (.cells #[.int .i64 i.o, .int .i64 i.a, .int .i64 i.b] 47) = W1 := ⟨_, rfl⟩
  have b1 : Below w.heap.size w W1 := by rw [← hW1]; exact (Below.refl _ _).alloc (Nat.le_refl _) _
  have F1 := F.below b1
  have HB := hide b1
  have HF1 := hide F1
  have N := F1.nmc i (b := w.heap.size) (by rw [← hW1]; exact heap_new _ _ rfl)
  obtain ⟨⟨a2, d2, c2⟩, ⟨a3, d3, c3⟩, ⟨a4, d4, c4⟩, ⟨a5, d5, c5⟩, ⟨a7, d7, c7⟩, ⟨a9, d9, c9⟩, i0, i1, i2⟩ := N
  have hlA := lt_of_block F.box
  clear b1 F1 F
  have hT := hide ht
  generalize p.ty.length = n1 at ht c2
  generalize p.fu.length = n2 at *
  generalize p.ta.length = n3 at *
  generalize p.st.length = n4 at *
  generalize f.lo.length = l1 at *
  generalize f.ar.length = l3 at *
  rw [ho] at i0 hW1 ⊢
  clear ho
  have h2 : inB (t : Int) n1 = true := by simp [inB]; omega
  have HO := hide (fun q : Nat => only_any (HF1.out.below (below_drewN (Below.refl _ _) q)) t 0 hT.out)
  rw [hb] at i2 hW1 ⊢
  clear hb ht
  go_enter Tryd.func79, Tryd.ntmps79
  go_wp2_with fail
  go_quiet ((first | (go_at_call 36; exact Calls.quiet_of_same (within_any _ _ _)) | (go_at_call 87; exact Calls.quiet_of_same (HO.out _))))
  go_wp2
  go_ret
  exact ⟨rfl, below_drewN HB.out _⟩
set_option maxRecDepth 100000 in
set_option maxHeartbeats 1000000 in
theorem nm_rest (F : FlAt B w A p f V fi at_ mo) (i : In3) (ho : i.o ≠ 2 ∧ i.o ≠ 3 ∧ i.o ≠ 4 ∧ i.o ≠ 7 ∧ i.o ≠ 11 ∧ i.o ≠ 12 ∧ i.o ≠ 21 ∧ i.o ≠ 13 ∧ i.o ≠ 16 ∧ i.o ≠ 22 ∧ i.o ≠ 23 ∧ i.o ≠ 29) : Calls Tryd.prog 79 #[.pointer (some ⟨A, 0, none⟩), .agg #[.int .i64 i.o, .int .i64 i.a, .int .i64 i.b]] w fun e w' => e = .returned (.bool true) ∧ Below w.heap.size w w' := by
  obtain ⟨W1, hW1⟩ : ∃ W1, w.alloc (.cells #[.int .i64 i.o, .int .i64 i.a, .int .i64 i.b] 47) = W1 := ⟨_, rfl⟩
  have b1 : Below w.heap.size w W1 := by rw [← hW1]; exact (Below.refl _ _).alloc (Nat.le_refl _) _
  have F1 := F.below b1
  have HB := hide b1
  have HF1 := hide F1
  have N := F1.nmc i (b := w.heap.size) (by rw [← hW1]; exact heap_new _ _ rfl)
  obtain ⟨⟨a2, d2, c2⟩, ⟨a3, d3, c3⟩, ⟨a4, d4, c4⟩, ⟨a5, d5, c5⟩, ⟨a7, d7, c7⟩, ⟨a9, d9, c9⟩, i0, i1, i2⟩ := N
  have hlA := lt_of_block F.box
  clear b1 F1 F
  generalize p.ty.length = n1 at *
  generalize p.fu.length = n2 at *
  generalize p.ta.length = n3 at *
  generalize p.st.length = n4 at *
  generalize f.lo.length = l1 at *
  generalize f.ar.length = l3 at *
  have q2 : (i.o == 2) = false := by simp; omega
  have q3 : (i.o == 3) = false := by simp; omega
  have q4 : (i.o == 4) = false := by simp; omega
  have q7 : (i.o == 7) = false := by simp; omega
  have q11 : (i.o == 11) = false := by simp; omega
  have q12 : (i.o == 12) = false := by simp; omega
  have q21 : (i.o == 21) = false := by simp; omega
  have q13 : (i.o == 13) = false := by simp; omega
  have q16 : (i.o == 16) = false := by simp; omega
  have q22 : (i.o == 22) = false := by simp; omega
  have q23 : (i.o == 23) = false := by simp; omega
  have q29 : (i.o == 29) = false := by simp; omega
  clear ho
  go_enter Tryd.func79, Tryd.ntmps79
  go_wp2
  go_ret
  exact ⟨rfl, HB.out⟩
theorem names_any (F : FlAt B w A p f V fi at_ mo) (i : In3) (hr : -9223372036854775808 ≤ i.a ∧ i.a ≤ 9223372036854775807) : Calls Tryd.prog 79 #[.pointer (some ⟨A, 0, none⟩), .agg #[.int .i64 i.o, .int .i64 i.a, .int .i64 i.b]] w fun e w' => e = .returned (.bool (namesB p f i)) ∧ Below w.heap.size w w' := by
  unfold namesB
  split
  · rename_i h
    by_cases h0 : i.a = 0
    · rw [show (decide (i.a ≠ 0) && isKB p.ty.length i.a) = false by simp [h0]]
      exact nm_nil_a F i h h0
    · rw [show (decide (i.a ≠ 0) && isKB p.ty.length i.a) = isKB p.ty.length i.a by simp [h0]]
      exact nm_nil_b F i h h0 hr
  · split
    · rename_i h
      rcases h with h | h
      · exact nm_lo_3 F i h
      · exact nm_lo_4 F i h
    · split
      · rename_i h
        by_cases h0 : 0 ≤ i.a
        · rw [show decide (0 ≤ i.a ∧ i.a ≤ 9) = decide (i.a ≤ 9) by simp [h0]]
          exact nm_ari_a F i h h0
        · rw [show decide (0 ≤ i.a ∧ i.a ≤ 9) = false by simp [h0]]
          exact nm_ari_b F i h (by omega)
      · split
        · rename_i h
          rcases h with h | h | h
          · exact nm_ty_11 F i h
          · exact nm_ty_12 F i h
          · exact nm_ty_21 F i h
        · split
          · rename_i h
            exact nm_ar_13 F i h
          · split
            · rename_i h
              exact nm_tb_16 F i h
            · split
              · rename_i h
                exact nm_fu_22 F i h
              · split
                · rename_i h
                  exact nm_ta_23 F i h
                · split
                  · rename_i h
                    cases h1 : inB i.a p.st.length with
                    | false => exact nm_str_a F i h h1
                    | true =>
                      cases h2 : inB i.b p.ty.length with
                      | false => exact nm_str_b F i h h1 h2
                      | true =>
                        obtain ⟨t, ht⟩ : ∃ t : Nat, i.b = (t : Int) := ⟨i.b.toNat, by simp only [inB, decide_eq_true_eq] at h2; omega⟩
                        rw [Bool.true_and, Bool.true_and, show onlyB p i.b 0 = onlyB p (t : Int) 0 by rw [ht]]
                        exact nm_str_c F i h h1 ht (by simp only [inB, decide_eq_true_eq] at h2; omega)
                  · exact nm_rest F i (by omega)
end
end Go.Proofs.YtkdojpnihinpbaaDoor
