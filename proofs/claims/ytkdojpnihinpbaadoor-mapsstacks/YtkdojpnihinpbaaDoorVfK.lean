/- Kinds: within, bare, isKind, typeOf, fits. -/
import Derived.Test.YtkdojpnihinpbaaDoorVfM
namespace Go.Proofs.YtkdojpnihinpbaaDoor
open Go.RowKit
set_option maxRecDepth 100000 in
theorem bits_loc : ∀ a : Fin 2050, (bits .andNot .i64 (a.val : Int) 1048576 = (a.val : Int) ∧ bits .and .i64 (a.val : Int) 1048576 = 0) ∧ bits .andNot .i64 ((a.val : Int) + 1048576) 1048576 = (a.val : Int) ∧ bits .and .i64 ((a.val : Int) + 1048576) 1048576 = 1048576 := by decide +kernel
theorem kind_in {n : Nat} {k : Int} (hn : n ≤ 1024) (h : isKB n k = true) : (0 ≤ k ∧ k < 2050) ∨ (1048576 ≤ k ∧ k < 1048576 + 2050) := by
  unfold isKB at h
  have h1 := of_decide_eq_true h
  unfold bareK at h1
  by_cases hk : 1048576 ≤ k
  · rw [if_pos hk] at h1; omega
  · rw [if_neg hk] at h1; omega
theorem bits_bare {n : Nat} {k : Int} (hn : n ≤ 1024) (h : isKB n k = true) : bits .andNot .i64 k 1048576 = bareK k ∧ bits .and .i64 k 1048576 = locK k := by
  rcases kind_in hn h with ⟨h1, h2⟩ | ⟨h1, h2⟩
  · obtain ⟨m, rfl⟩ : ∃ m : Nat, k = m := ⟨k.toNat, by omega⟩
    have := (bits_loc ⟨m, by omega⟩).1
    unfold bareK locK
    rw [if_neg (by omega), if_neg (by omega)]
    exact this
  · obtain ⟨m, hm⟩ : ∃ m : Nat, k = (m : Int) + 1048576 := ⟨(k - 1048576).toNat, by omega⟩
    have := (bits_loc ⟨m, by omega⟩).2
    unfold bareK locK
    rw [if_pos (by omega), if_pos (by omega), hm]
    exact ⟨this.1.trans (by simp), this.2⟩
theorem bareK_in {n : Nat} {k : Int} (hn : n ≤ 1024) (h : isKB n k = true) : 0 ≤ bareK k ∧ bareK k < 2050 := by
  rcases kind_in hn h with ⟨h1, h2⟩ | ⟨h1, h2⟩ <;> unfold bareK <;> split <;> omega
section
variable (w : World)
theorem within_any (x : Int) (m : Nat) : Calls Tryd.prog 36 #[.int .i64 x, .int .i64 m] w fun e w' => e = .returned (.bool (inB x m)) ∧ w' = w := by
  have HB := hide (show inB x m = decide (0 ≤ x ∧ x < (m : Int)) from rfl)
  by_cases h0 : 0 ≤ x
  · have d0 : decide (0 ≤ x) = true := by simpa using h0
    have HE := hide (show inB x m = decide (x < (m : Int)) by rw [HB.out]; simp [h0])
    go_enter Tryd.func36, Tryd.ntmps36
    go_wp2
    go_ret
    exact ⟨by rw [HE.out]; rfl, rfl⟩
  · have d0 : decide (0 ≤ x) = false := by simpa using h0
    have HE := hide (show inB x m = false by rw [HB.out]; simp [h0])
    go_enter Tryd.func36, Tryd.ntmps36
    go_wp2
    go_ret
    exact ⟨by rw [HE.out]; rfl, rfl⟩
theorem bare_any {n : Nat} {k : Int} (hn : n ≤ 1024) (h : isKB n k = true) : Calls Tryd.prog 103 #[.int .i64 k] w fun e w' => e = .returned (.int .i64 (bareK k)) ∧ w' = w := by
  have HB := hide (bits_bare hn h).1
  clear h
  go_enter Tryd.func103, Tryd.ntmps103
  go_wp2
  go_ret
  exact ⟨congrArg (fun x => Ending.returned (Value.int .i64 x)) HB.out, rfl⟩
theorem fits_any {n : Nat} {k o : Int} (hn : n ≤ 1024) (h : isKB n o = true) : Calls Tryd.prog 99 #[.int .i64 k, .int .i64 o] w fun e w' => e = .returned (.bool (fitB k o)) ∧ w' = w := by
  have HB := hide (bare_any w hn h)
  have HF := hide (show fitB k o = decide (k = o ∨ k = bareK o) from rfl)
  clear h
  by_cases hk : k = o
  · have d1 : (k == o) = true := by simpa using hk
    have HE := hide (show fitB k o = true by rw [HF.out]; simp [hk])
    clear hk
    go_enter Tryd.func99, Tryd.ntmps99
    go_wp2
    go_ret
    exact ⟨by rw [HE.out]; rfl, rfl⟩
  · have d1 : (k == o) = false := by simpa using hk
    have HE := hide (show fitB k o = (k == bareK o) by rw [HF.out]; simp [hk]; rfl)
    go_enter Tryd.func99, Tryd.ntmps99
    go_wp2_with fail
    refine HB.out.mono ?_
    rintro e w' ⟨rfl, rfl⟩
    generalize bareK o = q at *
    go_wp2
    go_ret
    exact ⟨by rw [HE.out]; rfl, rfl⟩
theorem typeOf_any {n : Nat} {k : Int} (hn : n ≤ 1024) (h : isKB n k = true) (h2 : 2 ≤ bareK k) : Calls Tryd.prog 105 #[.int .i64 k] w fun e w' => e = .returned (.int .i64 ((bareK k - 2) / 2)) ∧ w' = w := by
  have HB := hide (bare_any w hn h)
  have hr := (bareK_in hn h).2
  clear h
  generalize bareK k = q at *
  have hq : (2 : Int) ≤ q := h2
  go_enter Tryd.func105, Tryd.ntmps105
  go_wp2_with fail
  refine HB.out.mono ?_
  rintro e w' ⟨rfl, rfl⟩
  go_wp2
  go_ret
  exact ⟨rfl, rfl⟩
theorem isKB_big {m : Nat} {x y : Int} (hx : ¬ x = 0 ∧ ¬ x = 1) (hy : bareK x = y) : isKB m x = (decide (2 ≤ y) && inB ((y - 2) / 2) m) := by
  unfold isKB inB
  rw [hy, Bool.eq_iff_iff]
  simp only [decide_eq_true_eq, Bool.and_eq_true]
  omega
theorem isKind_any (x : Int) (m : Nat) (hx : -9223372036854775808 ≤ x ∧ x ≤ 9223372036854775807) : Calls Tryd.prog 84 #[.int .i64 x, .int .i64 m] w fun e w' => e = .returned (.bool (isKB m x)) ∧ w' = w := by
  by_cases h0 : x = 0
  · subst h0
    have HE := hide (show isKB m 0 = true by simp [isKB])
    go_enter Tryd.func84, Tryd.ntmps84
    go_wp2
    go_ret
    exact ⟨by rw [HE.out]; rfl, rfl⟩
  · by_cases h1 : x = 1
    · subst h1
      have HE := hide (show isKB m 1 = true by simp [isKB])
      go_enter Tryd.func84, Tryd.ntmps84
      go_wp2
      go_ret
      exact ⟨by rw [HE.out]; rfl, rfl⟩
    · have q0 : (x == 0) = false := by simpa using h0
      have q1 : (x == 1) = false := by simpa using h1
      by_cases hl : 1048576 ≤ x
      · have dl : decide (1048576 ≤ x) = true := by simpa using hl
        have HK := hide (isKB_big (m := m) ⟨h0, h1⟩ (show bareK x = x - 1048576 by unfold bareK; rw [if_pos hl]))
        by_cases h2 : 2 ≤ x - 1048576
        · have d2 : decide (2 ≤ x - 1048576) = true := by simpa using h2
          have HC := hide (within_any w ((x - 1048576 - 2) / 2) m)
          have HE := hide (show isKB m x = inB ((x - 1048576 - 2) / 2) m by rw [HK.out, d2]; rfl)
          go_enter Tryd.func84, Tryd.ntmps84
          go_wp2_with fail
          refine HC.out.mono ?_
          rintro e w' ⟨rfl, rfl⟩
          go_wp2
          go_ret
          exact ⟨by rw [HE.out]; rfl, rfl⟩
        · have d2 : decide (2 ≤ x - 1048576) = false := by simpa using h2
          have HE := hide (show isKB m x = false by rw [HK.out, d2]; rfl)
          go_enter Tryd.func84, Tryd.ntmps84
          go_wp2
          go_ret
          exact ⟨by rw [HE.out]; rfl, rfl⟩
      · have dl : decide (1048576 ≤ x) = false := by simpa using hl
        have HK := hide (isKB_big (m := m) ⟨h0, h1⟩ (show bareK x = x by unfold bareK; rw [if_neg hl]))
        by_cases h2 : 2 ≤ x
        · have d2 : decide (2 ≤ x) = true := by simpa using h2
          have HC := hide (within_any w ((x - 2) / 2) m)
          have HE := hide (show isKB m x = inB ((x - 2) / 2) m by rw [HK.out, d2]; rfl)
          go_enter Tryd.func84, Tryd.ntmps84
          go_wp2_with fail
          refine HC.out.mono ?_
          rintro e w' ⟨rfl, rfl⟩
          go_wp2
          go_ret
          exact ⟨by rw [HE.out]; rfl, rfl⟩
        · have d2 : decide (2 ≤ x) = false := by simpa using h2
          have HE := hide (show isKB m x = false by rw [HK.out, d2]; rfl)
          go_enter Tryd.func84, Tryd.ntmps84
          go_wp2
          go_ret
          exact ⟨by rw [HE.out]; rfl, rfl⟩
end
end Go.Proofs.YtkdojpnihinpbaaDoor
