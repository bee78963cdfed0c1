/- awake, and what a nil arena answers. -/
import Derived.Test.YteeadmkljcjjkaaArJ
namespace Go.Proofs.Yteeadmkljcjjkaa
open Go.RowKit Go.Maps

theorem cls5 : clsN 5 = 6 := by decide +kernel
def aw1 : As := markS (pushS (newS 20) 6) 1 5
theorem aw_alloc : allocS (newS 20) 5 = some (1, aw1) := by
  unfold allocS
  rw [cls5]
  rfl
theorem aw_ps : aw1.ps = [⟨1, 6, 5⟩] := by kernel_rfl
theorem aw_hold : hold aw1.ps 5 = some 0 := by rw [aw_ps]; kernel_rfl
set_option maxHeartbeats 1000000 in
theorem awake_any (w : World) : Calls Try.prog 9 #[] w fun e w' => e = .returned (.bool true) ∧ Below w.heap.size w w' := by
  have n1 := new_any 20 w (by decide) w.heap.size (Nat.le_refl _)
  have i0 : Inv (newS 20) := inv_new (by decide)
  have i1 := (alloc_given i0 (n := 5) (by decide) (by decide) aw_alloc).inv
  go_enter Try.func9, Try.ntmps9
  go_wp2_with fail
  refine n1.mono ?_
  rintro e w1 ⟨rfl, L1, b1⟩
  clear n1
  have a1 := alloc_any L1 i0 5 (by decide)
  go_wp2_with fail
  refine a1.mono ?_
  rintro e w2 ⟨X2, S2, h⟩
  clear a1
  obtain ⟨rfl, L2⟩ : e = two (1, 0) ∧ Lies X2 w2 aw1 1 := by
    rcases h with ⟨h, _⟩ | ⟨_, h, _⟩ | ⟨x, s', _, h, he, hl⟩
    · rw [show (5 : Int).toNat = 5 from rfl, cls5] at h; cases h
    · rw [show (5 : Int).toNat = 5 from rfl, aw_alloc] at h; cases h
    · rw [show (5 : Int).toNat = 5 from rfl, aw_alloc] at h; cases h; exact ⟨he, hl⟩
  clear h
  have b2 := S2.below L1 b1
  have s1 := set_any 5 7 w2 L2 i1 (by decide)
  unfold setP at s1
  rw [aw_hold] at s1
  rw [show X2.p = (newX w.heap.size w).p by simp [Wh.p, S2.A]] at s1
  have HX := hide S2.A
  have HXB := hide S2.B
  clear S2 L1
  go_wp2_with fail
  refine s1.mono ?_
  rintro e w3 ⟨rfl, L3, S3⟩
  clear s1
  have c1 := class_any 5 w3
  rw [show (5 : Int).toNat = 5 from rfl, cls5] at c1
  go_wp2_with fail
  refine c1.mono ?_
  rintro e w4 ⟨rfl, rfl⟩
  clear c1
  have l1 := live_any L3 (i1.set _ _)
  rw [show (setS aw1 (Int.toNat 5) 7).ps = aw1.ps from rfl, show liveL aw1.ps = [1] by rw [aw_ps]; rfl, show X2.p = (newX w.heap.size w).p by simp [Wh.p, HX.out]] at l1
  have b3 := S3.below L2 (by rw [HXB.out]; exact b2)
  go_wp2_with fail
  refine l1.mono ?_
  rintro e w5 ⟨v, rfl, hv, b4⟩
  obtain ⟨g, cap, rfl, _⟩ := hv.form (by decide)
  go_wp2
  go_ret
  rw [HXB.out] at b3
  exact ⟨rfl, b3.trans (b4.mono b3.size)⟩
set_option maxHeartbeats 1000000 in
/-- ArenaNil. -/
theorem nil_law (n v : Int) (w : World) : Calls Try.prog 6 #[.int .i64 n, .int .i64 v] w fun e w' => e = .returned (.bool true) ∧ Below w.heap.size w w' := by
  go_enter Try.func6, Try.ntmps6
  go_wp2_with fail
  refine (alloc_arg (.pointer none) n w ⟨⟨_, rfl⟩, .inl rfl⟩).mono ?_
  rintro e w1 ⟨rfl, rfl⟩
  go_wp2_with fail
  refine (size_err (.pointer none) n 1 (by decide) w1 _ (begin_nil n w1)).mono ?_
  rintro e w2 ⟨rfl, rfl⟩
  go_wp2_with fail
  refine (find_err (.pointer none) n 1 (by decide) w2 _ (holder_nil n w2)).mono ?_
  rintro e w3 ⟨rfl, rfl⟩
  go_wp2_with fail
  refine (get_err (.pointer none) n 1 (by decide) w3 _ (holder_nil n w3)).mono ?_
  rintro e w4 ⟨rfl, rfl⟩
  go_wp2_with fail
  refine (awake_any w4).mono ?_
  rintro e w5 ⟨rfl, hb⟩
  go_wp2_with fail
  refine (free_err (.pointer none) n 1 (by decide) w5 _ (begin_nil n w5)).mono ?_
  rintro e w6 ⟨rfl, rfl⟩
  go_wp2_with fail
  refine (set_err (.pointer none) n v 1 (by decide) w6 _ (holder_nil n w6)).mono ?_
  rintro e w7 ⟨rfl, rfl⟩
  go_wp2_with fail
  refine (live_nil w7).mono ?_
  rintro e w8 ⟨rfl, rfl⟩
  go_wp2
  go_ret
  exact ⟨rfl, hb⟩
end Go.Proofs.Yteeadmkljcjjkaa
