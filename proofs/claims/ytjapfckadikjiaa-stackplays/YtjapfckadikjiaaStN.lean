/- awake, and what a nil stack answers. -/
import Derived.Test.YtjapfckadikjiaaStJ
namespace Go.Proofs.Ytjapfckadikjiaa
open Go.RowKit

theorem cell_of {w : World} {b i : Nat} {c : Array Value} {t : TypeId} {f : Nat × Nat} (h : w.heap[b]? = some (.cells c t f)) : w.cell? ⟨b, i, none⟩ = c[i]? := by simp [World.cell?, h]
def aw1 : Sk := newS 100 10
def aw2 : Sk := pushS aw1 [true]
def aw3 : Sk := setS aw2 0 100
theorem aw_ok : pushOk aw1 [true].length = true := by decide +kernel
theorem aw_set : setP aw2 100 100 = (0, aw3) := by rfl
theorem aw_cnt : cntP aw3 aw3.ws.length = 1 := by decide +kernel
theorem aw_get : getP (moveS aw3 500) 500 = (500, 0) := by decide +kernel
set_option maxHeartbeats 2000000 in
theorem awake_any (w : World) : Calls Try.prog 9 #[] w fun e w' => e = .returned (.bool true) ∧ Below w.heap.size w w' := by
  have n1 := new_any 100 10 w (by decide +kernel) w.heap.size (Nat.le_refl _)
  have i1 : SInv aw1 := new_inv (by decide +kernel)
  have i2 : SInv aw2 := i1.push aw_ok
  have i3 : SInv aw3 := i2.set (by decide)
  have i4 : SInv (moveS aw3 500) := i3.move (by decide) (by decide)
  have I2 := hide i2
  have I3 := hide i3
  have I4 := hide i4
  have I1 := hide i1
  clear i1 i2 i3 i4
  go_enter Try.func9, Try.ntmps9
  go_wp2_with fail
  refine n1.mono ?_
  rintro e w1 ⟨rfl, L1, b1⟩
  clear n1
  have L1a := L1.alloc (.cells #[.bool true] 4)
  have hb : BoolsAt (newX w.heap.size w) (w1.alloc (.cells #[.bool true] 4)) (.slice (some ⟨w1.heap.size, 0, none⟩) 1 1) [true] := by
    refine .inr ⟨w1.heap.size, 0, 1, rfl, by simp, fun h => ?_, fun i q hq => ?_⟩
    · have := (L1.own_lt h).2; omega
    · cases i with
      | zero => simp at hq; subst hq; exact cell_of (heap_new _ _ rfl)
      | succ i => simp at hq
  have p1 := push_ok _ L1a I1.out hb aw_ok
  have P1 := hide p1
  have HL := hide L1
  have HB := hide b1
  clear hb L1a p1 L1 b1
  go_wp2_with fail
  refine P1.out.mono ?_
  rintro e w2 ⟨rfl, X2, L2, S2⟩
  clear P1
  have s1 := set_any 100 100 w2 L2 I2.out (by decide)
  rw [show pushS (newS 100 10) [true] = aw2 from rfl, aw_set, show X2.p = (newX w.heap.size w).p by simp [Sx.p, S2.A]] at s1
  have hA := hide S2.A
  have hB := hide S2.B
  have HB2 := hide (S2.below (HL.out.alloc _) (w0 := w) ((HB.out.mono (Nat.le_refl _)).alloc (by have := HB.out.size; exact this) _))
  have S1 := hide s1
  clear s1 S2 L2 HL HB
  go_wp2_with fail
  refine S1.out.mono ?_
  rintro e w3 ⟨rfl, L3, S3⟩
  clear S1
  have m1 := move_ok w3 L3 I3.out (b := 500) (by decide +kernel)
  rw [aw_cnt, show X2.p = (newX w.heap.size w).p by simp [Sx.p, hA.out]] at m1
  have HB3 := hide (HB2.out.trans (show Below w.heap.size w2 w3 from ⟨S3.os, S3.tape, S3.output, S3.size, fun j hj => S3.block j (Nat.lt_of_lt_of_le hj HB2.out.size) (fun h => by have := (L3.own_lt h).1; rw [hB.out] at this; simp [newX] at this; omega)⟩))
  have M1 := hide m1
  have hL3 := hide L3
  clear m1 S3 L3
  go_wp2_with fail
  refine M1.out.mono ?_
  rintro e w4 ⟨rfl, L4, S4⟩
  clear M1
  have g1 := get_any 500 w4 L4 I4.out (by decide)
  rw [aw_get, show X2.p = (newX w.heap.size w).p by simp [Sx.p, hA.out]] at g1
  have HB4 := hide (HB3.out.trans (show Below w.heap.size w3 w4 from ⟨S4.os, S4.tape, S4.output, S4.size, fun j hj => S4.block j (Nat.lt_of_lt_of_le hj HB3.out.size) (fun h => by have := (hL3.out.own_lt h).1; rw [hB.out] at this; simp [newX] at this; omega)⟩))
  have G1 := hide g1
  clear g1 S4 L4
  go_wp2_with fail
  refine G1.out.mono ?_
  rintro e w5 ⟨rfl, hb5⟩
  go_wp2
  go_ret
  exact ⟨rfl, HB4.out.trans (hb5.mono HB4.out.size)⟩
set_option maxHeartbeats 1000000 in
/-- StackNil. -/
theorem nil_law (x y : Int) (v : Value) (w : World) : Calls Try.prog 5 #[.int .i64 x, .int .i64 y, v] w fun e w' => e = .returned (.bool true) ∧ Below w.heap.size w w' := by
  go_enter Try.func5, Try.ntmps5
  go_wp2_with fail
  refine (addr_nil x y w).mono ?_
  rintro e w1 ⟨rfl, rfl⟩
  go_wp2_with fail
  refine (get_err (.pointer none) x 1 (by decide) w1 _ (word_nil x w1)).mono ?_
  rintro e w2 ⟨rfl, rfl⟩
  go_wp2_with fail
  refine (move_arg (.pointer none) x w2 (.inl rfl)).mono ?_
  rintro e w3 ⟨rfl, b3⟩
  go_wp2_with fail
  refine (awake_any w3).mono ?_
  rintro e w4 ⟨rfl, b4⟩
  have B4 := hide (b3.trans (b4.mono b3.size))
  clear b3 b4
  go_wp2_with fail
  refine (push_nil v w4).mono ?_
  rintro e w5 ⟨rfl, rfl⟩
  go_wp2_with fail
  refine (pop_nil w5).mono ?_
  rintro e w6 ⟨rfl, b6⟩
  have B6 := hide (B4.out.trans (b6.mono B4.out.size))
  clear b6
  go_wp2_with fail
  refine (set_err (.pointer none) x y 1 (by decide) w6 _ (word_nil x w6)).mono ?_
  rintro e w7 ⟨rfl, rfl⟩
  go_wp2_with fail
  refine (frames_nil w7).mono ?_
  rintro e w8 ⟨rfl, rfl⟩
  go_wp2
  go_ret
  exact ⟨rfl, B6.out⟩
end Go.Proofs.Ytjapfckadikjiaa
