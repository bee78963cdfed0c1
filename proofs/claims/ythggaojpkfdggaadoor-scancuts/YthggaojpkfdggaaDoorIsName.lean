/- Name. -/
import Derived.Test.YthggaojpkfdggaaDoorScan
namespace Go.Proofs.YthggaojpkfdggaaDoor
open Go.RowKit

def nameP (l : List UInt8) : Bool :=
  if l.length = 0 ∨ 64 < l.length then false else match tokL l 0 with
    | some (kd, _, _, e) => e == l.length && kd == 1
    | none => false

set_option maxHeartbeats 2000000 in
theorem isName_any (s : ByteArray) (_hs : s.size ≤ maxLen) (w : World) (hG : Gl w) : Calls Tryd.prog 15 #[.string s] w fun e w' => e = .returned (.bool (nameP s.data.toList)) ∧ Below w.heap.size w w' := by
  have hll : s.data.toList.length = s.size := by simp
  unfold maxLen at _hs
  by_cases h0 : s.size = 0
  · have HP : Hid (nameP s.data.toList = false) := by unfold nameP; rw [hll]; exact if_pos (Or.inl h0)
    have hemp : s.toList.isEmpty = true := by rw [Lib.toList_data, List.isEmpty_iff_length_eq_zero, hll]; exact h0
    clear hll h0
    go_enter Tryd.func15, Tryd.ntmps15
    go_wp2
    go_ret
    exact ⟨by rw [HP.out]; rfl, Below.refl _ _⟩
  have hemp : s.toList.isEmpty = false := by
    cases hh : s.toList.isEmpty
    · rfl
    · rw [Lib.toList_data, List.isEmpty_iff_length_eq_zero, hll] at hh; exact absurd hh h0
  by_cases h64 : 64 < s.size
  · have HP : Hid (nameP s.data.toList = false) := by unfold nameP; rw [hll]; exact if_pos (Or.inr h64)
    clear hll h0
    go_enter Tryd.func15, Tryd.ntmps15
    go_wp2
    go_ret
    exact ⟨by rw [HP.out]; rfl, Below.refl _ _⟩
  have hP : nameP s.data.toList = match tokL s.data.toList 0 with
      | some (kd, _, _, e) => e == s.size && kd == 1
      | none => false := by unfold nameP; rw [hll]; exact if_neg (by omega)
  have hlt : 0 < s.size := by omega
  have hle : s.size ≤ 65536 := by omega
  have h64' : decide (64 < (s.size : Int)) = false := by simp; omega
  cases ht : tokL s.data.toList 0 with
  | none =>
    rw [ht] at hP
    have HP := Lib.hid hP
    have cT : ∀ a W, Alpha a w.heap.size W → Gl W → Calls Tryd.prog 19 #[a.rd s, .int .i64 0] W fun e w' => e = .returned noTok ∧ Below W.heap.size W w' := fun a W hA hG => by
      have := token_all a w.heap.size W hA hG s hle 0 hlt
      rw [ht] at this
      exact this
    clear hP ht hll h0 h64
    have HT := Lib.hid cT
    clear cT
    go_enter Tryd.func15, Tryd.ntmps15
    go_wp2_with fail
    refine (newReader_any _ _).mono ?_
    rintro e w1 ⟨a, rfl, hA, b1⟩
    go_wp2_with fail
    refine (HT.out a w1 hA (hG.later b1)).mono ?_
    rintro e w2 ⟨rfl, b2⟩
    go_wp2
    go_ret
    exact ⟨by rw [HP.out]; rfl, (b1.trans (b2.mono b1.size)).alloc (by have := b1.size; have := b2.size; omega) _⟩
  | some x =>
    obtain ⟨kd, tx, nu, en⟩ := x
    rw [ht] at hP
    have hP' : nameP s.data.toList = (en == s.size && kd == 1) := hP
    have HP := Lib.hid hP'
    have cT : ∀ a W, Alpha a w.heap.size W → Gl W → Calls Tryd.prog 19 #[a.rd s, .int .i64 0] W fun e w' => e = .returned (.tuple #[tokV kd ⟨tx.toArray⟩ nu 0, .int .i64 en, .bool true]) ∧ Below W.heap.size W w' := fun a W hA hG => by
      have := token_all a w.heap.size W hA hG s hle 0 hlt
      rw [ht] at this
      exact this
    clear hP hP' ht hll h0 h64
    have HT := Lib.hid cT
    clear cT
    by_cases he : en = s.size
    · have he' : ((en : Int) == (s.size : Int)) = true := by rw [he]; simp
      have HE : Hid ((en == s.size) = true) := by show (en == s.size) = true; rw [he]; simp
      clear he
      by_cases hk : kd = 1
      · have hk' : (kd == 1) = true := by rw [hk]; rfl
        have HK := Lib.hid hk'
        clear hk
        go_enter Tryd.func15, Tryd.ntmps15
        go_wp2_with fail
        refine (newReader_any _ _).mono ?_
        rintro e w1 ⟨a, rfl, hA, b1⟩
        go_wp2_with fail
        refine (HT.out a w1 hA (hG.later b1)).mono ?_
        rintro e w2 ⟨rfl, b2⟩
        go_wp2
        go_ret
        exact ⟨by rw [HP.out, HE.out, HK.out]; rfl, (b1.trans (b2.mono b1.size)).alloc (by have := b1.size; have := b2.size; omega) _⟩
      · have hk' : (kd == 1) = false := by simpa using hk
        have HK := Lib.hid hk'
        clear hk
        go_enter Tryd.func15, Tryd.ntmps15
        go_wp2_with fail
        refine (newReader_any _ _).mono ?_
        rintro e w1 ⟨a, rfl, hA, b1⟩
        go_wp2_with fail
        refine (HT.out a w1 hA (hG.later b1)).mono ?_
        rintro e w2 ⟨rfl, b2⟩
        go_wp2
        go_ret
        exact ⟨by rw [HP.out, HE.out, HK.out]; rfl, (b1.trans (b2.mono b1.size)).alloc (by have := b1.size; have := b2.size; omega) _⟩
    · have he' : ((en : Int) == (s.size : Int)) = false := by rw [beq_eq_false_iff_ne]; omega
      have HE : Hid ((en == s.size) = false) := by show (en == s.size) = false; simpa using he
      clear he
      go_enter Tryd.func15, Tryd.ntmps15
      go_wp2_with fail
      refine (newReader_any _ _).mono ?_
      rintro e w1 ⟨a, rfl, hA, b1⟩
      go_wp2_with fail
      refine (HT.out a w1 hA (hG.later b1)).mono ?_
      rintro e w2 ⟨rfl, b2⟩
      go_wp2
      go_ret
      exact ⟨by rw [HP.out, HE.out]; rfl, (b1.trans (b2.mono b1.size)).alloc (by have := b1.size; have := b2.size; omega) _⟩

end Go.Proofs.YthggaojpkfdggaaDoor
