/- Which types are sound: plain, and the program's soundOwn and sound. -/
import Derived.Test.YtbejkphekfbfnaaGreatTyA
namespace Go.Proofs.YtbejkphekfbfnaaGreat
open Go.RowKit
attribute [local go_sem ↓] Go.wp_at_zero Go.wp_at_succ

def kindP (s : List UInt8) : Int := if s == [105, 110, 116] then 1 else if s == [98, 111, 111, 108] then 2 else if s == [115, 116, 114, 105, 110, 103] then 3 else 4
def freeP (s : List UInt8) : Bool := kindP s == 4 && nameP s
/-- A type's own fields. -/
def ownP (k : Int) (s : List UInt8) (m : Int) (n : Nat) : Bool :=
  if k == 1 || k == 2 || k == 3 || k == 8 then s == [] && (m == 0 && (n : Int) == 0)
  else if k == 4 then freeP s && (m == 0 && (n : Int) == 0)
  else if k == 5 || k == 6 then s == [] && (m == 0 && (n : Int) == 1)
  else if k == 7 then s == [] && (decide (0 ≤ m) && decide (m ≤ n))
  else false
mutual
/-- The program's way through a type: how many nodes may still come then. -/
def spT : Tr → Nat → Nat → Option Nat
  | .mk k s m ks, deep, left => if deep = 0 ∨ left = 0 then none else if ownP k s m ks.length = false then none else spL ks (deep - 1) (left - 1)
def spL : List Tr → Nat → Nat → Option Nat
  | [], _, left => some left
  | t :: ts, deep, left => if t.kind == 8 then none else match spT t deep left with
    | none => none
    | some l => spL ts deep l
end
mutual
/-- Is a type right, whatever its size? -/
def formT : Tr → Bool
  | .mk k s m ks => ownP k s m ks.length && formL ks
def formL : List Tr → Bool
  | [] => true
  | t :: ts => (!(t.kind == 8) && formT t) && formL ts
end
def soundP (t : Tr) : Bool := decide (cntN t ≤ 20000) && decide (depN t ≤ 100) && formT t
mutual
theorem spT_iff : ∀ (t : Tr) (deep left : Nat), (cntN t ≤ left → depN t ≤ deep → formT t = true → spT t deep left = some (left - cntN t)) ∧ (left < cntN t ∨ deep < depN t ∨ formT t = false → spT t deep left = none)
  | .mk k s m ks, deep, left => by
    have h := spL_iff ks (deep - 1) (left - 1)
    simp only [spT, cntN, depN, formT]
    by_cases h0 : deep = 0 ∨ left = 0
    · rw [if_pos h0]
      exact ⟨fun h1 h2 => by omega, fun _ => rfl⟩
    · rw [if_neg h0]
      cases ho : ownP k s m ks.length with
      | false => exact ⟨fun _ _ h3 => by simp at h3, fun _ => by simp⟩
      | true =>
        simp only [Bool.true_and]
        refine ⟨fun h1 h2 h3 => ?_, fun h1 => ?_⟩
        · rw [if_neg (by simp), h.1 (by omega) (by omega) h3]; congr 1; omega
        · rw [if_neg (by simp)]; refine h.2 ?_
          rcases h1 with h1 | h1 | h1
          · exact .inl (by omega)
          · exact .inr (.inl (by omega))
          · exact .inr (.inr h1)
theorem spL_iff : ∀ (ts : List Tr) (deep left : Nat), (cntNL ts ≤ left → depNL ts ≤ deep → formL ts = true → spL ts deep left = some (left - cntNL ts)) ∧ (left < cntNL ts ∨ deep < depNL ts ∨ formL ts = false → spL ts deep left = none)
  | [], deep, left => by
    simp only [spL, cntNL, depNL, formL]
    exact ⟨fun _ _ _ => rfl, fun h => by simp at h⟩
  | t :: ts, deep, left => by
    have ht := spT_iff t deep left
    simp only [spL, cntNL, depNL, formL]
    cases h8 : t.kind == 8 with
    | true => exact ⟨fun _ _ h3 => by simp at h3, fun _ => by simp⟩
    | false =>
      simp only [Bool.not_false, Bool.true_and]
      rw [if_neg (by simp)]
      by_cases h : cntN t ≤ left ∧ depN t ≤ deep ∧ formT t = true
      · rw [ht.1 h.1 h.2.1 h.2.2, h.2.2]
        have hl := spL_iff ts deep (left - cntN t)
        simp only [Bool.true_and]
        refine ⟨fun h1 h2 h3 => ?_, fun h1 => ?_⟩
        · rw [hl.1 (by omega) (by omega) h3]; congr 1; omega
        · refine hl.2 ?_
          rcases h1 with h1 | h1 | h1
          · exact .inl (by omega)
          · exact .inr (.inl (by omega))
          · exact .inr (.inr h1)
      · have hn := ht.2 (by
          by_cases a : cntN t ≤ left
          · by_cases b : depN t ≤ deep
            · refine .inr (.inr ?_)
              cases hf : formT t with
              | false => rfl
              | true => exact absurd ⟨a, b, hf⟩ h
            · exact .inr (.inl (by omega))
          · exact .inl (by omega))
        rw [hn]
        refine ⟨fun h1 h2 h3 => ?_, fun _ => rfl⟩
        rw [Bool.and_eq_true] at h3
        exact absurd ⟨by omega, by omega, h3.1⟩ h
end
theorem spT_sound (t : Tr) : (spT t 100 20000).isSome = soundP t := by
  have h := spT_iff t 100 20000
  unfold soundP
  by_cases h1 : cntN t ≤ 20000
  · by_cases h2 : depN t ≤ 100
    · cases h3 : formT t with
      | true => rw [h.1 h1 h2 h3]; simp [h1, h2]
      | false => rw [h.2 (.inr (.inr h3))]; simp
    · rw [h.2 (.inr (.inl (by omega)))]; simp [h2]
  · rw [h.2 (.inl (by omega))]; simp [h1]
mutual
theorem spT_lt : ∀ (t : Tr) (deep left l : Nat), spT t deep left = some l → l + 1 ≤ left
  | .mk k s m ks, deep, left, l, h => by
    simp only [spT] at h
    split at h
    · cases h
    · split at h
      · cases h
      · have := spL_le ks (deep - 1) (left - 1) l h; omega
theorem spL_le : ∀ (ts : List Tr) (deep left l : Nat), spL ts deep left = some l → l ≤ left
  | [], deep, left, l, h => by simp only [spL] at h; cases h; omega
  | t :: ts, deep, left, l, h => by
    simp only [spL] at h
    split at h
    · cases h
    · split at h
      · cases h
      · rename_i l1 h1
        have := spT_lt t deep left l1 h1
        have := spL_le ts deep l1 l h
        omega
end

theorem kindOf_any (s : List UInt8) (w : World) : Calls Tryz.prog 105 #[.string ⟨s.toArray⟩] w fun e w' => e = .returned (.int .i64 (kindP s)) ∧ w' = w := by
  have HR : Hid (kindP s = if s == [105, 110, 116] then 1 else if s == [98, 111, 111, 108] then 2 else if s == [115, 116, 114, 105, 110, 103] then 3 else 4) := rfl
  by_cases h0 : s = [105, 110, 116]
  · subst h0
    have HP : Hid (kindP _ = 1) := Lib.hid (show kindP [105, 110, 116] = 1 by decide)
    go_enter Tryz.func105, Tryz.ntmps105
    go_wp2
    go_ret
    exact ⟨by simp [HP.out], rfl⟩
  by_cases h1 : s = [98, 111, 111, 108]
  · subst h1
    have HP : Hid (kindP _ = 2) := Lib.hid (show kindP [98, 111, 111, 108] = 2 by decide)
    go_enter Tryz.func105, Tryz.ntmps105
    go_wp2
    go_ret
    exact ⟨by simp [HP.out], rfl⟩
  by_cases h2 : s = [115, 116, 114, 105, 110, 103]
  · subst h2
    have HP : Hid (kindP _ = 3) := Lib.hid (show kindP [115, 116, 114, 105, 110, 103] = 3 by decide)
    go_enter Tryz.func105, Tryz.ntmps105
    go_wp2
    go_ret
    exact ⟨by simp [HP.out], rfl⟩
  have e0 : (s == [105, 110, 116]) = false := by simpa using h0
  have e1 : (s == [98, 111, 111, 108]) = false := by simpa using h1
  have e2 : (s == [115, 116, 114, 105, 110, 103]) = false := by simpa using h2
  have HR2 : Hid (kindP s = 4) := HR.out.trans (by rw [e0, e1, e2]; rfl)
  clear h0 h1 h2
  go_enter Tryz.func105, Tryz.ntmps105
  go_wp2
  go_ret
  exact ⟨by simp [HR2.out], rfl⟩

theorem freeName_any (s : List UInt8) (hs : s.length ≤ maxLen) (w : World) : Calls Tryz.prog 111 #[.string ⟨s.toArray⟩] w fun e w' => e = .returned (.bool (freeP s)) ∧ Below w.heap.size w w' := by
  have HR : Hid (freeP s = (kindP s == 4 && nameP s)) := rfl
  have cK := kindOf_any s w
  have cN := isName_any ⟨s.toArray⟩ (by simpa [ByteArray.size] using hs) w trivial
  cases hk : (kindP s == 4) with
  | false =>
    have HX : Hid (freeP s = false) := HR.out.trans (by rw [hk]; rfl)
    generalize kindP s = kp at *
    go_enter Tryz.func111, Tryz.ntmps111
    go_wp2_with fail
    refine cK.mono ?_
    rintro e w1 ⟨rfl, rfl⟩
    go_wp2
    go_ret
    exact ⟨by simp [HX.out], Below.refl _ _⟩
  | true =>
    have HX : Hid (freeP s = nameP s) := HR.out.trans (by rw [hk]; rfl)
    generalize kindP s = kp at *
    go_enter Tryz.func111, Tryz.ntmps111
    go_wp2_with fail
    refine cK.mono ?_
    rintro e w1 ⟨rfl, hw1⟩
    subst hw1
    clear cK
    go_wp2_with fail
    refine cN.mono ?_
    rintro e w2 ⟨rfl, hb⟩
    clear cN
    go_wp2
    go_ret
    exact ⟨by simp [HX.out], hb⟩
end Go.Proofs.YtbejkphekfbfnaaGreat
