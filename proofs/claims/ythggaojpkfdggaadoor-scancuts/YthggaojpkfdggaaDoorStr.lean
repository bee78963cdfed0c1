/- What a string means: the plain mathematics of the reader's text. -/
import Derived.Test.YthggaojpkfdggaaDoorEsc
namespace Go.Proofs.YthggaojpkfdggaaDoor
open Go.RowKit

def shiftS (out : List UInt8) (m : Nat) : Option (List UInt8 × Nat) → Option (List UInt8 × Nat)
  | some (t, n) => some (out ++ t, m + n)
  | none => none

/-- The string behind an opening quote: what it means, and how many bytes it takes, the closing quote too. -/
def strF : Nat → List UInt8 → Option (List UInt8 × Nat)
  | 0, _ => none
  | _ + 1, [] => none
  | f + 1, c :: r => if quoteP c then some ([], 1) else if plainP c then shiftS [c] 1 (strF f r)
    else match escL (c :: r) with
      | some (b, n) => shiftS [b] n (strF f ((c :: r).drop n))
      | none => none
def strL (l : List UInt8) : Option (List UInt8 × Nat) := strF l.length l

theorem escL_len (l : List UInt8) (b : UInt8) (n : Nat) (h : escL l = some (b, n)) : 2 ≤ n ∧ n ≤ l.length := by
  unfold escL at h
  split at h
  · rename_i c d r
    split at h
    · split at h
      · cases h; simp
      · split at h
        · cases h; simp
        · split at h
          · cases h; simp
          · split at h
            · split at h
              · split at h
                · cases h; simp
                · cases h
              · cases h
            · cases h
    · cases h
  · cases h

theorem strF_fuel : ∀ (f : Nat) (l : List UInt8), l.length ≤ f → ∀ g, l.length ≤ g → strF f l = strF g l := by
  intro f
  induction f with
  | zero =>
    intro l hl g _
    match l, hl with
    | [], _ => cases g <;> rfl
  | succ f ih =>
    intro l hl g hg
    match l, hl, hg with
    | [], _, _ => cases g <;> rfl
    | c :: r, hl, hg =>
      match g, hg with
      | g + 1, hg =>
        have hl' : r.length ≤ f := by simpa using hl
        have hg' : r.length ≤ g := by simpa using hg
        simp only [strF]
        rw [ih r hl' g hg']
        cases he : escL (c :: r) with
        | none => rfl
        | some x =>
          obtain ⟨b, n⟩ := x
          have hn := escL_len _ b n he
          have h1 : ((c :: r).drop n).length ≤ f := by simp at hn ⊢; omega
          have h2 : ((c :: r).drop n).length ≤ g := by simp at hn ⊢; omega
          simp only [ih _ h1 g h2]

theorem strL_cons (c : UInt8) (r : List UInt8) : strL (c :: r) = if quoteP c then some ([], 1) else if plainP c then shiftS [c] 1 (strL r)
    else match escL (c :: r) with
      | some (b, n) => shiftS [b] n (strL ((c :: r).drop n))
      | none => none := by
  show strF (r.length + 1) (c :: r) = _
  simp only [strF]
  cases he : escL (c :: r) with
  | none => rfl
  | some x =>
    obtain ⟨b, n⟩ := x
    have hn := escL_len _ b n he
    have h1 : ((c :: r).drop n).length ≤ r.length := by simp at hn ⊢; omega
    simp only [strL]
    rw [strF_fuel r.length ((c :: r).drop n) h1 _ (Nat.le_refl _)]

theorem shiftS_shiftS (a b : List UInt8) (m n : Nat) (o : Option (List UInt8 × Nat)) : shiftS a m (shiftS b n o) = shiftS (a ++ b) (m + n) o := by
  cases o with
  | none => rfl
  | some x => simp [shiftS, Nat.add_assoc]
theorem shiftS_nil (o : Option (List UInt8 × Nat)) : shiftS [] 0 o = o := by
  cases o with
  | none => rfl
  | some x => simp [shiftS]

theorem plain_not_quote : ∀ c : UInt8, plainP c = true → quoteP c = false := byte_all (by decide +kernel)
theorem quote34 : ∀ c : UInt8, quoteP c = true → c = 34 := byte_all (by decide +kernel)
theorem not_plain : ∀ c : UInt8, plainP c = false → quoteP c = false → ¬ c = 92 → c = 10 := byte_all (by decide +kernel)

theorem strL_plain (l : List UInt8) : strL l = shiftS (l.takeWhile plainP) (l.takeWhile plainP).length (strL (l.dropWhile plainP)) := by
  induction l with
  | nil => rfl
  | cons c r ih =>
    by_cases h : plainP c
    · have hq := plain_not_quote c h
      rw [List.takeWhile_cons_of_pos h, List.dropWhile_cons_of_pos h]
      rw [show strL (c :: r) = shiftS [c] 1 (strL r) by rw [strL_cons]; simp [hq, h]]
      rw [ih, shiftS_shiftS]
      simp [Nat.add_comm]
    · rw [List.takeWhile_cons_of_neg h, List.dropWhile_cons_of_neg h]
      exact (shiftS_nil _).symm

theorem strL_quote (c : UInt8) (r : List UInt8) (h : quoteP c = true) : strL (c :: r) = some ([], 1) := by
  rw [strL_cons]; simp [h]

theorem strL_esc (l : List UInt8) (hp : atP plainP l 0 = false) (hq : atP quoteP l 0 = false) :
    (escL l = none → strL l = none) ∧ (∀ b n, escL l = some (b, n) → strL l = shiftS [b] n (strL (l.drop n)) ∧ n ≤ l.length ∧ 2 ≤ n) := by
  match l with
  | [] => exact ⟨fun _ => rfl, fun b n h => by cases h⟩
  | c :: r =>
    have hp' : plainP c = false := hp
    have hq' : quoteP c = false := hq
    refine ⟨fun h => ?_, fun b n h => ⟨?_, (escL_len _ b n h).2, (escL_len _ b n h).1⟩⟩
    · rw [strL_cons]; simp [hp', hq', h]
    · rw [strL_cons]; simp [hp', hq', h]

end Go.Proofs.YthggaojpkfdggaaDoor
