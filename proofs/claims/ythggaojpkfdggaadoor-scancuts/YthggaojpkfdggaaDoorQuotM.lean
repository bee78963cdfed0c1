/- A quoted text scans as one string: the plain mathematics. -/
import Derived.Test.YthggaojpkfdggaaDoorAwake
namespace Go.Proofs.YthggaojpkfdggaaDoor
open Go.RowKit

theorem hex_back : ∀ b : UInt8, hexFrom 0 [hexC (b.toNat / 16), hexC (b.toNat % 16)] = some b.toNat := byte_all (by decide +kernel)
theorem plain_shown : ∀ b : UInt8, ¬ b = 34 → ¬ b = 92 → (32 ≤ b.toNat ∧ b.toNat ≤ 126) → plainP b = true := byte_all (by decide +kernel)
theorem bs_quote : quoteP 92 = false := by decide +kernel
theorem bs_plain : plainP 92 = false := by decide +kernel
theorem q34 : quoteP 34 = true := by decide +kernel

theorem strL_bs (d : UInt8) (r : List UInt8) (b : UInt8) (n : Nat) (h : escL (92 :: d :: r) = some (b, n)) : strL (92 :: d :: r) = shiftS [b] n (strL ((92 :: d :: r).drop n)) := by
  rw [strL_cons]; simp [bs_quote, bs_plain, h]

theorem strL_quoteB (b : UInt8) (r : List UInt8) : strL (quoteB b ++ r) = shiftS [b] (quoteB b).length (strL r) := by
  unfold quoteB
  by_cases h10 : b = 10
  · subst h10; rw [if_pos rfl]; exact strL_bs 110 r 10 2 rfl
  rw [if_neg h10]
  by_cases h9 : b = 9
  · subst h9; rw [if_pos rfl]; exact strL_bs 116 r 9 2 rfl
  rw [if_neg h9]
  by_cases h3 : b = 34 ∨ b = 92
  · rw [if_pos h3]
    rcases h3 with rfl | rfl
    · exact strL_bs 34 r 34 2 rfl
    · exact strL_bs 92 r 92 2 rfl
  rw [if_neg h3]
  by_cases hs : 32 ≤ b.toNat ∧ b.toNat ≤ 126
  · rw [if_pos hs]
    have hp := plain_shown b (fun h => h3 (Or.inl h)) (fun h => h3 (Or.inr h)) hs
    show strL (b :: r) = _
    rw [strL_cons, plain_not_quote b hp]
    simp [hp]
  · rw [if_neg hs]
    have he : escL (92 :: 120 :: hexC (b.toNat / 16) :: hexC (b.toNat % 16) :: r) = some (b, 4) := by
      simp only [escL]
      rw [hex_back]
      simp
    have := strL_bs 120 (hexC (b.toNat / 16) :: hexC (b.toNat % 16) :: r) b 4 he
    exact this

theorem strL_quoted (l : List UInt8) : strL (l.flatMap quoteB ++ [34]) = some (l, (l.flatMap quoteB).length + 1) := by
  induction l with
  | nil => rfl
  | cons b r ih =>
    rw [List.flatMap_cons, List.append_assoc, strL_quoteB, ih]
    simp [shiftS]
    omega

theorem quoteL_len (l : List UInt8) : (quoteL l).length = (l.flatMap quoteB).length + 2 := by simp [quoteL]
theorem quoteL_le (l : List UInt8) : (quoteL l).length ≤ 4 * l.length + 2 := by
  rw [quoteL_len]
  have h : ∀ m : List UInt8, (m.flatMap quoteB).length ≤ 4 * m.length := by
    intro m
    induction m with
    | nil => simp
    | cons c r ih => have := (quoteB_le c).1; simp at ih ⊢; omega
  have := h l
  omega

theorem textRes_quoted (l : List UInt8) : textRes (quoteL l) 0 = if l.length ≤ 1024 then some (l, (quoteL l).length) else none := by
  unfold textRes
  rw [show (quoteL l).drop (0 + 1) = l.flatMap quoteB ++ [34] from rfl, strL_quoted]
  show (if l.length ≤ 1024 then some (l, 0 + 1 + ((l.flatMap quoteB).length + 1)) else none) = _
  rw [quoteL_len]
  by_cases h : l.length ≤ 1024
  · rw [if_pos h, if_pos h]; congr 2; omega
  · rw [if_neg h, if_neg h]

theorem tokL_quoted (l : List UInt8) : tokL (quoteL l) 0 = if l.length ≤ 1024 then some (3, l, 0, (quoteL l).length) else none := by
  unfold tokL
  have h1 : atP firstP (quoteL l) 0 = false := by show firstP 34 = false; decide +kernel
  have h2 : atP digitP (quoteL l) 0 = false := by show digitP 34 = false; decide +kernel
  have h3 : atP quoteP (quoteL l) 0 = true := q34
  rw [h1, h2, h3]
  simp only [if_true, Bool.false_eq_true, if_false]
  unfold textL
  rw [textRes_quoted]
  by_cases h : l.length ≤ 1024
  · rw [if_pos h, if_pos h]
  · rw [if_neg h, if_neg h]

theorem skip_quoted (l : List UInt8) : skipTo (quoteL l) 0 = 0 := by
  unfold skipTo
  have hb : blankP 34 = false := by decide +kernel
  show 0 + skipN false (34 :: _) = 0
  simp [skipN, hb]

theorem skip_all (l : List UInt8) : skipTo l l.length = l.length := by
  unfold skipTo
  rw [List.drop_length]
  rfl

theorem scan_quoted (l : List UInt8) : scanRes (quoteL l) = if 65536 < (quoteL l).length then ([], 0, 13) else if l.length ≤ 1024 then ([(3, l, 0, 0)], 0, 0) else ([], 0, 3) := by
  unfold scanRes
  by_cases hL : 65536 < (quoteL l).length
  · rw [if_pos hL, if_pos hL]
  rw [if_neg hL, if_neg hL, skip_quoted]
  have hpos : 0 < (quoteL l).length := by rw [quoteL_len]; omega
  by_cases h : l.length ≤ 1024
  · rw [if_pos h, scanF_step hpos (by simp) (by rw [tokL_quoted, if_pos h]), skip_all, scanF_end (by omega) (by omega)]
    rfl
  · rw [if_neg h, scanF_fault (by omega) hpos (by simp) (by rw [tokL_quoted, if_neg h])]

end Go.Proofs.YthggaojpkfdggaaDoor
