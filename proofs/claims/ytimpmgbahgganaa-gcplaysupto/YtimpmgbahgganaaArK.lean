/- Classes, reckoned. -/
import Derived.Lib.BitFns
namespace Go.Proofs.Ytimpmgbahgganaa

/-- The words of the class that n words need; 0: none. -/
def clsN (n : Nat) : Nat :=
  if n < 1 ∨ 65536 < n then 0 else if 4096 < n then (n + 1023) / 1024 * 1024
  else if n ≤ 2 ^ Lib.bitLen (n - 1) / 4 * 3 then 2 ^ Lib.bitLen (n - 1) / 4 * 3 else 2 ^ Lib.bitLen (n - 1)
/-- The document's way to it: k, then k and its half. -/
def rcl : Nat → Nat → Nat → Nat
  | 0, _, _ => 0
  | f + 1, k, n => if n ≤ k then k else if 1 < k ∧ n ≤ k / 2 * 3 then k / 2 * 3 else rcl f (k * 2) n
def okC (n : Nat) : Bool := n == 0 || (decide (n ≤ clsN n) && decide (clsN n ≤ 4096) && clsN (clsN n) == clsN n && (clsN n == n || clsN (clsN n - 1) == clsN n) && rcl 13 1 n == clsN n && decide (Lib.bitLen (n - 1) ≤ 12))
set_option maxRecDepth 100000 in
theorem okC_all : (List.range 4097).all okC = true := by decide +kernel
theorem okC_of {n : Nat} (h : n ≤ 4096) : okC n = true := List.all_eq_true.1 okC_all n (by simp; omega)
theorem okC_parts {n : Nat} (h0 : 1 ≤ n) (h : n ≤ 4096) : n ≤ clsN n ∧ clsN n ≤ 4096 ∧ clsN (clsN n) = clsN n ∧ (clsN n = n ∨ clsN (clsN n - 1) = clsN n) ∧ rcl 13 1 n = clsN n ∧ Lib.bitLen (n - 1) ≤ 12 := by
  have := okC_of h
  simp only [okC, Bool.or_eq_true, beq_iff_eq, Bool.and_eq_true, decide_eq_true_eq] at this
  rcases this with h1 | ⟨⟨⟨⟨⟨a, b⟩, c⟩, d⟩, e⟩, f⟩
  · omega
  · exact ⟨a, b, c, d, e, f⟩
end Go.Proofs.Ytimpmgbahgganaa
