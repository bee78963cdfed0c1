/- place, within, and what keeps a graph from being sound. -/
import Derived.Test.YtlbildodjnjniaaEsW
namespace Go.Proofs.Ytlbildodjnjniaa
open Go.RowKit

def badP (p : Pt) : Bool := decide (p.d < 0) || decide (512 < p.d)
def inB (x : Int) (n : Nat) : Bool := decide (0 ≤ x) && decide (x < n)
def badF (n : Nat) (f : Fl) : Bool := !((f.to == -1) || inB f.to n) || !(inB f.fr n) || decide (f.rf < -1) || decide (100 < f.rf)
section
variable {w : World}
theorem place_any (p : Int) (h : -9223372036854775808 ≤ p) (h2 : p < 9223372036854775807) : Calls Try.prog 26 #[.int .i64 p] w fun e w' => e = .returned (.int .i64 (p + 1)) ∧ w = w' := by
  have b1 : p ≤ 9223372036854775806 := by omega
  have hw : IntKind.i64.wrap (p + 1) = p + 1 := by rw [IntKind.wrap_i64]; omega
  go_enter Try.func26, Try.ntmps26
  go_wp2
  go_ret
  exact ⟨by first | rfl | (rw [hw]), rfl⟩
theorem within_any (x : Int) (n : Nat) : Calls Try.prog 18 #[.int .i64 x, .int .i64 n] w fun e w' => e = .returned (.bool (inB x n)) ∧ w = w' := by
  by_cases h : 0 ≤ x
  · go_enter Try.func18, Try.ntmps18
    go_wp2
    go_ret
    exact ⟨ret_bool (by simp [inB, h]), rfl⟩
  · have h' : decide (0 ≤ x) = false := by simpa using h
    go_enter Try.func18, Try.ntmps18
    go_wp2
    go_ret
    exact ⟨ret_bool (by simp [inB, h']), rfl⟩
theorem bad1 (p : Pt) : Calls Try.prog 22 #[.agg #[.int .i64 p.d, .bool p.a]] w fun e w' => e = .returned (.bool (badP p)) ∧ Below w.heap.size w w' := by
  by_cases h : p.d < 0
  · go_enter Try.func22, Try.ntmps22
    go_wp2
    go_ret
    exact ⟨ret_bool (by simp [badP, h]), (Below.refl _ _).alloc (Nat.le_refl _) _⟩
  · have h' : decide (p.d < 0) = false := by simpa using h
    go_enter Try.func22, Try.ntmps22
    go_wp2
    go_ret
    exact ⟨ret_bool (by simp [badP, h']), (Below.refl _ _).alloc (Nat.le_refl _) _⟩
end
end Go.Proofs.Ytlbildodjnjniaa
