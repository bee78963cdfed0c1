/- The document's SameInts of lists that are the same; small. -/
import Derived.Test.YtlbildodjnjniaaEsRb
namespace Go.Proofs.Ytlbildodjnjniaa
open Go.RowKit
theorem int_at {w : World} {ao : Option Addr} {n cap : Nat} {l : List Int} (F : IntsAt w (.slice ao n cap) l) {j : Nat} {x : Int} (h : l[j]? = some x) : ∃ g o, ao = some ⟨g, o, none⟩ ∧ g < w.heap.size ∧ w.cell? ⟨g, o + j, none⟩ = some (.int .i64 x) := by
  obtain ⟨ao', cap', e, hc⟩ := F
  cases e
  exact hc j x h
set_option maxHeartbeats 1000000 in
theorem same_any {w : World} {va vb : Value} {l : List Int} (h1 : IntsAt w va l) (h2 : IntsAt w vb l) (hl : l.length ≤ 100000) :
    Calls Try.prog 12 #[va, vb] w fun e w' => e = .returned (.bool true) ∧ Below w.heap.size w w' := by
  obtain ⟨aa, ca, rfl, _⟩ := id h1
  obtain ⟨ab, cb, rfl, _⟩ := id h2
  have H1 := hide h1
  have H2 := hide h2
  clear h1 h2
  generalize hn : l.length = n at *
  have HN := hide hn
  have bn : (n : Int) ≤ 100000 := by omega
  clear hn
  go_enter Try.func12, Try.ntmps12
  go_wp2
  go_loopg [5] n (fun K i wr => ∃ j q : Nat, i = .int .i64 j ∧ j ≤ n ∧ n - j ≤ K ∧ wr = w.drewN q)
  case atStart => exact ⟨0, 0, rfl, Nat.zero_le _, Nat.le_refl _, rfl⟩
  case round =>
    obtain ⟨j, q, rfl, hj, hkk, rfl⟩ := hrel
    obtain ⟨G1, rfl⟩ : ∃ G1, G1 = gk := ⟨gk, rfl⟩
    by_cases hlt : j < n
    · obtain ⟨u, hu⟩ : ∃ u, l[j]? = some u := ⟨l[j]'(by rw [HN.out]; exact hlt), by simp⟩
      obtain ⟨ga, oa, rfl, hga, c1⟩ := int_at H1.out hu
      obtain ⟨gb, ob, rfl, hgb, c2⟩ := int_at H2.out hu
      have bj : (j : Int) < (n : Int) := by omega
      clear hu
      go_wp2
      go_quiet (fail)
      go_wp2
      go_roundg (n - (j + 1))
      case measure => omega
      case rel => exact ⟨j + 1, q + nq, by go_num, by omega, Nat.le_refl _, rfl⟩
    · obtain rfl : n = j := by omega
      go_wp2
      go_ret
      exact ⟨rfl, below_drewN (Below.refl _ _) q⟩
def smallB (n m : Nat) : Bool := decide (n ≤ 60) && decide (m ≤ 300)
theorem small_any {w : World} {ao bo : Option Addr} {n m cap cbp : Nat} : Calls Try.prog 11 #[.slice ao n cap, .slice bo m cbp] w fun e w' => e = .returned (.bool (smallB n m)) ∧ w = w' := by
  by_cases h : n ≤ 60
  · have h' : decide ((n : Int) ≤ 60) = true := by simp; omega
    by_cases h2 : m ≤ 300
    · have h2' : decide ((m : Int) ≤ 300) = true := by simp; omega
      go_enter Try.func11, Try.ntmps11
      go_wp2
      go_ret
      exact ⟨ret_bool (by simp [smallB, h, h2]), rfl⟩
    · have h2' : decide ((m : Int) ≤ 300) = false := by simp; omega
      go_enter Try.func11, Try.ntmps11
      go_wp2
      go_ret
      exact ⟨ret_bool (by simp [smallB, h2]), rfl⟩
  · have h' : decide ((n : Int) ≤ 60) = false := by simp; omega
    go_enter Try.func11, Try.ntmps11
    go_wp2
    go_ret
    exact ⟨ret_bool (by simp [smallB, h]), rfl⟩
end Go.Proofs.Ytlbildodjnjniaa
