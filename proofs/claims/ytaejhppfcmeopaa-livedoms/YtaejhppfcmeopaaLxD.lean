/- The document's SameInts of lists that are the same. -/
import Derived.Test.YtaejhppfcmeopaaLxC
import Derived.Test.YtaejhppfcmeopaaLwJ
namespace Go.Proofs.Ytaejhppfcmeopaa
open Go.RowKit
section
variable {w : World}
set_option maxHeartbeats 1000000 in
theorem samei_any {va vb : Value} {l : List Int} (h1 : IntsAt w va l) (h2 : IntsAt w vb l) (hl : l.length ≤ 100000) : Calls Try.prog 17 #[va, vb] w fun e w' => e = .returned (.bool true) ∧ Below w.heap.size w w' := by
  obtain ⟨aa, ca, rfl⟩ := h1.slice
  obtain ⟨ab, cb, rfl⟩ := h2.slice
  have H1 := hide h1
  have H2 := hide h2
  clear h1 h2
  generalize hn : l.length = n at *
  have HN := hide hn
  have bn : (n : Int) ≤ 100000 := by omega
  clear hn
  go_enter Try.func17, Try.ntmps17
  go_wp2
  go_loopg [5] n (fun K i wr => ∃ j q : Nat, i = .int .i64 j ∧ j ≤ n ∧ n - j ≤ K ∧ wr = w.drewN q)
  case atStart => exact ⟨0, 0, rfl, Nat.zero_le _, Nat.le_refl _, rfl⟩
  case round =>
    obtain ⟨j, q, rfl, hj, hkk, rfl⟩ := hrel
    by_cases hlt : j < n
    · obtain ⟨u, hu⟩ : ∃ u, l[j]? = some u := ⟨l[j]'(by rw [HN.out]; exact hlt), by simp⟩
      obtain ⟨ga, oa, rfl, hga, c1⟩ := H1.out.cell hu
      obtain ⟨gb, ob, rfl, hgb, c2⟩ := H2.out.cell hu
      have bj : (j : Int) < (n : Int) := by omega
      clear hu
      go_wp2
      go_quiet (fail)
      go_wp2
      go_roundg (n - (j + 1))
      case measure => omega
      case rel => exact ⟨j + 1, q + nq, by go_num, by omega, Nat.le_refl _, rfl⟩
    · obtain rfl : n = j := by omega
      go_wp2
      go_ret
      exact ⟨rfl, below_drewN (Below.refl _ _) q⟩
end
end Go.Proofs.Ytaejhppfcmeopaa
