/- The document's SameLists of lists that are the same. -/
import Derived.Test.YtaejhppfcmeopaaLwC
namespace Go.Proofs.Ytaejhppfcmeopaa
open Go.RowKit
section
variable {w : World}
set_option maxRecDepth 100000 in
set_option maxHeartbeats 2000000 in
theorem samel_any {va vb : Value} {ls : List (List Int)} (h1 : LsAt w va ls) (h2 : LsAt w vb ls) (hl : ls.length ≤ 100000) (hs : ∀ l ∈ ls, l.length ≤ 100000) : Calls Try.prog 14 #[va, vb] w fun e w' => e = .returned (.bool true) ∧ Below w.heap.size w w' := by
  obtain ⟨aa, ca, rfl⟩ := h1.slice
  obtain ⟨ab, cb, rfl⟩ := h2.slice
  have H1 := hide h1
  have H2 := hide h2
  have HL := hide hs
  clear h1 h2 hs
  generalize hn : ls.length = n at *
  have HN := hide hn
  have bn : (n : Int) ≤ 100000 := by omega
  clear hn
  go_enter Try.func14, Try.ntmps14
  go_wp2
  go_loopg [5, 6] n (fun G i _ wr => ∃ j q : Nat, i = .int .i64 j ∧ j ≤ n ∧ n - j ≤ G ∧ wr = w.drewN q)
  case atStart => exact ⟨0, 0, rfl, Nat.zero_le _, Nat.le_refl _, rfl⟩
  case round =>
    obtain ⟨j, q, rfl, hj, hkk, rfl⟩ := hrel
    obtain ⟨G1, rfl⟩ : ∃ G1, G1 = gk := ⟨gk, rfl⟩
    by_cases hlt : j < n
    · obtain ⟨l, hu⟩ : ∃ u, ls[j]? = some u := ⟨ls[j]'(by rw [HN.out]; exact hlt), by simp⟩
      obtain ⟨ga, oa, a1, k1, rfl, hga, c1, I1⟩ := H1.out.list hu
      obtain ⟨gb, ob, a2, k2, rfl, hgb, c2, I2⟩ := H2.out.list hu
      have hm := HL.out l (List.mem_of_getElem? hu)
      have HI := hide (And.intro I1 I2)
      obtain ⟨m, hmn⟩ : ∃ m, l.length = m := ⟨_, rfl⟩
      rw [hmn] at c1 c2 HI hm
      have HM := hide hmn
      have bm : (m : Int) ≤ 100000 := by omega
      have bj : (j : Int) < (n : Int) := by omega
      clear hu I1 I2 hmn
      go_wp2
      go_quiet (fail)
      go_wp2
      go_loopg [6] m (fun G k wr => ∃ p r : Nat, k = .int .i64 p ∧ p ≤ m ∧ m - p ≤ G ∧ wr = w.drewN r)
      case atStart => exact ⟨0, q + nq, rfl, Nat.zero_le _, Nat.le_refl _, World.drewN_drewN _ _ _⟩
      case round =>
        obtain ⟨p, r, rfl, hp, hpk, rfl⟩ := hrel
        by_cases hpl : p < m
        · obtain ⟨x, hx⟩ : ∃ x, l[p]? = some x := ⟨l[p]'(by rw [HM.out]; exact hpl), by simp⟩
          obtain ⟨g1, o1, rfl, l1, d1⟩ := HI.out.1.cell hx
          obtain ⟨g2, o2, rfl, l2, d2⟩ := HI.out.2.cell hx
          have bp : (p : Int) < (m : Int) := by omega
          clear hx
          go_wp2
          go_quiet (fail)
          go_wp2
          go_roundg (m - (p + 1))
          case measure => omega
          case rel => exact ⟨p + 1, r + nq, by go_num, by omega, Nat.le_refl _, rfl⟩
        · obtain rfl : m = p := by omega
          go_wp2
          go_roundg (n - (j + 1))
          case measure => omega
          case rel => exact ⟨j + 1, r, by go_num, by omega, Nat.le_refl _, rfl⟩
    · obtain rfl : n = j := by omega
      go_wp2
      go_ret
      exact ⟨rfl, below_drewN (Below.refl _ _) q⟩
end
end Go.Proofs.Ytaejhppfcmeopaa
