/- The simplest facts (awake); SameInts of the same list; one range more in a list. -/
import Derived.Test.YtmkeahfdbmfajaaSxP
namespace Go.Proofs.Ytmkeahfdbmfajaa
open Go.RowKit
def l01 : List Rg := [⟨0, 3⟩, ⟨1, 2⟩]
theorem ord01 : ordP l01 = [0, 1] := by
  refine (ord_unique (l := l01) (o := [0, 1]) (List.Perm.refl _) ?_).symm
  refine List.pairwise_pair.mpr ?_
  left
  decide
theorem flt01 : fltP l01 = 0 := by decide
theorem slt01 : sltP l01 = [0, 1] := by
  unfold sltP
  rw [if_pos flt01]
  unfold asgP
  rw [ord01]
  rfl
theorem cnt01 : cntP l01 = 2 := by
  unfold cntP
  rw [if_pos flt01]
  unfold asgP
  rw [ord01]
  rfl
theorem IntsAt.slice {w : World} {v : Value} {l : List Int} (h : IntsAt w v l) : ∃ ao cap, v = .slice ao l.length cap := by
  obtain ⟨ao, cap, h, _⟩ := h; exact ⟨ao, cap, h⟩
theorem IntsAt.cell {w : World} {ao : Option Addr} {n cap : Nat} {l : List Int} (h : IntsAt w (.slice ao n cap) l) {j : Nat} {x : Int} (hx : l[j]? = some x) : ∃ g o, ao = some ⟨g, o, none⟩ ∧ g < w.heap.size ∧ w.cell? ⟨g, o + j, none⟩ = some (.int .i64 x) := by
  obtain ⟨a, c, e, _, h⟩ := h
  cases e
  exact h j x hx
section
variable {w : World}
theorem at01 : RgsAt (w.alloc (.cells #[.int .i64 0, .int .i64 3, .int .i64 1, .int .i64 2] 37)) (.slice (some ⟨w.heap.size, 0, none⟩) 2 2) l01 := by
  have hb : (w.alloc (.cells #[.int .i64 0, .int .i64 3, .int .i64 1, .int .i64 2] 37)).heap[w.heap.size]? = _ := heap_new _ _ rfl
  refine ⟨by decide, _, 2, rfl, fun j p hp => ⟨w.heap.size, 0, rfl, lt_of_block hb, ?_⟩⟩
  match j, hp with
  | 0, hp => cases hp; exact ⟨cell_of hb rfl, cell_of hb rfl⟩
  | 1, hp => cases hp; exact ⟨cell_of hb rfl, cell_of hb rfl⟩
set_option maxHeartbeats 1000000 in
theorem awake_any (w : World) : Calls Try.prog 10 #[] w fun e w' => e = .returned (.bool true) ∧ Below w.heap.size w w' := by
  have ha := assign_any (at01 (w := w))
  rw [flt01, slt01, cnt01] at ha
  have HB0 := hide ((Below.refl w.heap.size w).alloc (Nat.le_refl _) (.cells #[.int .i64 0, .int .i64 3, .int .i64 1, .int .i64 2] 37))
  go_enter Try.func10, Try.ntmps10
  go_wp2_with (go_at_call 7; refine ha.mono ?_; rintro e w1 ⟨⟨vs, rfl, HI⟩, hb⟩
               obtain ⟨a1, c1, rfl⟩ := HI.out.slice
               obtain ⟨g, o, rfl, hg, h1⟩ := HI.out.cell (j := 1) rfl
               clear ha)
  go_ret
  exact ⟨rfl, HB0.out.trans (hb.mono HB0.out.size)⟩
set_option maxHeartbeats 1000000 in
theorem samei_any {va vb : Value} {l : List Int} (h1 : IntsAt w va l) (h2 : IntsAt w vb l) (hl : l.length ≤ 100000) : Calls Try.prog 12 #[va, vb] w fun e w' => e = .returned (.bool true) ∧ Below w.heap.size w w' := by
  obtain ⟨aa, ca, rfl⟩ := h1.slice
  obtain ⟨ab, cb, rfl⟩ := h2.slice
  have H1 := hide h1
  have H2 := hide h2
  clear h1 h2
  generalize hn : l.length = n at *
  have HN := hide hn
  have bn : (n : Int) ≤ 100000 := by omega
  clear hn
  go_enter Try.func12, Try.ntmps12
  go_wp2
  go_loopg [5] n (fun K i wr => ∃ j q : Nat, i = .int .i64 j ∧ j ≤ n ∧ n - j ≤ K ∧ wr = w.drewN q)
  case atStart => exact ⟨0, 0, rfl, Nat.zero_le _, Nat.le_refl _, rfl⟩
  case round =>
    obtain ⟨j, q, rfl, hj, hkk, rfl⟩ := hrel
    by_cases hlt : j < n
    · obtain ⟨u, hu⟩ : ∃ u, l[j]? = some u := ⟨l[j]'(by rw [HN.out]; exact hlt), by simp⟩
      obtain ⟨ga, oa, rfl, hga, c1⟩ := H1.out.cell hu
      obtain ⟨gb, ob, rfl, hgb, c2⟩ := H2.out.cell hu
      have bj : (j : Int) < (n : Int) := by omega
      clear hu
      go_wp2
      go_quiet (fail)
      go_wp2
      go_roundg (n - (j + 1))
      case measure => omega
      case rel => exact ⟨j + 1, q + nq, by go_num, by omega, Nat.le_refl _, rfl⟩
    · obtain rfl : n = j := by omega
      go_wp2
      go_ret
      exact ⟨rfl, below_drewN (Below.refl _ _) q⟩
end
end Go.Proofs.Ytmkeahfdbmfajaa
