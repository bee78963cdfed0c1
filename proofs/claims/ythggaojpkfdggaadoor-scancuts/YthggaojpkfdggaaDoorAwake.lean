/- The simplest facts: awake. -/
import Derived.Test.YthggaojpkfdggaaDoorQuote
namespace Go.Proofs.YthggaojpkfdggaaDoor
open Go.RowKit

theorem scan_a1 : scanRes [97, 32, 49] = ([(1, [97], 0, 0), (2, [], 1, 2)], 0, 0) := by decide +kernel
theorem name_x : nameP [120] = true := by decide +kernel
theorem quote_q : quoteL [113] = [34, 113, 34] := by decide +kernel

set_option maxHeartbeats 1000000 in
theorem awake_any (w : World) (hG : Gl w) : Calls Tryd.prog 11 #[] w fun e w' => e = .returned (.bool true) ∧ Below w.heap.size w w' := by
  have cS := scan_any ⟨#[97, 32, 49]⟩ (by decide) w hG
  rw [show (⟨#[97, 32, 49]⟩ : ByteArray).data.toList = [97, 32, 49] from rfl, scan_a1] at cS
  have cN : ∀ W, Gl W → Calls Tryd.prog 15 #[.string ⟨#[120]⟩] W fun e w' => e = .returned (.bool true) ∧ Below W.heap.size W w' := fun W hG => by
    have := isName_any ⟨#[120]⟩ (by decide) W hG
    rw [show (⟨#[120]⟩ : ByteArray).data.toList = [120] from rfl, name_x] at this
    exact this
  have cQ : ∀ W, Calls Tryd.prog 13 #[.string ⟨#[113]⟩] W fun e w' => e = .returned (.string ⟨#[34, 113, 34]⟩) ∧ Below W.heap.size W w' := fun W => by
    have := quote_any ⟨#[113]⟩ (by decide) W
    rw [show (⟨#[113]⟩ : ByteArray).data.toList = [113] from rfl, quote_q] at this
    exact this
  have HN := Lib.hid cN
  have HQ := Lib.hid cQ
  clear cN cQ
  go_enter Tryd.func11, Tryd.ntmps11
  go_wp2_with fail
  refine cS.mono ?_
  rintro e w1 ⟨v, rfl, hown, b1⟩
  obtain ⟨g, cap, hv⟩ : ∃ g cap, v = .slice (some ⟨g, 0, none⟩) 2 cap := by
    rcases hown.2 with ⟨_, h0⟩ | ⟨g5, cap5, _, h5, _⟩
    · cases h0
    · exact ⟨g5, cap5, h5⟩
  subst hv
  have hc : w1.cell? ⟨g, 6, none⟩ = some (.int .i64 1) := hown.cells (g := g) rfl 6 _ rfl
  clear cS
  go_wp2_with fail
  refine (HN.out w1 (hG.later b1)).mono ?_
  rintro e w2 ⟨rfl, b2⟩
  go_wp2_with fail
  refine (HQ.out w2).mono ?_
  rintro e w3 ⟨rfl, b3⟩
  go_wp2
  go_ret
  exact ⟨rfl, b1.trans ((b2.trans (b3.mono b2.size)).mono b1.size)⟩

end Go.Proofs.YthggaojpkfdggaaDoor
