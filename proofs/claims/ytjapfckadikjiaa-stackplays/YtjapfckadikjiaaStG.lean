/- Pop. -/
import Derived.Test.YtjapfckadikjiaaStF
namespace Go.Proofs.Ytjapfckadikjiaa
open Go.RowKit
section
variable {X : Sx} {s : Sk} {w : World}
set_option maxHeartbeats 2000000 in
theorem pop1_any {A cap g o bs bn bt a : Nat} {ao : Option Addr} {x : Int} {b0 : Bool} (w : World) (I : SInv s) (c0 : w.cell? ⟨A, 0, none⟩ = some (.int .i64 s.base)) (c2 : w.cell? ⟨A, 2, none⟩ = some (.slice ao s.ws.length cap)) (hx : x ≤ 9223372036854775807)
    (cs : w.cell? ⟨bs, 0, none⟩ = some (.pointer (some ⟨A, 0, none⟩))) (cp : w.cell? ⟨g, o, none⟩ = some (.int .i64 x)) (cn : w.cell? ⟨bn, 0, none⟩ = some (.bool b0)) (fn : w.frozen? ⟨bn, 0, none⟩ = false) (ct : w.cell? ⟨bt, 0, none⟩ = some (.int .i64 a)) (hn : bn < w.heap.size) (ht : bt < w.heap.size) :
    Calls Try.prog 29 #[.pointer (some ⟨g, o, none⟩), .pointer (some ⟨bs, 0, none⟩), .pointer (some ⟨bn, 0, none⟩), .pointer (some ⟨bt, 0, none⟩)] w fun e w' => e = .returned (.tuple #[]) ∧
      ∃ w1, Below w.heap.size w w1 ∧ w' = w1.setCell ⟨bn, 0, none⟩ (.bool (b0 || atB a (plc s x))) := by
  have hp := place_raw x w.drew I c0 c2 hx
  unfold PlE at hp
  have facts : ∀ w1 : World, Below w.heap.size w.drew w1 → w1.cell? ⟨bn, 0, none⟩ = some (.bool b0) ∧ w1.frozen? ⟨bn, 0, none⟩ = false ∧ w1.cell? ⟨bt, 0, none⟩ = some (.int .i64 a) := fun w1 hb =>
    ⟨(hb.cell (p := ⟨bn, 0, none⟩) hn).trans cn, (hb.frozen (p := ⟨bn, 0, none⟩) hn).trans fn, (hb.cell (p := ⟨bt, 0, none⟩) ht).trans ct⟩
  have HF := hide facts
  clear facts I
  have fin : ∀ w1 : World, Below w.heap.size w.drew w1 → Below w.heap.size w w1 := fun w1 hb => ⟨hb.os, hb.tape, hb.output, hb.size, hb.block⟩
  have HN := hide fin
  clear fin
  cases h : plc s x with
  | none =>
    rw [h] at hp
    simp only [] at hp
    have HP := hide hp
    clear hp h c0 c2
    go_enter Try.func29, Try.ntmps29
    go_wp2_with fail
    go_region_with (go_at_call 30; refine HP.out.mono ?_; rintro e w1 ⟨rfl, hb⟩; obtain ⟨e1, e2, e3⟩ := HF.out w1 hb)
    all_goals cases b0
    all_goals go_wp2
    all_goals go_end0
    all_goals exact ⟨rfl, w1, HN.out w1 hb, by simp [atB]⟩
  | some i =>
    rw [h] at hp
    simp only [] at hp
    have HP := hide hp
    clear hp c0 c2 h
    by_cases hai : a ≤ i
    · have d1 : decide ((a : Int) ≤ (i : Int)) = true := by simpa using hai
      have d2 : decide (a ≤ i) = true := by simpa using hai
      go_enter Try.func29, Try.ntmps29
      go_wp2_with fail
      go_region_with (go_at_call 30; refine HP.out.mono ?_; rintro e w1 ⟨rfl, hb⟩; obtain ⟨e1, e2, e3⟩ := HF.out w1 hb)
      all_goals cases b0
      all_goals go_wp2
      all_goals go_end0
      all_goals exact ⟨rfl, w1, HN.out w1 hb, by simp [atB, hai]⟩
    · have d1 : decide ((a : Int) ≤ (i : Int)) = false := by simp; omega
      have d2 : decide (a ≤ i) = false := by simpa using hai
      go_enter Try.func29, Try.ntmps29
      go_wp2_with fail
      go_region_with (go_at_call 30; refine HP.out.mono ?_; rintro e w1 ⟨rfl, hb⟩; obtain ⟨e1, e2, e3⟩ := HF.out w1 hb)
      all_goals cases b0
      all_goals go_wp2
      all_goals go_end0
      all_goals exact ⟨rfl, w1, HN.out w1 hb, by simp [atB, hai]⟩
end
end Go.Proofs.Ytjapfckadikjiaa
