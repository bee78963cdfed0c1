/- Move. -/
import Derived.Test.YtjapfckadikjiaaStH
namespace Go.Proofs.Ytjapfckadikjiaa
open Go.RowKit
section
variable {X : Sx} {s : Sk} {w : World}
set_option maxHeartbeats 2000000 in
theorem move1_none {A cap g o bs bb bc : Nat} {ao : Option Addr} {x : Int} (w : World) (I : SInv s) (c0 : w.cell? ⟨A, 0, none⟩ = some (.int .i64 s.base)) (c2 : w.cell? ⟨A, 2, none⟩ = some (.slice ao s.ws.length cap)) (hx : x ≤ 9223372036854775807)
    (cs : w.cell? ⟨bs, 0, none⟩ = some (.pointer (some ⟨A, 0, none⟩))) (cp : w.cell? ⟨g, o, none⟩ = some (.int .i64 x)) (h : plc s x = none) :
    Calls Try.prog 35 #[.pointer (some ⟨g, o, none⟩), .pointer (some ⟨bs, 0, none⟩), .pointer (some ⟨bb, 0, none⟩), .pointer (some ⟨bc, 0, none⟩)] w fun e w' => e = .returned (.tuple #[]) ∧ Below w.heap.size w w' := by
  have hp := place_raw x w.drew I c0 c2 hx
  unfold PlE at hp
  have fin : ∀ w1 : World, Below w.heap.size w.drew w1 → Below w.heap.size w w1 := fun w1 hb => ⟨hb.os, hb.tape, hb.output, hb.size, hb.block⟩
  have HN := hide fin
  rw [h] at hp
  simp only [] at hp
  have HP := hide hp
  clear hp h c0 c2 fin
  go_enter Try.func35, Try.ntmps35
  go_wp2_with fail
  go_region_with (go_at_call 30; refine HP.out.mono ?_; rintro e w1 ⟨rfl, hb⟩)
  all_goals go_wp2
  all_goals go_end0
  all_goals exact ⟨rfl, HN.out w1 hb⟩
set_option maxHeartbeats 2000000 in
theorem move1_some {A cap g o bs bb bc i c : Nat} {ao : Option Addr} {x b : Int} (w : World) (I : SInv s) (c0 : w.cell? ⟨A, 0, none⟩ = some (.int .i64 s.base)) (c2 : w.cell? ⟨A, 2, none⟩ = some (.slice ao s.ws.length cap)) (hx : x ≤ 9223372036854775807)
    (cs : w.cell? ⟨bs, 0, none⟩ = some (.pointer (some ⟨A, 0, none⟩))) (cp : w.cell? ⟨g, o, none⟩ = some (.int .i64 x)) (h : plc s x = some i) (fp : w.frozen? ⟨g, o, none⟩ = false) (cb : w.cell? ⟨bb, 0, none⟩ = some (.int .i64 b)) (cc : w.cell? ⟨bc, 0, none⟩ = some (.int .i64 c)) (fc : w.frozen? ⟨bc, 0, none⟩ = false)
    (hg : g < w.heap.size) (hb : bb < w.heap.size) (hc : bc < w.heap.size) (hgc : g ≠ bc) (hb1 : 1 ≤ b) (hb2 : b ≤ 1099511627776) (hc1 : c ≤ 65536) :
    Calls Try.prog 35 #[.pointer (some ⟨g, o, none⟩), .pointer (some ⟨bs, 0, none⟩), .pointer (some ⟨bb, 0, none⟩), .pointer (some ⟨bc, 0, none⟩)] w fun e w' => e = .returned (.tuple #[]) ∧ ∃ w1, Below w.heap.size w w1 ∧ w' = (w1.setCell ⟨g, o, none⟩ (.int .i64 (b + i))).setCell ⟨bc, 0, none⟩ (.int .i64 ((c + 1 : Nat) : Int)) := by
  have hp := place_raw x w.drew I c0 c2 hx
  unfold PlE at hp
  have fin : ∀ w1 : World, Below w.heap.size w.drew w1 → Below w.heap.size w w1 := fun w1 hb => ⟨hb.os, hb.tape, hb.output, hb.size, hb.block⟩
  have HN := hide fin
  have facts : ∀ w1 : World, Below w.heap.size w.drew w1 → w1.cell? ⟨g, o, none⟩ = some (.int .i64 x) ∧ w1.frozen? ⟨g, o, none⟩ = false ∧ w1.cell? ⟨bb, 0, none⟩ = some (.int .i64 b) ∧ w1.cell? ⟨bc, 0, none⟩ = some (.int .i64 c) ∧ w1.frozen? ⟨bc, 0, none⟩ = false := fun w1 hb' =>
    ⟨(hb'.cell (p := ⟨g, o, none⟩) hg).trans cp, (hb'.frozen (p := ⟨g, o, none⟩) hg).trans fp, (hb'.cell (p := ⟨bb, 0, none⟩) hb).trans cb, (hb'.cell (p := ⟨bc, 0, none⟩) hc).trans cc, (hb'.frozen (p := ⟨bc, 0, none⟩) hc).trans fc⟩
  have HF := hide facts
  have hi := (plc_some h).2
  have hfit := I.fit
  have hm1 := I.m1
  have b1 : (i : Int) ≤ 65536 := by omega
  have b2 : (c : Int) ≤ 65536 := by omega
  have hcg : bc ≠ g := Ne.symm hgc
  rw [h] at hp
  simp only [] at hp
  have HP := hide hp
  clear hp h c0 c2 fin facts fp cb cc fc hi hfit hm1 I hg hb hc
  go_enter Try.func35, Try.ntmps35
  go_wp2_with fail
  go_region_with (go_at_call 30; refine HP.out.mono ?_; rintro e w1 ⟨rfl, hb⟩; obtain ⟨e1, e2, e3, e4, e5⟩ := HF.out w1 hb)
  all_goals go_wp2
  all_goals go_end0
  all_goals exact ⟨rfl, w1, HN.out w1 hb, rfl⟩
end
end Go.Proofs.Ytjapfckadikjiaa
