/- The queue's methods Push and Pop, and what a taken slot's end is. -/
import Derived.Test.YtmkeahfdbmfajaaSxB
namespace Go.Proofs.Ytmkeahfdbmfajaa
open Go.RowKit
set_option maxRecDepth 100000 in
theorem ta_int (x : Int) (W : World) : (Instr.typeAssert (.iface 3 (.int .i64 x)) 20 3 false).run Try.prog W = .ok (.int .i64 x) W := by rfl
section
variable {w0 w w' : World} {B : Nat} {f : Nat → Value} {L : Nat → List Int}
set_option maxHeartbeats 1000000 in
theorem qpush_any (V : Pq w0 w B f L) {t : Nat} (ht : t < 3) (x : Int) (hl : (L t).length ≤ 100000) : Calls Try.prog 88 #[.pointer (some ⟨B, t, none⟩), .iface 3 (.int .i64 x)] w fun e w' => (∃ v, e = .returned v) ∧ ∃ f', Pq w0 w' B f' (upf L t (L t ++ [x])) := by
  have V1 := V.under (below_drewN (Below.refl w.heap.size w) 1)
  obtain ⟨g2, cap, w3, hr, c3, z3, l3, V3⟩ := V1.pushQ ht x hl
  obtain ⟨c0, z0, l0⟩ := V.cell ht
  have HV := hide V3
  clear V V1 V3 hl
  generalize (L t).length = m at *
  have hta := ta_int x w.drew
  go_enter Try.func88, Try.ntmps88
  go_wp2_with fail
  go_region_law (refine step_append_eq (by rfl) _ _ 42 (by rfl) (by rfl) (by rfl) hr ?_)
  all_goals go_wp2_with fail
  all_goals go_returns
  all_goals exact ⟨⟨_, rfl⟩, _, HV.out⟩
set_option maxHeartbeats 1000000 in
theorem qpop_any (V : Pq w0 w B f L) {t n : Nat} (ht : t < 3) {x : Int} (hn : (L t).length = n + 1) (hx : (L t)[n]? = some x) (hb : n ≤ 100000) : Calls Try.prog 87 #[.pointer (some ⟨B, t, none⟩)] w fun e w' => e = .returned (.iface 3 (.int .i64 x)) ∧ ∃ f', Pq w0 w' B f' (upf L t ((L t).take n)) := by
  have hr := V.rows t ht
  rw [hn] at hr
  obtain ⟨g, cap, hf, c1, z1, l1, _, _⟩ := row_int hr hx
  have V1 := V.pop ht hn hf
  have hcap : (n : Int) + 1 ≤ cap := by
    rcases hr.2 with ⟨h2, _⟩ | ⟨g1, cap1, cur, e1, _, _, hmc, _⟩
    · rw [hf] at h2; cases h2
    · rw [hf] at e1; cases e1; omega
  obtain ⟨c0, z0, l0⟩ := V.cell ht
  have HV := hide V1
  rw [hf] at c0
  have e1 : IntKind.i64.wrap ((n : Int) + 1 - 1) = (n : Int) := by rw [IntKind.wrap_i64]; omega
  have b1 : (n : Int) < (n : Int) + 1 := by omega
  have b0 : (0 : Int) ≤ (n : Int) := by omega
  clear V V1 hn hx hr hf
  go_enter Try.func87, Try.ntmps87
  go_wp2_with fail
  go_returns
  exact ⟨rfl, _, HV.out⟩
end
end Go.Proofs.Ytmkeahfdbmfajaa
