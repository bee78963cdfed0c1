/- Piles: how many kinds, the top. -/
import Derived.Test.YtkdojpnihinpbaaDoorVfG
namespace Go.Proofs.YtkdojpnihinpbaaDoor
open Go.RowKit Go.Shelf
attribute [local go_sem] Oper.semAt_some
section
variable {X : Nat → Prop} {w : World} {E b : Nat} {l : List Int}
theorem depth_in {F : Fence} (hF : F.fn 34) (hro : F.round = none) {m : Nat} (R : PileAt X w E b l) : CallsIn F m Tryd.prog 34 #[pp b] w fun e w' => e = .returned (.int .i64 (l.length : Int)) ∧ w' = w := by
  have c2 := R.dep
  have hlb := R.lt
  clear R
  refine callsIn_of_wp Tryd.func34 rfl hF ?_ hro
  simp only [Tryd.ntmps34, List.size_toArray, List.length_cons, List.length_nil, Nat.reduceAdd, Nat.reduceSub, Array.replicate_succ, Array.replicate_zero, List.push_toArray, List.append_toArray, List.nil_append, List.cons_append]
  gi_wp2
  go_ret
  exact ⟨rfl, rfl⟩
theorem depth_any (R : PileAt X w E b l) : Calls Tryd.prog 34 #[pp b] w fun e w' => e = .returned (.int .i64 (l.length : Int)) ∧ w' = w := (depth_in (m := 0) (F := FX) (FX_fn (by decide)) rfl R).calls FX_room
set_option maxHeartbeats 1000000 in
theorem top_any (R : PileAt X w E b l) (h : 0 < l.length) (hl : l.length ≤ 4000000000000) : Calls Tryd.prog 55 #[pp b] w fun e w' => e = .returned (.int .i64 (l.getLast?.getD 0)) ∧ Below w.heap.size w w' := by
  obtain ⟨b0, l0, ks, a, c, rfl, hb, hk, hc, hI, _⟩ := R.top h
  have c0 : w.cell? ⟨b, 0, none⟩ = some (.slice a ks.length c) := cell_of hb rfl
  have hlb := lt_of_block hb
  obtain ⟨m, hm⟩ : ∃ m, ks.length = m + 1 := ⟨ks.length - 1, by omega⟩
  obtain ⟨k, hk2⟩ : ∃ k, ks[m]? = some k := ⟨ks[m]'(by omega), by simp⟩
  obtain ⟨ao, cap, hv, _, _, hel⟩ := hI
  cases hv
  obtain ⟨g, o, rfl, hg, _, hx⟩ := hel m k hk2
  have hlast : (l0 ++ ks).getLast?.getD 0 = k := by
    rw [List.getLast?_append, List.getLast?_eq_getElem?, hm, Nat.add_sub_cancel, hk2]
    rfl
  rw [List.length_append] at hl
  rw [hlast]
  rw [hm] at c0 hl
  have hmb : (m : Int) + 1 ≤ 4000000000000 := by omega
  have n0 : (0 : Int) ≤ (m : Int) := by omega
  have d1 : decide (m < m + 1) = true := by simp
  have hcap : ((m + 1 : Nat) : Int) = (m : Int) + 1 := by omega
  have w1 : IntKind.i64.wrap (m : Int) = (m : Int) := wrap_nat (by omega)
  clear R hb hel hk2 hlast hl hk hm hc hcap
  go_enter Tryd.func55, Tryd.ntmps55
  go_wp2
  go_region
  all_goals go_wp2
  all_goals (
    go_ret
    exact ⟨rfl, below_drew (Below.refl _ _)⟩)
end
end Go.Proofs.YtkdojpnihinpbaaDoor
