/- parameters: the first of a function's locals. -/
import Derived.Test.YtkdojpnihinpbaaDoorVfH
namespace Go.Proofs.YtkdojpnihinpbaaDoor
open Go.RowKit
section
variable {w : World} {B : Nat}
/-- The first of a list of numbers that lies. -/
theorem ints_take {l : List Int} {ao : Option Addr} {n cap : Nat} (R : SlAt 1 IntP B w (.slice ao n cap) l) (m : Nat) (hm : m ≤ l.length) : SlAt 1 IntP B w (.slice ao m cap) (l.take m) := by
  obtain ⟨a1, c1, h1, h2, h3⟩ := R
  simp only [Value.slice.injEq] at h1
  obtain ⟨rfl, rfl, rfl⟩ := h1
  have hl : (l.take m).length = m := by rw [List.length_take]; omega
  refine ⟨ao, cap, by rw [hl], by rw [hl]; omega, fun j x hx => h3 j x ?_⟩
  rw [List.getElem?_take] at hx
  split at hx
  · exact hx
  · cases hx
set_option maxHeartbeats 1000000 in
theorem params_any {f : Fd} {v1 v2 v3 v4 : Value} (R : SlAt 1 IntP B w v1 f.lo) (h0 : 0 ≤ f.pa) (h1 : f.pa ≤ (f.lo.length : Int)) : ∃ u, SlAt 1 IntP B w u (parK f) ∧ Calls Tryd.prog 86 #[.agg #[.int .i64 f.pa, v1, v2, v3, v4]] w fun e w' => e = .returned u ∧ Below w.heap.size w w' := by
  obtain ⟨m, hm⟩ : ∃ m : Nat, f.pa = (m : Int) := ⟨f.pa.toNat, by omega⟩
  have R0 := R
  obtain ⟨ao, cap, rfl, ⟨hN, hc, hx⟩, _⟩ := R
  have hml : m ≤ f.lo.length := by omega
  have HS := hide (ints_take R0 m hml)
  have hp : parK f = f.lo.take m := by unfold parK; rw [hm]; rfl
  refine ⟨.slice ao m cap, by rw [hp]; exact HS.out, ?_⟩
  rw [hm]
  have e1 : (m : Int) ≤ (cap : Int) := by omega
  have e2 : m ≤ cap := by omega
  have e3 : (0 : Int) ≤ (m : Int) := by omega
  clear R0 h0 h1 hm hp hN hc hx hml HS
  generalize f.lo.length = l at *
  go_enter Tryd.func86, Tryd.ntmps86
  go_wp2
  go_ret
  exact ⟨rfl, (Below.refl _ _).alloc (Nat.le_refl _) _⟩
end
end Go.Proofs.YtkdojpnihinpbaaDoor
