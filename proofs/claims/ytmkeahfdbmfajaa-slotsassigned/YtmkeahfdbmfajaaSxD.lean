/- The taken slots are held against one another by where their ranges end. -/
import Derived.Test.YtmkeahfdbmfajaaSxC
namespace Go.Proofs.Ytmkeahfdbmfajaa
open Go.RowKit
/-- What a slot is held against others by. -/
def ku (un : List Int) (a : Nat) : Int := un.getD a 0
theorem ku_get {un : List Int} {a : Nat} (h : a < un.length) : un[a]? = some (ku un a) := by simp [ku, List.getD_eq_getElem?_getD, h]
section
variable {w : World} {C n m : Nat}
set_option maxHeartbeats 1000000 in
theorem kless0 {v u : Value} {l un : List Int} {i j : Nat} {a1 a2 : Nat} {x1 x2 : Int} (h : w.ownsRow C 3 1 v n (ints l)) (hu : w.ownsRow C 3 1 u m (ints un)) (hi : l[i]? = some (a1 : Int)) (hj : l[j]? = some (a2 : Int)) (h1 : un[a1]? = some x1) (h2 : un[a2]? = some x2) : Calls Try.prog 86 #[.agg #[v, u], .int .i64 i, .int .i64 j] w fun e w' => e = .returned (.bool (decide (x1 < x2))) ∧ Below w.heap.size w w' := by
  obtain ⟨g, cap, rfl, c1, z1, lg, b1, _⟩ := row_int h hi
  obtain ⟨g2, cap2, e2, c2, z2, _, b2, _⟩ := row_int h hj
  cases e2
  obtain ⟨g3, cap3, rfl, c3, z3, lg3, b3, _⟩ := row_int hu h1
  obtain ⟨g4, cap4, e4, c4, z4, _, b4, _⟩ := row_int hu h2
  cases e4
  have b1' : (i : Int) < (n : Int) := by omega
  have b2' : (j : Int) < (n : Int) := by omega
  have b3' : (a1 : Int) < (m : Int) := by omega
  have b4' : (a2 : Int) < (m : Int) := by omega
  clear h hu hi hj h1 h2
  go_enter Try.func86, Try.ntmps86
  go_wp2
  go_quiet (fail)
  go_wp2_with fail
  go_ret
  refine ⟨rfl, ?_⟩
  exact (below_drewN ((Below.refl _ _).alloc (Nat.le_refl _) _) _)
theorem kless_any {v u : Value} {l : List Nat} {un : List Int} {i j : Nat} (h : w.ownsRow C 3 1 v n (ints (zs l))) (hu : w.ownsRow C 3 1 u m (ints un)) (hb : ∀ a ∈ l, a < un.length) (hi : i < l.length) (hj : j < l.length) : Calls Try.prog 86 #[.agg #[v, u], .int .i64 i, .int .i64 j] w fun e w' => e = .returned (.bool (decide (kv (ku un) l i < kv (ku un) l j))) ∧ Below w.heap.size w w' :=
  kless0 h hu (zs_get hi) (zs_get hj) (ku_get (hb _ (by simp [List.getD_eq_getElem?_getD, hi]))) (ku_get (hb _ (by simp [List.getD_eq_getElem?_getD, hj])))
set_option maxHeartbeats 1000000 in
theorem first0 {v u : Value} {l un : List Int} {a1 : Nat} {x1 : Int} (h : w.ownsRow C 3 1 v n (ints l)) (hu : w.ownsRow C 3 1 u m (ints un)) (hi : l[0]? = some (a1 : Int)) (h1 : un[a1]? = some x1) : Calls Try.prog 28 #[.agg #[v, u]] w fun e w' => e = .returned (.int .i64 x1) ∧ Below w.heap.size w w' := by
  obtain ⟨g, cap, rfl, c1, z1, lg, b1, _⟩ := row_int h hi
  obtain ⟨g3, cap3, rfl, c3, z3, lg3, b3, _⟩ := row_int hu h1
  have b1' : (0 : Int) < (n : Int) := by omega
  have b3' : (a1 : Int) < (m : Int) := by omega
  clear h hu hi h1
  go_enter Try.func28, Try.ntmps28
  go_wp2
  go_quiet (fail)
  go_wp2_with fail
  go_ret
  refine ⟨rfl, ?_⟩
  exact (below_drewN ((Below.refl _ _).alloc (Nat.le_refl _) _) _)
end
end Go.Proofs.Ytmkeahfdbmfajaa
