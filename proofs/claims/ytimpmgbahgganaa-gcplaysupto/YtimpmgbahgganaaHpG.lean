/- reached. -/
import Derived.Test.YtimpmgbahgganaaHpF
import Derived.Shelf.Slices.Clone
import Derived.Deep.LoopGhost
namespace Go.Proofs.Ytimpmgbahgganaa
open Go.RowKit Go.Maps

/-- A list of numbers that lies somewhere. -/
def IntsAt (w : World) (v : Value) (l : List Int) : Prop :=
  ∃ ao cap, v = .slice ao l.length cap ∧ ∀ (j : Nat) (x : Int), l[j]? = some x → x ≤ 9223372036854775807 ∧ ∃ g o, ao = some ⟨g, o, none⟩ ∧ g < w.heap.size ∧ w.cell? ⟨g, o + j, none⟩ = some (.int .i64 x)
theorem IntsAt.below {w w' : World} {v : Value} {l : List Int} (R : IntsAt w v l) (hb : Below w.heap.size w w') : IntsAt w' v l := by
  obtain ⟨ao, cap, h1, h2⟩ := R
  refine ⟨ao, cap, h1, fun j x hx => ?_⟩
  obtain ⟨h3, g, o, h4, h5, h6⟩ := h2 j x hx
  exact ⟨h3, g, o, h4, Nat.lt_of_lt_of_le h5 hb.size, by rw [World.cell?_of_block (a := ⟨g, o + j, none⟩) (hb.block g h5)]; exact h6⟩
theorem IntsAt.le {w : World} {v : Value} {l : List Int} (R : IntsAt w v l) : ∀ x ∈ l, x ≤ 9223372036854775807 := by
  obtain ⟨ao, cap, h1, h2⟩ := R
  intro x hx
  obtain ⟨j, hj⟩ := List.getElem?_of_mem hx
  exact (h2 j x hj).1
theorem clone_any {w : World} {v : Value} {l : List Int} (R : IntsAt w v l) (hl : l.length ≤ 100000000) :
    Calls Try.prog 56 #[v] w fun e w' => ∃ v', e = .returned v' ∧ w'.ownsRow w.heap.size 3 1 v' l.length (ints l) ∧ Below w.heap.size w w' := by
  obtain ⟨ao, cap, rfl, h2⟩ := R
  cases ao with
  | none =>
    have h0 : l = [] := by
      cases l with
      | nil => rfl
      | cons x r =>
        obtain ⟨_, g, o, h3, _⟩ := h2 0 x rfl
        cases h3
    subst h0
    refine (Any.slices_Clone_int_nil Try.cloneA 0 cap w).mono ?_
    rintro e w' ⟨rfl, rfl⟩
    exact ⟨_, rfl, ⟨rfl, .inl ⟨rfl, rfl⟩⟩, Below.refl _ _⟩
  | some a =>
    cases l with
    | nil =>
      refine (Any.slices_Clone_int_zero Try.cloneA a cap w).mono ?_
      rintro e w' ⟨v', rfl, h3, _, h4⟩
      exact ⟨v', rfl, h3, h4⟩
    | cons x r =>
      obtain ⟨_, g, o, h3, _⟩ := h2 0 x rfl
      cases h3
      refine (Any.slices_Clone_int Try.cloneA g o (x :: r).length cap (x :: r) w (Nat.le_refl _) (by omega) (fun j hj => ?_)).mono ?_
      · obtain ⟨_, g', o', h3, _, h5⟩ := h2 j _ (List.getElem?_eq_getElem hj)
        cases h3
        rw [h5, List.getD_eq_getElem?_getD, List.getElem?_eq_getElem hj]; rfl
      · rintro e w' ⟨v', rfl, h3, _, h4⟩
        rw [List.take_length] at h3
        exact ⟨v', rfl, h3, h4⟩
/-- What the map of what was found holds. -/
def FdMap (w : World) (bf k : Nat) (F : Nat → Bool) : Prop :=
  ∃ D, w.ownsMap (H := Value) Try.prog 3 unitElem bf k D ∧ ∀ x : Int, Maps.has D (.int .i64 x) = true ↔ ∃ a : Nat, x = a ∧ F a = true
section
variable {Y : Hh} {w w' : World} {h : Hs} {k bf : Nat} {F : Nat → Bool}
theorem FdMap.keep (M : FdMap w bf k F) (hb : w'.heap[bf]? = w.heap[bf]?) : FdMap w' bf k F := by
  obtain ⟨D, ⟨es, clock, h1, h2⟩, h3⟩ := M
  exact ⟨D, ⟨es, clock, hb.trans h1, h2⟩, h3⟩
theorem FdMap.lt (M : FdMap w bf k F) : bf < w.heap.size := by
  obtain ⟨D, h1, _⟩ := M
  exact h1.lt
theorem FdMap.form (M : FdMap w bf k F) : ∃ es cl, w.heap[bf]? = some (.map es cl) := by
  obtain ⟨D, ⟨es, cl, h1, _⟩, _⟩ := M
  exact ⟨es, cl, h1⟩
theorem FdMap.look (M : FdMap w bf k F) {a : Nat} (ha : a ≤ 65536) :
    (Instr.lookup 93 (.map (some bf)) (.int .i64 a) true).run Try.prog w = .ok (.tuple #[.agg #[], .bool (F a)]) w := by
  obtain ⟨D, hD, hh⟩ := M
  obtain ⟨v, ps, hrun, hv⟩ := hD.look_ok backs_keyed Try.underlying93 (Try.zeroValue95 w) (zd := .agg []) (zp := []) unitElem_mk (key_int a ha)
  obtain ⟨rfl, _⟩ := unitElem_inv hv
  have : Maps.has D (.int .i64 a) = F a := by
    rw [Bool.eq_iff_iff, hh a]
    constructor
    · rintro ⟨b, hb, hf⟩
      have : b = a := by omega
      rw [← this]; exact hf
    · intro hf; exact ⟨a, rfl, hf⟩
  rw [this] at hrun
  exact hrun
theorem FdMap.store (M : FdMap w bf k F) {a : Nat} (ha : a ≤ 65536) (hk : k < 1000000000) :
    ∃ w1, (Instr.mapUpdate 93 (.map (some bf)) (.int .i64 a) (.agg #[])).run Try.prog w = .ok () w1 ∧ w.grownBy w1 (some bf) ∧ FdMap w1 bf (k + 1) (upd F a true) := by
  obtain ⟨D, hD, hh⟩ := M
  obtain ⟨w1, h1, h2, h3⟩ := hD.update backs_keyed Try.underlying93 (by unfold maxLen; omega) (val := .agg #[]) (d := .agg []) (ps := []) (key_int a ha) unitElem_mk
  refine ⟨w1, h1, h3, _, h2, fun y => ?_⟩
  by_cases hy : y = a
  · subst hy
    rw [Maps.has_put_same hD.isMap (by simp [WideAt.IsKeyLit])]
    simp only [true_iff]
    exact ⟨a, rfl, upd_same _ _ _⟩
  · rw [Maps.has_put_other (int_ne hy), hh y]
    constructor
    · rintro ⟨b, rfl, hs⟩
      exact ⟨b, rfl, by rw [upd_other _ _ (fun e => hy (by rw [e]))]; exact hs⟩
    · rintro ⟨b, rfl, hs⟩
      rw [upd_other _ _ (fun e => hy (by rw [e]))] at hs
      exact ⟨b, rfl, hs⟩
theorem fd_new (w : World) : FdMap (w.alloc (.map #[] 0)) w.heap.size 0 (fun _ => false) := by
  refine ⟨.map [], World.ownsMap_made w Try.prog 3 unitElem, fun x => ?_⟩
  simp [Maps.has_eq]
end
end Go.Proofs.Ytimpmgbahgganaa
