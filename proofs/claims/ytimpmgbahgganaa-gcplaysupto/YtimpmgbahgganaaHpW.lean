/- The heap's memory: where it lies, and what a call leaves as it was. -/
import Derived.Test.YtimpmgbahgganaaHpN
import Derived.Test.YtimpmgbahgganaaArV
namespace Go.Proofs.Ytimpmgbahgganaa
open Go.RowKit Go.Maps

/-- Where a heap lies: its arena, its own block, its types' list with that list's lists, its objects' map. -/
structure Hh where
  X : Wh
  H : Nat
  vt : Value
  tv : List Value
  bo : Nat
abbrev Hh.p (Y : Hh) : Value := .pointer (some ⟨Y.H, 0, none⟩)
def Hh.own (Y : Hh) (j : Nat) : Prop := Y.X.own j ∨ j = Y.H ∨ j = Y.bo ∨ Y.vt.ownBlock = some j ∨ ∃ v ∈ Y.tv, v.ownBlock = some j
/-- The blocks of the heap that are not the arena's. -/
def Hh.side (Y : Hh) (j : Nat) : Prop := j = Y.H ∨ j = Y.bo ∨ Y.vt.ownBlock = some j ∨ ∃ v ∈ Y.tv, v.ownBlock = some j
abbrev objV (t n : Nat) : Value := .agg #[.int .i64 t, .int .i64 n]
/-- What the map of objects holds. -/
def ObMap (w : World) (bo k : Nat) (ob : Nat → Option (Nat × Nat)) : Prop :=
  ∃ D, w.ownsMap (H := Value) Try.prog 3 heldR bo k D ∧ (∀ x : Int, Maps.has D (.int .i64 x) = true ↔ ∃ a : Nat, x = a ∧ (ob a).isSome = true) ∧ ∀ (a t n : Nat), ob a = some (t, n) → ∀ z, D.atKey (.int .i64 a) z = .held (objV t n)
/-- The heap h lies at Y in w; k: so much has been done with it at most. -/
structure HLies (Y : Hh) (w : World) (h : Hs) (k : Nat) : Prop where
  L : Lies Y.X w h.s k
  blk : w.heap[Y.H]? = some (.cells #[Y.X.p, Y.vt, .map (some Y.bo)] 76 (0, 0))
  tys : w.ownsRow Y.X.B 65 1 Y.vt h.ty.length Y.tv
  tvs : ∀ (t : Nat) (f : List Bool), h.ty[t]? = some f → ∃ v, Y.tv[t]? = some v ∧ w.ownsRow Y.X.B 4 1 v f.length (bools f)
  map : ObMap w Y.bo k h.ob
  sep : ∀ j, Y.side j → ¬ Y.X.own j
  base : Y.X.B ≤ Y.H ∧ Y.X.B ≤ Y.bo
section
variable {Y Y' : Hh} {w w' : World} {h h' : Hs} {k k' : Nat}
theorem HLies.tvlen (L : HLies Y w h k) : Y.tv.length = h.ty.length := by have := L.tys.1; omega
theorem HLies.tv_at (L : HLies Y w h k) {v : Value} (hv : v ∈ Y.tv) : ∃ (t : Nat) (f : List Bool), Y.tv[t]? = some v ∧ h.ty[t]? = some f ∧ w.ownsRow Y.X.B 4 1 v f.length (bools f) := by
  obtain ⟨t, ht⟩ := List.getElem?_of_mem hv
  have hl := get_lt ht
  rw [L.tvlen] at hl
  obtain ⟨v', h1, h2⟩ := L.tvs t _ (List.getElem?_eq_getElem hl)
  rw [ht] at h1; cases h1
  exact ⟨t, _, ht, List.getElem?_eq_getElem hl, h2⟩
theorem HLies.side_lt (L : HLies Y w h k) {j : Nat} (hj : Y.side j) : Y.X.B ≤ j ∧ j < w.heap.size := by
  rcases hj with rfl | rfl | hj | ⟨v, hv, hj⟩
  · exact ⟨L.base.1, lt_of_block L.blk⟩
  · obtain ⟨D, h1, _⟩ := L.map
    exact ⟨L.base.2, h1.lt⟩
  · exact L.tys.lt j hj
  · obtain ⟨t, f, _, _, h1⟩ := L.tv_at hv
    exact h1.lt j hj
theorem Hh.own_iff (Y : Hh) (j : Nat) : Y.own j ↔ Y.X.own j ∨ Y.side j := Iff.rfl
theorem HLies.own_lt (L : HLies Y w h k) {j : Nat} (hj : Y.own j) : Y.X.B ≤ j ∧ j < w.heap.size := by
  rcases hj with hj | hj
  · exact L.L.own_lt hj
  · exact L.side_lt hj
theorem ObMap.keep {bo : Nat} {ob : Nat → Option (Nat × Nat)} (M : ObMap w bo k ob) (hb : w'.heap[bo]? = w.heap[bo]?) : ObMap w' bo k ob := by
  obtain ⟨D, ⟨es, clock, h1, h2⟩, h3⟩ := M
  exact ⟨D, ⟨es, clock, hb.trans h1, h2⟩, h3⟩
theorem ObMap.mono {bo : Nat} {ob : Nat → Option (Nat × Nat)} (M : ObMap w bo k ob) (hk : k ≤ k') : ObMap w bo k' ob := by
  obtain ⟨D, h1, h3⟩ := M
  exact ⟨D, h1.mono hk, h3⟩
/-- What lies beside the arena lies as it lay, the arena may be another. -/
theorem HLies.arena (L : HLies Y w h k) {X' : Wh} {s' : As} (L' : Lies X' w' s' k') (hk : k ≤ k') (hB : X'.B = Y.X.B) (hA : X'.A = Y.X.A) (hs : ∀ j, Y.side j → w'.heap[j]? = w.heap[j]?) (hsep : ∀ j, Y.side j → ¬ X'.own j) :
    HLies { Y with X := X' } w' { h with s := s' } k' := by
  refine ⟨L', ?_, ?_, fun t f hf => ?_, (L.map.keep (hs _ (.inr (.inl rfl)))).mono hk, hsep, by rw [show ({ Y with X := X' } : Hh).X.B = Y.X.B from hB]; exact L.base⟩
  · rw [hs _ (.inl rfl)]
    have : X'.p = Y.X.p := by unfold Wh.p; rw [hA]
    rw [L.blk, this]
  · rw [show ({ Y with X := X' } : Hh).X.B = Y.X.B from hB]
    exact ownsRow_keep L.tys fun g hg => hs g (.inr (.inr (.inl hg)))
  · obtain ⟨v, h1, h2⟩ := L.tvs t f hf
    refine ⟨v, h1, ?_⟩
    rw [show ({ Y with X := X' } : Hh).X.B = Y.X.B from hB]
    exact ownsRow_keep h2 fun g hg => hs g (.inr (.inr (.inr ⟨v, List.mem_of_getElem? h1, hg⟩)))
theorem HLies.keep (L : HLies Y w h k) (hj : ∀ j, Y.own j → w'.heap[j]? = w.heap[j]?) (hz : w.heap.size ≤ w'.heap.size) : HLies Y w' h k :=
  L.arena (L.L.keep (fun j h1 => hj j (.inl h1)) hz) (Nat.le_refl _) rfl rfl (fun j h1 => hj j (.inr h1)) L.sep
theorem HLies.below (L : HLies Y w h k) (hb : Below w.heap.size w w') : HLies Y w' h k := L.keep (fun j hj => hb.block j (L.own_lt hj).2) hb.size
theorem HLies.mono (L : HLies Y w h k) (hk : k ≤ k') : HLies Y w h k' := L.arena (L.L.mono hk) hk rfl rfl (fun _ _ => rfl) L.sep
theorem HLies.alloc (L : HLies Y w h k) (o : Obj) : HLies Y (w.alloc o) h k := L.below ((Below.refl _ _).alloc (Nat.le_refl _) o)
theorem HLies.step (L : HLies Y w h k) {X' : Wh} {s' : As} (S : Step Y.X X' w w') (L' : Lies X' w' s' k') (hk : k ≤ k') : HLies { Y with X := X' } w' { h with s := s' } k' :=
  L.arena L' hk S.B S.A (fun j hj => S.block j (L.side_lt hj).2 (L.sep j hj)) (fun j hj h1 => by
    rcases S.own j h1 with h2 | h2
    · exact L.sep j hj h2
    · have := (L.side_lt hj).2; omega)
theorem HLies.c0 (L : HLies Y w h k) : w.cell? ⟨Y.H, 0, none⟩ = some Y.X.p := by simp [World.cell?, L.blk]
theorem HLies.c1 (L : HLies Y w h k) : w.cell? ⟨Y.H, 1, none⟩ = some Y.vt := by simp [World.cell?, L.blk]
theorem HLies.c2 (L : HLies Y w h k) : w.cell? ⟨Y.H, 2, none⟩ = some (.map (some Y.bo)) := by simp [World.cell?, L.blk]
/-- What a call that changes the heap leaves as it was. -/
structure HStep (Y Y' : Hh) (w w' : World) : Prop where
  H : Y'.H = Y.H
  B : Y'.X.B = Y.X.B
  os : w'.os = w.os
  tape : w'.tape = w.tape
  output : w'.output = w.output
  size : w.heap.size ≤ w'.heap.size
  block : ∀ j, j < w.heap.size → ¬ Y.own j → w'.heap[j]? = w.heap[j]?
  own : ∀ j, Y'.own j → Y.own j ∨ w.heap.size ≤ j
theorem HStep.refl (Y : Hh) (w : World) : HStep Y Y w w := ⟨rfl, rfl, rfl, rfl, rfl, Nat.le_refl _, fun _ _ _ => rfl, fun _ h => .inl h⟩
theorem HStep.of_below {Y : Hh} (h : Below w.heap.size w w') : HStep Y Y w w' := ⟨rfl, rfl, h.os, h.tape, h.output, h.size, fun j hj _ => h.block j hj, fun _ h => .inl h⟩
theorem HStep.of_step {X' : Wh} (S : Step Y.X X' w w') : HStep Y { Y with X := X' } w w' :=
  ⟨rfl, S.B, S.os, S.tape, S.output, S.size, fun j hj hn => S.block j hj (fun h1 => hn (.inl h1)), fun j hj => by
    rcases hj with hj | hj
    · rcases S.own j hj with h1 | h1
      · exact .inl (.inl h1)
      · exact .inr h1
    · exact .inl (.inr hj)⟩
theorem HStep.trans {Y Z V : Hh} {a b c : World} (h : HStep Y Z a b) (g : HStep Z V b c) : HStep Y V a c := by
  refine ⟨g.H.trans h.H, g.B.trans h.B, g.os.trans h.os, g.tape.trans h.tape, g.output.trans h.output, Nat.le_trans h.size g.size, fun j hj hn => ?_, fun j hj => ?_⟩
  · refine (g.block j (Nat.lt_of_lt_of_le hj h.size) (fun hy => ?_)).trans (h.block j hj hn)
    rcases h.own j hy with h1 | h1
    · exact hn h1
    · omega
  · rcases g.own j hj with h1 | h1
    · exact h.own j h1
    · exact .inr (Nat.le_trans h.size h1)
theorem HStep.below {B : Nat} (S : HStep Y Y' w w') (L : HLies Y w h k) {w0 : World} (hB : B ≤ Y.X.B) (hb : Below B w0 w) : Below B w0 w' :=
  hb.trans ⟨S.os, S.tape, S.output, S.size, fun j hj => S.block j (by have := L.L.hB; omega) (fun hy => by have := (L.own_lt hy).1; omega)⟩
theorem HStep.p (S : HStep Y Y' w w') : Y'.p = Y.p := by unfold Hh.p; rw [S.H]
/-- The map of objects is changed. -/
theorem HLies.turned (L : HLies Y w h k) {ob' : Nat → Option (Nat × Nat)} (hg : w.grownBy w' (some Y.bo)) (M : ObMap w' Y.bo k' ob') (hk : k ≤ k') : HLies Y w' { h with ob := ob' } k' ∧ HStep Y Y w w' := by
  have hne : ∀ j, Y.X.own j → w'.heap[j]? = w.heap[j]? := fun j hj => hg.block j (L.L.own_lt hj).2 (fun e => L.sep j (.inr (.inl (Option.some.inj e))) hj)
  have hmap : ∃ es cl, w.heap[Y.bo]? = some (.map es cl) := by
    obtain ⟨D, ⟨es, cl, h1, _⟩, _⟩ := L.map
    exact ⟨es, cl, h1⟩
  obtain ⟨es, cl, hm⟩ := hmap
  have hc : ∀ {j : Nat} {o : Obj}, w.heap[j]? = some o → (∀ es cl, o ≠ .map es cl) → w'.heap[j]? = w.heap[j]? := fun {j o} h1 h2 => hg.block j (lt_of_block h1) (fun e => by
    have := Option.some.inj e; subst this; rw [hm] at h1; cases h1; exact h2 _ _ rfl)
  have hr : ∀ {B : Nat} {e : TypeId} {v : Value} {n : Nat} {xs : List Value}, w.ownsRow B e 1 v n xs → w'.ownsRow B e 1 v n xs := fun {B e v n xs} ho => ownsRow_keep ho fun g hg' => by
    rcases ho.2 with ⟨h1, _⟩ | ⟨g2, cap, cur, h1, _, h2, _⟩
    · rw [h1] at hg'; cases hg'
    · rw [h1] at hg'; cases hg'; exact hc h2 (fun _ _ e => by cases e)
  refine ⟨⟨(L.L.keep hne hg.size).mono hk, (hc L.blk (fun _ _ e => by cases e)).trans L.blk, hr L.tys, fun t f hf => ?_, M, L.sep, L.base⟩, ?_⟩
  · obtain ⟨v, h1, h2⟩ := L.tvs t f hf
    exact ⟨v, h1, hr h2⟩
  · exact ⟨rfl, rfl, hg.os, hg.tape, hg.output, hg.size, fun j hj hn => hg.block j hj (fun e => hn (.inr (.inr (.inl (Option.some.inj e))))), fun _ hj => .inl hj⟩
end
end Go.Proofs.Ytimpmgbahgganaa
