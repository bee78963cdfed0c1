/- Memory: arguments, rows of one's own. -/
import Derived.Test.YtmkeahfdbmfajaaChecked
import Derived.Test.YtmkeahfdbmfajaaRows
import Derived.WalkSpells
import Derived.WalkLawsBesides
import Derived.Deep.Draws
import Derived.Deep.AppendLies
import Derived.Deep.QuietTactic
import Derived.BigQuiet
import Derived.Deep.RegionHeld3
import Derived.Deep.RegionLaw
import Derived.Deep.CutRange
import Derived.Deep.LoopGhost
import Derived.Lib.SliceRun
import Derived.Handy
namespace Go.Proofs.Ytmkeahfdbmfajaa
open Go.RowKit

theorem hide {p : Prop} (h : p) : Hid p := h
theorem lt_of_block {w : World} {b : Nat} {o : Obj} (h : w.heap[b]? = some o) : b < w.heap.size := by
  rcases Nat.lt_or_ge b w.heap.size with h1 | h1
  · exact h1
  · rw [Array.getElem?_eq_none h1] at h; cases h
theorem get_lt {α : Type} {l : List α} {i : Nat} {a : α} (h : l[i]? = some a) : i < l.length := by
  rcases Nat.lt_or_ge i l.length with h1 | h1
  · exact h1
  · rw [List.getElem?_eq_none h1] at h; cases h
theorem heap_setCell_same (w : World) (b o : Nat) (u : Value) {c : Array Value} {t : TypeId} {f : Nat × Nat} (hb : w.heap[b]? = some (.cells c t f)) :
    (w.setCell ⟨b, o, none⟩ u).heap[b]? = some (.cells (c.setIfInBounds o u) t f) := by
  simp [World.setCell, Array.getElem?_modify, hb]
theorem heap_new (w : World) (o : Obj) {j : Nat} (h : j = w.heap.size) : (w.alloc o).heap[j]? = some o := by subst h; exact (MapKept.heap_alloc w o).1
theorem heap_under (w : World) (o : Obj) {j : Nat} (h : j < w.heap.size) : (w.alloc o).heap[j]? = w.heap[j]? := by
  rw [World.alloc]; exact Array.getElem?_push_lt h ▸ (Array.getElem?_eq_getElem h).symm
theorem below_drewN {B : Nat} {a w : World} (h : Below B a w) (q : Nat) : Below B a (w.drewN q) := ⟨h.os, h.tape, h.output, h.size, h.block⟩
theorem cell_of {w : World} {b o : Nat} {c : Array Value} {t : TypeId} {f : Nat × Nat} {u : Value} (h : w.heap[b]? = some (.cells c t f)) (hu : c[o]? = some u) : w.cell? ⟨b, o, none⟩ = some u := by simp [World.cell?, h, hu]
theorem fz_of {w : World} {b : Nat} (o : Nat) {c : Array Value} {t : TypeId} (h : w.heap[b]? = some (.cells c t (0, 0))) : w.frozen? ⟨b, o, none⟩ = false := by simp [World.frozen?, h]
theorem ret_int {k : IntKind} {a b : Int} (h : a = b) : Ending.returned (.int k a) = .returned (.int k b) := by rw [h]
theorem ret_bool {a b : Bool} (h : a = b) : Ending.returned (.bool a) = .returned (.bool b) := by rw [h]
theorem Try.info3 : (Try.prog.info? 3).map (fun i => (i.zero, i.size, i.bytes)) = some (some (.int .i64 0), 1, 8) := by kernel_rfl
theorem Try.info4 : (Try.prog.info? 4).map (fun i => (i.zero, i.size, i.bytes)) = some (some (.bool false), 1, 1) := by kernel_rfl
theorem ownsRow_keep {w w' : World} {base : Nat} {e : TypeId} {size : Nat} {v : Value} {n : Nat} {xs : List Value} (h : w.ownsRow base e size v n xs) (hk : ∀ g, v.ownBlock = some g → w'.heap[g]? = w.heap[g]?) : w'.ownsRow base e size v n xs := by
  refine ⟨h.1, ?_⟩
  rcases h.2 with h2 | ⟨g, cap, cur, rfl, h1, h2, h3⟩
  · exact .inl h2
  · exact .inr ⟨g, cap, cur, rfl, h1, (hk g rfl).trans h2, h3⟩
/-- An append whose run is known, at the list of a plain region's operations. -/
theorem wpList_append_eq {P : Program} {w : World} {ops : Array Oper} {rest : List Oper} {o : Oper} {a : Act} {Q : Exit → Act → World → Prop} (hgd : o.guard = none) (s x : Operand) (t : TypeId)
    (ho : o.op = .call { callee := .builtin .append, args := #[s, x], argTypes := #[t, t] }) {v1 v2 v : Value} {w' : World} (hs : a.eval s = v1) (hx : a.eval x = v2) (hr : (Builtin.append_ #[t, t] o.type #[v1, v2]).run P w = .ok v w')
    (h : wpList P ops Q rest (a.put o.dst v) w') : wpList P ops Q (o :: rest) a w := by
  refine wpList_plain hgd fun _ hK => ?_
  unfold Oper.wp execOp
  simp only [ho, resolve, invoke, builtin, Sem.run_bind, Sem.run_pure, Result.andThen_ok, List.map_toArray, List.map_cons, List.map_nil, hs, hx, hr]
  exact hK _ _ h
/-- An append whose run is known, at a step of a region that draws its order. -/
theorem step_append_eq {P : Program} {w : World} {ops : Array Oper} {o : Oper} {a : Act} {K : Act → World → Prop} {Q : Exit → Act → World → Prop} {E : Prop} (hgd : o.guard = none) (s x : Operand) (t : TypeId)
    (ho : o.op = .call { callee := .builtin .append, args := #[s, x], argTypes := #[t, t] }) {v1 v2 v : Value} {w' : World} (hs : a.eval s = v1) (hx : a.eval x = v2) (hr : (Builtin.append_ #[t, t] o.type #[v1, v2]).run P w = .ok v w')
    (h : K (a.put o.dst v) w') : if Region.wanted o (yielded ops a.tmps) = true then Oper.wp P o a w K Q else E := by
  have hw : Region.wanted o (yielded ops a.tmps) = true := by simp [Region.wanted, hgd]
  rw [if_pos hw]
  unfold Oper.wp execOp
  simp only [ho, resolve, invoke, builtin, Sem.run_bind, Sem.run_pure, Result.andThen_ok, List.map_toArray, List.map_cons, List.map_nil, hs, hx, hr]
  exact h
def ints (l : List Int) : List Value := l.map fun (x : Int) => Value.int .i64 x
def bools (l : List Bool) : List Value := l.map fun (x : Bool) => Value.bool x
theorem ints_get {l : List Int} {j : Nat} {a : Int} (h : l[j]? = some a) : (ints l)[j]? = some (.int .i64 a) := by simp [ints, h]
theorem bools_get {l : List Bool} {j : Nat} {b : Bool} (h : l[j]? = some b) : (bools l)[j]? = some (.bool b) := by simp [bools, h]
theorem row_cell {w : World} {B : Nat} {e : TypeId} {v : Value} {n j : Nat} {xs : List Value} {u : Value} (h : w.ownsRow B e 1 v n xs) (hj : xs[j]? = some u) : ∃ g cap, v = .slice (some ⟨g, 0, none⟩) n cap ∧ w.cell? ⟨g, j, none⟩ = some u ∧ w.frozen? ⟨g, j, none⟩ = false ∧ j < n := by
  have hl := h.1
  have hj' := get_lt hj
  rcases h.2 with ⟨_, h0⟩ | ⟨g, cap, cur, rfl, _, h2, _, _, _, h3⟩
  · omega
  · refine ⟨g, cap, rfl, ?_, by simp [World.frozen?, h2], by omega⟩
    rw [← h3, List.getElem?_take] at hj
    split at hj
    · simpa [World.cell?, h2] using hj
    · cases hj
theorem row_form {w : World} {B : Nat} {e : TypeId} {v : Value} {k n : Nat} {xs : List Value} (h : w.ownsRow B e k v n xs) : ∃ ao cap, v = .slice ao n cap := by
  rcases h.2 with ⟨h1, h0⟩ | ⟨g, cap, cur, h1, _⟩
  · exact ⟨none, 0, by rw [h0]; exact h1⟩
  · exact ⟨_, cap, h1⟩
/-- Numbers that lie somewhere. -/
def IntsAt (w : World) (v : Value) (l : List Int) : Prop :=
  ∃ ao cap, v = .slice ao l.length cap ∧ l.length ≤ 9223372036854775807 ∧ ∀ (j : Nat) (x : Int), l[j]? = some x → ∃ g o, ao = some ⟨g, o, none⟩ ∧ g < w.heap.size ∧ w.cell? ⟨g, o + j, none⟩ = some (.int .i64 x)
/-- Truths that lie somewhere. -/
def BoolsAt (w : World) (v : Value) (l : List Bool) : Prop :=
  ∃ ao cap, v = .slice ao l.length cap ∧ ∀ (j : Nat) (x : Bool), l[j]? = some x → ∃ g o, ao = some ⟨g, o, none⟩ ∧ g < w.heap.size ∧ w.cell? ⟨g, o + j, none⟩ = some (.bool x)
section
variable {w w' : World} {v : Value}
theorem keep_cell (hb : Below w.heap.size w w') {g o : Nat} (hg : g < w.heap.size) : w'.cell? ⟨g, o, none⟩ = w.cell? ⟨g, o, none⟩ := World.cell?_of_block (a := ⟨g, o, none⟩) (hb.block g hg)
theorem IntsAt.below {l : List Int} (R : IntsAt w v l) (hb : Below w.heap.size w w') : IntsAt w' v l := by
  obtain ⟨ao, cap, h1, hl, h2⟩ := R
  refine ⟨ao, cap, h1, hl, fun j x hx => ?_⟩
  obtain ⟨g, o, h4, h5, h6⟩ := h2 j x hx
  exact ⟨g, o, h4, Nat.lt_of_lt_of_le h5 hb.size, by rw [keep_cell hb h5]; exact h6⟩
theorem IntsAt.len {l : List Int} (R : IntsAt w v l) : l.length ≤ 9223372036854775807 := by
  obtain ⟨_, _, _, h, _⟩ := R
  exact h
theorem BoolsAt.below {l : List Bool} (R : BoolsAt w v l) (hb : Below w.heap.size w w') : BoolsAt w' v l := by
  obtain ⟨ao, cap, h1, h2⟩ := R
  refine ⟨ao, cap, h1, fun j x hx => ?_⟩
  obtain ⟨g, o, h4, h5, h6⟩ := h2 j x hx
  exact ⟨g, o, h4, Nat.lt_of_lt_of_le h5 hb.size, by rw [keep_cell hb h5]; exact h6⟩
theorem IntsAt.of_row {B : Nat} {l : List Int} (h : w.ownsRow B 3 1 v l.length (ints l)) (hl : l.length ≤ 9223372036854775807) : IntsAt w v l := by
  obtain ⟨ao, cap, hv⟩ := row_form h
  refine ⟨ao, cap, hv, hl, fun j x hx => ?_⟩
  obtain ⟨g, c, hv2, h2, h3, _⟩ := row_cell h (ints_get hx)
  rw [hv] at hv2; cases hv2
  exact ⟨g, 0, rfl, (h.lt g (by rw [hv]; rfl)).2, by rw [Nat.zero_add]; exact h2⟩
end
structure Kp (X : Nat → Prop) (w w' : World) : Prop where
  os : w'.os = w.os
  tape : w'.tape = w.tape
  output : w'.output = w.output
  size : w.heap.size ≤ w'.heap.size
  block : ∀ j, j < w.heap.size → ¬ X j → w'.heap[j]? = w.heap[j]?
section
variable {X Y : Nat → Prop} {w w' : World}
theorem Kp.refl (X : Nat → Prop) (w : World) : Kp X w w := ⟨rfl, rfl, rfl, Nat.le_refl _, fun _ _ _ => rfl⟩
theorem Kp.trans {a b c : World} (h : Kp X a b) (g : Kp X b c) : Kp X a c := ⟨g.os.trans h.os, g.tape.trans h.tape, g.output.trans h.output, Nat.le_trans h.size g.size, fun j hj hx => (g.block j (Nat.lt_of_lt_of_le hj h.size) hx).trans (h.block j hj hx)⟩
theorem Kp.of_below (h : Below w.heap.size w w') : Kp X w w' := ⟨h.os, h.tape, h.output, h.size, fun j hj _ => h.block j hj⟩
theorem Kp.mono (h : Kp X w w') (hs : ∀ j, X j → Y j) : Kp Y w w' := ⟨h.os, h.tape, h.output, h.size, fun j hj hy => h.block j hj (fun hx => hy (hs j hx))⟩
theorem Kp.below {B : Nat} {a : World} (hB : B ≤ a.heap.size) (hb : Below B a w) (h : Kp X w w') (hX : ∀ j, X j → B ≤ j) : Below B a w' := hb.trans ⟨h.os, h.tape, h.output, h.size, fun j hj => h.block j (Nat.lt_of_lt_of_le hj (Nat.le_trans hB hb.size)) (fun hx => by have := hX j hx; omega)⟩
theorem Kp.setCell (b o : Nat) (u : Value) : Kp (fun j => j = b) w (w.setCell ⟨b, o, none⟩ u) := ⟨rfl, rfl, rfl, by simp, fun j _ hx => Below.heap_setCell _ _ _ j hx⟩
theorem Kp.drew (h : Kp X w w') : Kp X w w'.drew := ⟨h.os, h.tape, h.output, h.size, h.block⟩
end
/-- One more number. -/
theorem run_appI {W : World} {C b m : Nat} {v : Value} {xs : List Value} {x : Int} (hown : W.ownsRow C 3 1 v m xs) (hb : W.heap[b]? = some (.cells #[.int .i64 x] 3 (0, 0))) (hlen : m < 1000000000) (hB : C ≤ W.heap.size) :
    ∃ g cap w', (Builtin.append_ #[23, 23] 23 #[v, .slice (some ⟨b, 0, none⟩) 1 1]).run Try.prog W = .ok (.slice (some ⟨g, 0, none⟩) (m + 1) cap) w' ∧
      w'.ownsRow C 3 1 (.slice (some ⟨g, 0, none⟩) (m + 1) cap) (m + 1) (xs ++ [.int .i64 x]) ∧ W.grownBy w' v.ownBlock ∧ (v.ownBlock = some g ∨ g = W.heap.size) ∧ g < w'.heap.size := by
  obtain ⟨i0, hi, hz0, hz1, hz2⟩ := info_parts Try.info3
  exact run_append_lies (P := Try.prog) W 23 23 C 3 i0 _ 1 8 Try.underlying23 hi hz0 hz1 hz2 rfl (by decide) v m xs hown ⟨b, 0, none⟩ 1 1 [.int .i64 x] rfl (World.news_of_block hb)
    (by intro u hu; simp at hu; rcases hu with rfl; rfl) (by decide) (by unfold maxLen; omega) (by omega) hB _ rfl
theorem row_type {w : World} {B : Nat} {e : TypeId} {v : Value} {m k : Nat} {xs : List Value} (h : w.ownsRow B e k v m xs) {g : Nat} (hg : v.ownBlock = some g) : ∃ cur, w.heap[g]? = some (.cells cur e (0, 0)) := by
  rcases h.2 with ⟨h1, _⟩ | ⟨g', cap, cur, h1, _, h2, _⟩
  · rw [h1] at hg; cases hg
  · rw [h1] at hg; cases hg; exact ⟨cur, h2⟩
/-- A list of one's own, made since w0. -/
structure Ow (w0 w : World) (vo : Value) (l : List Int) : Prop where
  r : w.ownsRow w0.heap.size 3 1 vo l.length (ints l)
  b : Below w0.heap.size w0 w
section
variable {w0 w : World} {vo : Value} {l : List Int}
theorem Ow.push (V : Ow w0 w vo l) (x : Int) (hl : l.length ≤ 100000) : ∃ g2 cap w', (Builtin.append_ #[23, 23] 23 #[vo, .slice (some ⟨w.heap.size, 0, none⟩) 1 1]).run Try.prog (w.alloc (.cells #[.int .i64 x] 3)) = .ok (.slice (some ⟨g2, 0, none⟩) (l.length + 1) cap) w' ∧ Ow w0 w' (.slice (some ⟨g2, 0, none⟩) (l.length + 1) cap) (l ++ [x]) := by
  have hB1 := (Below.refl w.heap.size w).alloc (Nat.le_refl _) (.cells #[.int .i64 x] 3)
  obtain ⟨g2, cap, w3, hr, hown, hgrow, _, _⟩ := run_appI (x := x) (ownsRow_keep V.r (fun h hh => hB1.block h (V.r.lt h hh).2)) (heap_new w (.cells #[.int .i64 x] 3) rfl) (by omega) (Nat.le_trans V.b.size hB1.size)
  refine ⟨g2, cap, w3, hr, ?_, ?_⟩
  · have e2 : ints (l ++ [x]) = ints l ++ [.int .i64 x] := by simp [ints]
    rw [e2]
    simp only [List.length_append, List.length_cons, List.length_nil]
    exact hown
  · refine ⟨hgrow.os.trans (hB1.os.trans V.b.os), hgrow.tape.trans (hB1.tape.trans V.b.tape), hgrow.output.trans (hB1.output.trans V.b.output), Nat.le_trans V.b.size (Nat.le_trans hB1.size hgrow.size), fun j hj => ?_⟩
    have hj2 := Nat.lt_of_lt_of_le hj V.b.size
    exact ((hgrow.block j (Nat.lt_of_lt_of_le hj2 hB1.size) (fun e => by have := (V.r.lt j e.symm).1; omega)).trans (hB1.block j hj2)).trans (V.b.block j hj)
end
theorem row_base {w : World} {B C k n : Nat} {e : TypeId} {v : Value} {xs : List Value} (h : w.ownsRow B e k v n xs) (hC : C ≤ B) : w.ownsRow C e k v n xs := by
  obtain ⟨h1, h2⟩ := h
  rcases h2 with h2 | ⟨g, cap, cur, e1, e2, e3⟩
  · exact ⟨h1, .inl h2⟩
  · exact ⟨h1, .inr ⟨g, cap, cur, e1, Nat.le_trans hC e2, e3⟩⟩
end Go.Proofs.Ytmkeahfdbmfajaa
