/- The writer's memory: where it lies, and what a call leaves as it was. -/
import Derived.Test.YtnkdlbiicfnmcaaCdM
import Derived.Test.YtnkdlbiicfnmcaaChecked
import Derived.WalkSpells
import Derived.WalkLawsBesides
import Derived.Handy
import Derived.Deep.Draws
import Derived.Deep.AppendLies
import Derived.Deep.QuietTactic
import Derived.BigQuiet
import Derived.Deep.RegionHeld3
import Derived.Deep.RegionLaw
import Derived.Deep.CutRange
import Derived.Deep.LoopGhost
import Derived.Lib.SliceRun
import Derived.Lib.AppendStr
namespace Go.Proofs.Ytnkdlbiicfnmcaa
open Go.RowKit

theorem hide {p : Prop} (h : p) : Hid p := h
theorem lt_of_block {w : World} {b : Nat} {o : Obj} (h : w.heap[b]? = some o) : b < w.heap.size := by
  rcases Nat.lt_or_ge b w.heap.size with h1 | h1
  · exact h1
  · rw [Array.getElem?_eq_none h1] at h; cases h
theorem get_lt {α : Type} {l : List α} {i : Nat} {x : α} (h : l[i]? = some x) : i < l.length := by
  rcases Nat.lt_or_ge i l.length with h1 | h1
  · exact h1
  · rw [List.getElem?_eq_none h1] at h; cases h
theorem heap_setCell_same (w : World) (b o : Nat) (u : Value) {c : Array Value} {t : TypeId} {f : Nat × Nat} (hb : w.heap[b]? = some (.cells c t f)) :
    (w.setCell ⟨b, o, none⟩ u).heap[b]? = some (.cells (c.setIfInBounds o u) t f) := by
  simp [World.setCell, Array.getElem?_modify, hb]
theorem heap_new (w : World) (o : Obj) {j : Nat} (h : j = w.heap.size) : (w.alloc o).heap[j]? = some o := by subst h; exact (MapKept.heap_alloc w o).1
theorem below_drewN {B : Nat} {a w : World} (h : Below B a w) (q : Nat) : Below B a (w.drewN q) := ⟨h.os, h.tape, h.output, h.size, h.block⟩
theorem below_drew {B : Nat} {a w : World} (h : Below B a w) : Below B a w.drew := ⟨h.os, h.tape, h.output, h.size, h.block⟩
theorem cell_of {w : World} {b o : Nat} {c : Array Value} {t : TypeId} {f : Nat × Nat} {u : Value} (h : w.heap[b]? = some (.cells c t f)) (hu : c[o]? = some u) : w.cell? ⟨b, o, none⟩ = some u := by simp [World.cell?, h, hu]
theorem Try.info5 : (Try.prog.info? 5).map (fun i => (i.zero, i.size, i.bytes)) = some (some (.int .u8 0), 1, 1) := by kernel_rfl
theorem ownsRow_keep {w w' : World} {base : Nat} {e : TypeId} {size : Nat} {v : Value} {n : Nat} {xs : List Value} (h : w.ownsRow base e size v n xs) (hk : ∀ g, v.ownBlock = some g → w'.heap[g]? = w.heap[g]?) : w'.ownsRow base e size v n xs := by
  refine ⟨h.1, ?_⟩
  rcases h.2 with h2 | ⟨g, cap, cur, rfl, h1, h2, h3⟩
  · exact .inl h2
  · exact .inr ⟨g, cap, cur, rfl, h1, (hk g rfl).trans h2, h3⟩
/-- An append whose run is known, at the list of a plain region's operations. -/
theorem wpList_append_eq {P : Program} {w : World} {ops : Array Oper} {rest : List Oper} {o : Oper} {a : Act} {Q : Exit → Act → World → Prop} (hgd : o.guard = none) (s x : Operand) (t t2 : TypeId)
    (ho : o.op = .call { callee := .builtin .append, args := #[s, x], argTypes := #[t, t2] }) {v1 v2 v : Value} {w' : World} (hs : a.eval s = v1) (hx : a.eval x = v2) (hr : (Builtin.append_ #[t, t2] o.type #[v1, v2]).run P w = .ok v w')
    (h : wpList P ops Q rest (a.put o.dst v) w') : wpList P ops Q (o :: rest) a w := by
  refine wpList_plain hgd fun _ hK => ?_
  unfold Oper.wp execOp
  simp only [ho, resolve, invoke, builtin, Sem.run_bind, Sem.run_pure, Result.andThen_ok, List.map_toArray, List.map_cons, List.map_nil, hs, hx, hr]
  exact hK _ _ h
/-- An append whose run is known, at a step of a region that draws its order. -/
theorem step_append_eq {P : Program} {w : World} {ops : Array Oper} {o : Oper} {a : Act} {K : Act → World → Prop} {Q : Exit → Act → World → Prop} {E : Prop} (hgd : o.guard = none) (s x : Operand) (t t2 : TypeId)
    (ho : o.op = .call { callee := .builtin .append, args := #[s, x], argTypes := #[t, t2] }) {v1 v2 v : Value} {w' : World} (hs : a.eval s = v1) (hx : a.eval x = v2) (hr : (Builtin.append_ #[t, t2] o.type #[v1, v2]).run P w = .ok v w')
    (h : K (a.put o.dst v) w') : if Region.wanted o (yielded ops a.tmps) = true then Oper.wp P o a w K Q else E := by
  have hw : Region.wanted o (yielded ops a.tmps) = true := by simp [Region.wanted, hgd]
  rw [if_pos hw]
  unfold Oper.wp execOp
  simp only [ho, resolve, invoke, builtin, Sem.run_bind, Sem.run_pure, Result.andThen_ok, List.map_toArray, List.map_cons, List.map_nil, hs, hx, hr]
  exact h

/-- Where a writer lies: from block B on; its own block, its bytes. -/
structure Wx where
  B : Nat
  A : Nat
  v : Value
abbrev Wx.p (X : Wx) : Value := .pointer (some ⟨X.A, 0, none⟩)
abbrev Wx.i (X : Wx) : Value := .iface 42 (.pointer (some ⟨X.A, 0, none⟩))
def Wx.own (X : Wx) (j : Nat) : Prop := j = X.A ∨ X.v.ownBlock = some j
/-- The writer at X has written these bytes. -/
structure Wl (X : Wx) (w : World) (out : By) : Prop where
  blk : w.heap[X.A]? = some (.cells #[X.v] 44 (0, 0))
  row : w.ownsRow X.B 5 1 X.v out.length (Lib.byteCells out)
  base : X.B ≤ X.A
  hB : X.B ≤ w.heap.size
section
variable {X : Wx} {w w' : World} {out : By}
theorem Wl.own_lt (L : Wl X w out) {j : Nat} (hj : X.own j) : X.B ≤ j ∧ j < w.heap.size := by
  rcases hj with rfl | hj
  · exact ⟨L.base, lt_of_block L.blk⟩
  · exact L.row.lt j hj
theorem Wl.keep (L : Wl X w out) (h : ∀ j, X.own j → w'.heap[j]? = w.heap[j]?) (hz : w.heap.size ≤ w'.heap.size) : Wl X w' out :=
  ⟨(h _ (.inl rfl)).trans L.blk, ownsRow_keep L.row fun g hg => h g (.inr hg), L.base, Nat.le_trans L.hB hz⟩
theorem Wl.below (L : Wl X w out) (hb : Below w.heap.size w w') : Wl X w' out := L.keep (fun j hj => hb.block j (L.own_lt hj).2) hb.size
theorem Wl.alloc (L : Wl X w out) (o : Obj) : Wl X (w.alloc o) out := L.keep (fun j hj => Below.heap_alloc w o j (L.own_lt hj).2) (by simp)
theorem Wl.drewN (L : Wl X w out) (q : Nat) : Wl X (w.drewN q) out := L.keep (fun _ _ => rfl) (Nat.le_refl _)
theorem Wl.drew (L : Wl X w out) : Wl X w.drew out := L.keep (fun _ _ => rfl) (Nat.le_refl _)
theorem Wl.c0 (L : Wl X w out) : w.cell? ⟨X.A, 0, none⟩ = some X.v := by simp [World.cell?, L.blk]
theorem Wl.fz (L : Wl X w out) (o : Nat) : w.frozen? ⟨X.A, o, none⟩ = false := by simp [World.frozen?, L.blk]
theorem Wl.lt (L : Wl X w out) : X.A < w.heap.size := lt_of_block L.blk
theorem row_form {base e n : Nat} {v : Value} {xs : List Value} {sz : Nat} (h : w.ownsRow base e sz v n xs) : ∃ a c, v = .slice a n c := by
  rcases h.2 with ⟨h1, h2⟩ | ⟨g, c, _, h1, _⟩
  · exact ⟨none, 0, by rw [h1, h2]⟩
  · exact ⟨_, c, h1⟩
/-- Blocks of other types are none of its own. -/
theorem Wl.apart (L : Wl X w out) {j : Nat} {c : Array Value} {t : TypeId} {f : Nat × Nat} (h : w.heap[j]? = some (.cells c t f)) (h1 : t ≠ 44) (h2 : t ≠ 5) : ¬ X.own j := by
  rintro (rfl | hj)
  · rw [L.blk] at h; cases h; exact h1 rfl
  · rcases L.row.2 with ⟨h3, _⟩ | ⟨g, cap, cur, h3, _, h5, _⟩
    · rw [h3] at hj; cases hj
    · rw [h3] at hj; cases hj; rw [h5] at h; cases h; exact h2 rfl
/-- What a call that writes leaves as it was. -/
structure Stp (X X' : Wx) (w w' : World) : Prop where
  A : X'.A = X.A
  B : X'.B = X.B
  os : w'.os = w.os
  tape : w'.tape = w.tape
  output : w'.output = w.output
  size : w.heap.size ≤ w'.heap.size
  block : ∀ j, j < w.heap.size → ¬ X.own j → w'.heap[j]? = w.heap[j]?
  own : ∀ j, X'.own j → X.own j ∨ w.heap.size ≤ j
theorem Stp.refl (X : Wx) (w : World) : Stp X X w w := ⟨rfl, rfl, rfl, rfl, rfl, Nat.le_refl _, fun _ _ _ => rfl, fun _ h => .inl h⟩
theorem Stp.of_below {X : Wx} (h : Below w.heap.size w w') : Stp X X w w' := ⟨rfl, rfl, h.os, h.tape, h.output, h.size, fun j hj _ => h.block j hj, fun _ h => .inl h⟩
theorem Stp.trans {X Y Z : Wx} {a b c : World} (h : Stp X Y a b) (g : Stp Y Z b c) : Stp X Z a c := by
  refine ⟨g.A.trans h.A, g.B.trans h.B, g.os.trans h.os, g.tape.trans h.tape, g.output.trans h.output, Nat.le_trans h.size g.size, fun j hj hn => ?_, fun j hj => ?_⟩
  · refine (g.block j (Nat.lt_of_lt_of_le hj h.size) (fun hy => ?_)).trans (h.block j hj hn)
    rcases h.own j hy with h1 | h1
    · exact hn h1
    · omega
  · rcases g.own j hj with h1 | h1
    · exact h.own j h1
    · exact .inr (Nat.le_trans h.size h1)
theorem Stp.below {X' : Wx} (h : Stp X X' w w') (L : Wl X w out) {w0 : World} (hb : Below X.B w0 w) : Below X.B w0 w' :=
  hb.trans ⟨h.os, h.tape, h.output, h.size, fun j hj => h.block j (Nat.lt_of_lt_of_le hj L.hB) (fun hy => by have := (L.own_lt hy).1; omega)⟩
theorem Stp.box {X' : Wx} (h : Stp X X' w w') (L : Wl X w out) {j : Nat} {c : Array Value} {t : TypeId} {f : Nat × Nat} (hj : w.heap[j]? = some (.cells c t f)) (h1 : t ≠ 44) (h2 : t ≠ 5) : w'.heap[j]? = some (.cells c t f) :=
  (h.block j (lt_of_block hj) (L.apart hj h1 h2)).trans hj
/-- The bytes' slice is changed. -/
theorem Wl.put (L : Wl X w out) {w1 : World} {v : Value} {out' : By} (hrow : w1.ownsRow X.B 5 1 v out'.length (Lib.byteCells out')) (hg : w.grownBy w1 X.v.ownBlock) (hat : v.ownBlock = X.v.ownBlock ∨ ∀ g, v.ownBlock = some g → w.heap.size ≤ g) :
    Wl { X with v := v } (w1.setCell ⟨X.A, 0, none⟩ v) out' ∧ Stp X { X with v := v } w (w1.setCell ⟨X.A, 0, none⟩ v) := by
  have hnA : X.v.ownBlock ≠ some X.A := fun e => by
    rcases L.row.2 with ⟨h3, _⟩ | ⟨g, cap, cur, h3, _, h5, _⟩
    · rw [h3] at e; cases e
    · rw [h3] at e; cases e; have h6 := L.blk; rw [h5] at h6; simp at h6
  have hlt := L.lt
  have hb1 : w1.heap[X.A]? = some (.cells #[X.v] 44 (0, 0)) := by rw [hg.block X.A hlt (fun e => hnA e.symm)]; exact L.blk
  have hvA : ∀ g, v.ownBlock = some g → g ≠ X.A := fun g hgg e => by
    subst e
    rcases hat with h1 | h1
    · rw [h1] at hgg; exact hnA hgg
    · have := h1 _ hgg; omega
  have hz : w.heap.size ≤ w1.heap.size := hg.size
  refine ⟨⟨?_, ?_, L.base, by rw [World.size_setCell]; exact Nat.le_trans L.hB hz⟩, ⟨rfl, rfl, hg.os, hg.tape, hg.output, by rw [World.size_setCell]; exact hz, fun j hj hn => ?_, fun j hj => ?_⟩⟩
  · have := heap_setCell_same w1 X.A 0 v hb1
    simpa using this
  · exact ownsRow_keep hrow fun g hgg => Below.heap_setCell w1 _ _ g (hvA g hgg)
  · rw [Below.heap_setCell w1 _ _ j (fun e => hn (.inl e))]
    exact hg.block j hj (fun e => hn (.inr e.symm))
  · rcases hj with h1 | h1
    · exact .inl (.inl h1)
    · have h1' : v.ownBlock = some j := h1
      rcases hat with h2 | h2
      · rw [h2] at h1'; exact .inl (.inr h1')
      · exact .inr (h2 j h1')
end
end Go.Proofs.Ytnkdlbiicfnmcaa
