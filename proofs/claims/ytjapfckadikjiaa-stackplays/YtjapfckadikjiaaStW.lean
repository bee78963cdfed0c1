/- The stack's memory: where it lies, and what a call leaves as it was. -/
import Derived.Test.YtjapfckadikjiaaStM
import Derived.Test.YtjapfckadikjiaaChecked
import Derived.WalkSpells
import Derived.WalkLawsBesides
import Derived.Deep.Draws
import Derived.Deep.AppendLies
import Derived.Deep.QuietTactic
import Derived.BigQuiet
import Derived.Deep.RegionHeld3
import Derived.Deep.RegionLaw
import Derived.Deep.CutRange
import Derived.Deep.LoopGhost
import Derived.Lib.SliceRun
namespace Go.Proofs.Ytjapfckadikjiaa
open Go.RowKit

theorem hide {p : Prop} (h : p) : Hid p := h
theorem lt_of_block {w : World} {b : Nat} {o : Obj} (h : w.heap[b]? = some o) : b < w.heap.size := by
  rcases Nat.lt_or_ge b w.heap.size with h1 | h1
  · exact h1
  · rw [Array.getElem?_eq_none h1] at h; cases h
theorem heap_setCell_same (w : World) (b o : Nat) (u : Value) {c : Array Value} {t : TypeId} {f : Nat × Nat} (hb : w.heap[b]? = some (.cells c t f)) :
    (w.setCell ⟨b, o, none⟩ u).heap[b]? = some (.cells (c.setIfInBounds o u) t f) := by
  simp [World.setCell, Array.getElem?_modify, hb]
theorem heap_new (w : World) (o : Obj) {j : Nat} (h : j = w.heap.size) : (w.alloc o).heap[j]? = some o := by subst h; exact (MapKept.heap_alloc w o).1
theorem below_drewN {B : Nat} {a w : World} (h : Below B a w) (q : Nat) : Below B a (w.drewN q) := ⟨h.os, h.tape, h.output, h.size, h.block⟩
theorem Try.info3 : (Try.prog.info? 3).map (fun i => (i.zero, i.size, i.bytes)) = some (some (.int .i64 0), 1, 8) := by kernel_rfl
theorem Try.info65 : (Try.prog.info? 65).map (fun i => (i.zero, i.size, i.bytes)) = some (some (.agg #[.int .i64 0, .bool false]), 2, 16) := by kernel_rfl
theorem ownsRow_keep {w w' : World} {base : Nat} {e : TypeId} {size : Nat} {v : Value} {n : Nat} {xs : List Value} (h : w.ownsRow base e size v n xs) (hk : ∀ g, v.ownBlock = some g → w'.heap[g]? = w.heap[g]?) : w'.ownsRow base e size v n xs := by
  refine ⟨h.1, ?_⟩
  rcases h.2 with h2 | ⟨g, cap, cur, rfl, h1, h2, h3⟩
  · exact .inl h2
  · exact .inr ⟨g, cap, cur, rfl, h1, (hk g rfl).trans h2, h3⟩
/-- An append whose run is known, at the list of a plain region's operations. -/
theorem wpList_append_eq {P : Program} {w : World} {ops : Array Oper} {rest : List Oper} {o : Oper} {a : Act} {Q : Exit → Act → World → Prop} (hgd : o.guard = none) (s x : Operand) (t : TypeId)
    (ho : o.op = .call { callee := .builtin .append, args := #[s, x], argTypes := #[t, t] }) {v1 v2 v : Value} {w' : World} (hs : a.eval s = v1) (hx : a.eval x = v2) (hr : (Builtin.append_ #[t, t] o.type #[v1, v2]).run P w = .ok v w')
    (h : wpList P ops Q rest (a.put o.dst v) w') : wpList P ops Q (o :: rest) a w := by
  refine wpList_plain hgd fun _ hK => ?_
  unfold Oper.wp execOp
  simp only [ho, resolve, invoke, builtin, Sem.run_bind, Sem.run_pure, Result.andThen_ok, List.map_toArray, List.map_cons, List.map_nil, hs, hx, hr]
  exact hK _ _ h
/-- An append whose run is known, at a step of a region that draws its order. -/
theorem step_append_eq {P : Program} {w : World} {ops : Array Oper} {o : Oper} {a : Act} {K : Act → World → Prop} {Q : Exit → Act → World → Prop} {E : Prop} (hgd : o.guard = none) (s x : Operand) (t : TypeId)
    (ho : o.op = .call { callee := .builtin .append, args := #[s, x], argTypes := #[t, t] }) {v1 v2 v : Value} {w' : World} (hs : a.eval s = v1) (hx : a.eval x = v2) (hr : (Builtin.append_ #[t, t] o.type #[v1, v2]).run P w = .ok v w')
    (h : K (a.put o.dst v) w') : if Region.wanted o (yielded ops a.tmps) = true then Oper.wp P o a w K Q else E := by
  have hw : Region.wanted o (yielded ops a.tmps) = true := by simp [Region.wanted, hgd]
  rw [if_pos hw]
  unfold Oper.wp execOp
  simp only [ho, resolve, invoke, builtin, Sem.run_bind, Sem.run_pure, Result.andThen_ok, List.map_toArray, List.map_cons, List.map_nil, hs, hx, hr]
  exact h
def ints (l : List Int) : List Value := l.map fun (x : Int) => Value.int .i64 x
def addrs (l : List Nat) : List Value := l.map fun (x : Nat) => Value.int .i64 (x : Int)
abbrev two (p : Int × Int) : Ending := .returned (.tuple #[.int .i64 p.1, .int .i64 p.2])
def wcells : List Wo → List Value
  | [] => []
  | u :: r => .int .i64 u.v :: .bool u.p :: wcells r
theorem wcells_length : ∀ l : List Wo, (wcells l).length = l.length * 2
  | [] => rfl
  | u :: r => by simp [wcells, wcells_length r]; omega
theorem wcells_append : ∀ l m : List Wo, wcells (l ++ m) = wcells l ++ wcells m
  | [], _ => rfl
  | u :: r, m => by simp [wcells, wcells_append r m]
theorem wcells_get : ∀ {l : List Wo} {i : Nat} {u : Wo}, l[i]? = some u → (wcells l)[i * 2]? = some (.int .i64 u.v) ∧ (wcells l)[i * 2 + 1]? = some (.bool u.p)
  | [], i, u, h => by simp at h
  | q :: r, 0, u, h => by simp at h; subst h; exact ⟨rfl, rfl⟩
  | q :: r, i + 1, u, h => by
    have := wcells_get (l := r) (i := i) (u := u) (by simpa using h)
    rw [show (i + 1) * 2 = i * 2 + 1 + 1 from by omega]
    simpa [wcells] using this
theorem wcells_set : ∀ {l : List Wo} {i : Nat} {u u' : Wo}, l[i]? = some u → u'.p = u.p → wcells (l.set i u') = (wcells l).set (i * 2) (.int .i64 u'.v)
  | [], i, u, u', h, _ => by simp at h
  | q :: r, 0, u, u', h, hp => by simp at h; subst h; simp [wcells, hp]
  | q :: r, i + 1, u, u', h, hp => by
    have := wcells_set (l := r) (i := i) (u := u) (u' := u') (by simpa using h) hp
    rw [show (i + 1) * 2 = i * 2 + 1 + 1 from by omega]
    simp [wcells, this]
theorem wcells_take : ∀ (l : List Wo) (n : Nat), wcells (l.take n) = (wcells l).take (n * 2)
  | [], n => by simp [wcells]
  | u :: r, 0 => by simp [wcells]
  | u :: r, n + 1 => by
    rw [show (n + 1) * 2 = n * 2 + 1 + 1 from by omega]
    simp [wcells, wcells_take r n]

/-- Where a stack lies: from block B on; its own block, its words, its frames' beginnings. -/
structure Sx where
  B : Nat
  A : Nat
  vw : Value
  vs : Value
abbrev Sx.p (X : Sx) : Value := .pointer (some ⟨X.A, 0, none⟩)
def Sx.own (X : Sx) (j : Nat) : Prop := j = X.A ∨ X.vw.ownBlock = some j ∨ X.vs.ownBlock = some j
/-- The stack s lies at X in w. -/
structure Sl (X : Sx) (w : World) (s : Sk) : Prop where
  blk : w.heap[X.A]? = some (.cells #[.int .i64 s.base, .int .i64 s.most, X.vw, X.vs] 63 (0, 0))
  wds : w.ownsRow X.B 65 2 X.vw s.ws.length (wcells s.ws)
  sts : w.ownsRow X.B 3 1 X.vs s.fr.length (addrs (sta 0 s.fr))
  base : X.B ≤ X.A
  hB : X.B ≤ w.heap.size

section
variable {X : Sx} {w w' : World} {s : Sk}
theorem Sl.keep (L : Sl X w s) (h : ∀ j, X.own j → w'.heap[j]? = w.heap[j]?) (hz : w.heap.size ≤ w'.heap.size) : Sl X w' s :=
  ⟨(h _ (.inl rfl)).trans L.blk, ownsRow_keep L.wds fun g hg => h g (.inr (.inl hg)), ownsRow_keep L.sts fun g hg => h g (.inr (.inr hg)), L.base, Nat.le_trans L.hB hz⟩
theorem Sl.own_lt (L : Sl X w s) {j : Nat} (hj : X.own j) : X.B ≤ j ∧ j < w.heap.size := by
  rcases hj with rfl | hj | hj
  · exact ⟨L.base, lt_of_block L.blk⟩
  · exact L.wds.lt j hj
  · exact L.sts.lt j hj
theorem Sl.below (L : Sl X w s) (hb : Below w.heap.size w w') : Sl X w' s := L.keep (fun j hj => hb.block j (L.own_lt hj).2) hb.size
theorem Sl.alloc (L : Sl X w s) (o : Obj) : Sl X (w.alloc o) s := L.keep (fun j hj => Below.heap_alloc w o j (L.own_lt hj).2) (by simp)
theorem Sl.drewN (L : Sl X w s) (q : Nat) : Sl X (w.drewN q) s := L.keep (fun _ _ => rfl) (Nat.le_refl _)
theorem Sl.drew (L : Sl X w s) : Sl X w.drew s := L.keep (fun _ _ => rfl) (Nat.le_refl _)
theorem Sl.c0 (L : Sl X w s) : w.cell? ⟨X.A, 0, none⟩ = some (.int .i64 s.base) := by simp [World.cell?, L.blk]
theorem Sl.c1 (L : Sl X w s) : w.cell? ⟨X.A, 1, none⟩ = some (.int .i64 s.most) := by simp [World.cell?, L.blk]
theorem Sl.c2 (L : Sl X w s) : w.cell? ⟨X.A, 2, none⟩ = some X.vw := by simp [World.cell?, L.blk]
theorem Sl.c3 (L : Sl X w s) : w.cell? ⟨X.A, 3, none⟩ = some X.vs := by simp [World.cell?, L.blk]
theorem Sl.fz (L : Sl X w s) (o : Nat) : w.frozen? ⟨X.A, o, none⟩ = false := by simp [World.frozen?, L.blk]
/-- The words' slice: nil, or a row of its own. -/
theorem Sl.wform (L : Sl X w s) : (s.ws = [] ∧ X.vw = .slice none 0 0) ∨ ∃ g cap cur, X.vw = .slice (some ⟨g, 0, none⟩) s.ws.length cap ∧ w.heap[g]? = some (.cells cur 65 (0, 0)) ∧ cur.toList.take (s.ws.length * 2) = wcells s.ws ∧ s.ws.length ≤ cap ∧ cur.size = cap * 2 ∧ X.B ≤ g ∧ cap ≤ maxLen := by
  rcases L.wds.2 with ⟨h1, h2⟩ | ⟨g, cap, cur, h1, h5, h2, h3, h6, h7, h4⟩
  · exact .inl ⟨List.eq_nil_of_length_eq_zero h2, h1⟩
  · exact .inr ⟨g, cap, cur, h1, h2, h4, h3, h7, h5, h6⟩
theorem Sl.sform (L : Sl X w s) : (s.fr = [] ∧ X.vs = .slice none 0 0) ∨ ∃ g cap cur, X.vs = .slice (some ⟨g, 0, none⟩) s.fr.length cap ∧ w.heap[g]? = some (.cells cur 3 (0, 0)) ∧ cur.toList.take (s.fr.length) = addrs (sta 0 s.fr) ∧ s.fr.length ≤ cap ∧ cur.size = cap ∧ X.B ≤ g ∧ cap ≤ maxLen := by
  rcases L.sts.2 with ⟨h1, h2⟩ | ⟨g, cap, cur, h1, h5, h2, h3, h6, h7, h4⟩
  · exact .inl ⟨List.eq_nil_of_length_eq_zero h2, h1⟩
  · exact .inr ⟨g, cap, cur, h1, h2, by simpa using h4, h3, by simpa using h7, h5, h6⟩
theorem Sl.wlen (L : Sl X w s) : ∃ ao cap, X.vw = .slice ao s.ws.length cap := by
  rcases L.wform with ⟨h1, h2⟩ | ⟨g, cap, _, h1, _⟩
  · exact ⟨none, 0, by rw [h2, h1]; rfl⟩
  · exact ⟨_, cap, h1⟩
theorem Sl.slen (L : Sl X w s) : ∃ ao cap, X.vs = .slice ao s.fr.length cap := by
  rcases L.sform with ⟨h1, h2⟩ | ⟨g, cap, _, h1, _⟩
  · exact ⟨none, 0, by rw [h2, h1]; rfl⟩
  · exact ⟨_, cap, h1⟩
/-- A word's cells. -/
theorem Sl.word (L : Sl X w s) {i : Nat} {u : Wo} (hu : s.ws[i]? = some u) : ∃ g cap, X.vw = .slice (some ⟨g, 0, none⟩) s.ws.length cap ∧ w.cell? ⟨g, i * 2, none⟩ = some (.int .i64 u.v) ∧ w.cell? ⟨g, i * 2 + 1, none⟩ = some (.bool u.p) ∧ (∀ o, w.frozen? ⟨g, o, none⟩ = false) := by
  rcases L.wform with ⟨h1, _⟩ | ⟨g, cap, cur, h1, h2, h3, _⟩
  · rw [h1] at hu; simp at hu
  · obtain ⟨e1, e2⟩ := wcells_get hu
    rw [← h3, List.getElem?_take] at e1 e2
    refine ⟨g, cap, h1, ?_, ?_, fun o => by simp [World.frozen?, h2]⟩
    · split at e1
      · simpa [World.cell?, h2] using e1
      · cases e1
    · split at e2
      · simpa [World.cell?, h2] using e2
      · cases e2
/-- A frame's beginning. -/
theorem Sl.start (L : Sl X w s) {i : Nat} (hi : i < s.fr.length) : ∃ g cap, X.vs = .slice (some ⟨g, 0, none⟩) s.fr.length cap ∧ w.cell? ⟨g, i, none⟩ = some (.int .i64 (pre s.fr i : Int)) := by
  rcases L.sform with ⟨h1, _⟩ | ⟨g, cap, cur, h1, h2, h3, _⟩
  · rw [h1] at hi; simp at hi
  · have e1 : (addrs (sta 0 s.fr))[i]? = some (.int .i64 (pre s.fr i : Int)) := by
      unfold addrs
      rw [List.getElem?_map, sta_get 0 hi]; simp
    rw [← h3, List.getElem?_take, if_pos hi] at e1
    exact ⟨g, cap, h1, by simpa [World.cell?, h2] using e1⟩
/-- What a call that changes the stack leaves as it was. -/
structure Stp (X X' : Sx) (w w' : World) : Prop where
  A : X'.A = X.A
  B : X'.B = X.B
  os : w'.os = w.os
  tape : w'.tape = w.tape
  output : w'.output = w.output
  size : w.heap.size ≤ w'.heap.size
  block : ∀ j, j < w.heap.size → ¬ X.own j → w'.heap[j]? = w.heap[j]?
  own : ∀ j, X'.own j → X.own j ∨ w.heap.size ≤ j
theorem Stp.refl (X : Sx) (w : World) : Stp X X w w := ⟨rfl, rfl, rfl, rfl, rfl, Nat.le_refl _, fun _ _ _ => rfl, fun _ h => .inl h⟩
theorem Stp.of_below {X : Sx} (h : Below w.heap.size w w') : Stp X X w w' := ⟨rfl, rfl, h.os, h.tape, h.output, h.size, fun j hj _ => h.block j hj, fun _ h => .inl h⟩
theorem Stp.trans {X Y Z : Sx} {a b c : World} (h : Stp X Y a b) (g : Stp Y Z b c) : Stp X Z a c := by
  refine ⟨g.A.trans h.A, g.B.trans h.B, g.os.trans h.os, g.tape.trans h.tape, g.output.trans h.output, Nat.le_trans h.size g.size, fun j hj hn => ?_, fun j hj => ?_⟩
  · refine (g.block j (Nat.lt_of_lt_of_le hj h.size) (fun hy => ?_)).trans (h.block j hj hn)
    rcases h.own j hy with h1 | h1
    · exact hn h1
    · omega
  · rcases g.own j hj with h1 | h1
    · exact h.own j h1
    · exact .inr (Nat.le_trans h.size h1)
theorem Stp.below {X' : Sx} (h : Stp X X' w w') (L : Sl X w s) {w0 : World} (hb : Below X.B w0 w) : Below X.B w0 w' :=
  hb.trans ⟨h.os, h.tape, h.output, h.size, fun j hj => h.block j (Nat.lt_of_lt_of_le hj L.hB) (fun hy => by have := (L.own_lt hy).1; omega)⟩
/-- A word is set. -/
theorem Sl.putW (L : Sl X w s) {g cap i : Nat} {u u' : Wo} (hv : X.vw = .slice (some ⟨g, 0, none⟩) s.ws.length cap) (hu : s.ws[i]? = some u) (hp : u'.p = u.p) {s' : Sk} (hb : s'.base = s.base) (hm : s'.most = s.most) (hw : s'.ws = s.ws.set i u') (hst : sta 0 s'.fr = sta 0 s.fr) :
    Sl X (w.setCell ⟨g, i * 2, none⟩ (.int .i64 u'.v)) s' ∧ Stp X X w (w.setCell ⟨g, i * 2, none⟩ (.int .i64 u'.v)) := by
  have hlen : s'.fr.length = s.fr.length := by rw [← sta_length 0 s'.fr, hst, sta_length]
  have hi := get_lt hu
  rcases L.wform with ⟨h1, _⟩ | ⟨g', cap', cur, h1, h2, h3, h4, h5, h6, h7⟩
  · rw [h1] at hu; simp at hu
  · rw [hv] at h1; cases h1
    have hA : X.A ≠ g := fun e => by have h8 := L.blk; rw [e, h2] at h8; simp at h8
    have hS : X.vs.ownBlock ≠ some g := fun e => by
      rcases L.sform with ⟨_, h8⟩ | ⟨g2, c2, cur2, h8, h9, _⟩
      · rw [h8] at e; cases e
      · rw [h8] at e; cases e; rw [h2] at h9; simp at h9
    have hr : ∀ j, j ≠ g → (w.setCell ⟨g, i * 2, none⟩ (.int .i64 u'.v)).heap[j]? = w.heap[j]? := fun j hj => Below.heap_setCell w _ _ j hj
    refine ⟨⟨?_, ?_, ?_, L.base, by rw [World.size_setCell]; exact L.hB⟩, ⟨rfl, rfl, rfl, rfl, rfl, by simp, fun j _ hn => hr j (fun e => hn (.inr (.inl (by rw [e, hv]; rfl)))), fun j hj => .inl hj⟩⟩
    · rw [hr _ hA, hb, hm]; exact L.blk
    · have hl : s'.ws.length = s.ws.length := by rw [hw]; simp
      refine ⟨by rw [wcells_length], .inr ⟨g, cap, cur.setIfInBounds (i * 2) (.int .i64 u'.v), by rw [hl]; exact hv, h6, heap_setCell_same w g _ _ h2, by omega, h7, by simpa using h5, ?_⟩⟩
      rw [hl, hw, wcells_set hu hp, ← h3, Array.toList_setIfInBounds, List.take_set]
    · rw [hst, hlen]
      exact ownsRow_keep L.sts fun g2 hg2 => hr g2 (fun e => hS (e ▸ hg2))
end
end Go.Proofs.Ytjapfckadikjiaa
