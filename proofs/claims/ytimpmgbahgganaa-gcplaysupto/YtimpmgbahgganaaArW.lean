/- The arena's memory: where it lies, and what a call leaves as it was. -/
import Derived.Test.YtimpmgbahgganaaArM
import Derived.Test.YtimpmgbahgganaaChecked
import Derived.WalkSpells
import Derived.WalkLawsBesides
import Derived.Deep.Draws
import Derived.Deep.AppendLies
import Derived.Maps.OwnSet
import Derived.Lib.SliceRun
namespace Go.Proofs.Ytimpmgbahgganaa
open Go.RowKit Go.Maps

theorem hide {p : Prop} (h : p) : Hid p := h
theorem lt_of_block {w : World} {b : Nat} {o : Obj} (h : w.heap[b]? = some o) : b < w.heap.size := by
  rcases Nat.lt_or_ge b w.heap.size with h1 | h1
  · exact h1
  · rw [Array.getElem?_eq_none h1] at h; cases h
theorem heap_setCell_same (w : World) (b o : Nat) (u : Value) {c : Array Value} {t : TypeId} {f : Nat × Nat} (hb : w.heap[b]? = some (.cells c t f)) :
    (w.setCell ⟨b, o, none⟩ u).heap[b]? = some (.cells (c.setIfInBounds o u) t f) := by
  simp [World.setCell, Array.getElem?_modify, hb]

theorem below_drewN {B : Nat} {a w : World} (h : Below B a w) (q : Nat) : Below B a (w.drewN q) := ⟨h.os, h.tape, h.output, h.size, h.block⟩
theorem Try.info3 : (Try.prog.info? 3).map (fun i => (i.zero, i.size, i.bytes)) = some (some (.int .i64 0), 1, 8) := by kernel_rfl
theorem Try.info114 : (Try.prog.info? 114).map (fun i => (i.zero, i.size, i.bytes)) = some (some (.agg #[.int .i64 0, .int .i64 0]), 2, 16) := by kernel_rfl
/-- How a map's element reads here: as itself. -/
def heldR (v : Value) : Option (DataW Value × List MemPlace) := some (.held v, [])
theorem backs_keyed : Keyed Try.prog 3 := int_keyed Try.underlying3
theorem key_int (c : Nat) (h : c ≤ 65536) : keyOf Try.prog 3 (.int .i64 c) = some (.int .i64 c) := keyOf_int_mk Try.underlying3 (WalkArith.wf_i64 (by omega))
theorem zero_ints (w : World) : (zeroValue 31).run Try.prog w = .ok (.slice none 0 0) w := Try.zeroValue31 w

/-- Where an arena lies: from block B on; its own block, its words' block, its pieces, its map's block, what that holds. -/
structure Wh where
  B : Nat
  A : Nat
  bw : Nat
  vp : Value
  bm : Nat
  f : Nat → Value
abbrev Wh.p (X : Wh) : Value := .pointer (some ⟨X.A, 0, none⟩)
/-- The blocks that are the arena's. -/
def Wh.own (X : Wh) (j : Nat) : Prop := j = X.A ∨ j = X.bw ∨ j = X.bm ∨ X.vp.ownBlock = some j ∨ ∃ c, (X.f c).ownBlock = some j
def pcells : List Pc → List Value
  | [] => []
  | p :: r => .int .i64 p.a :: .int .i64 p.n :: pcells r
theorem pcells_length : ∀ ps : List Pc, (pcells ps).length = ps.length * 2
  | [] => rfl
  | p :: r => by simp [pcells, pcells_length r]; omega
theorem pcells_append : ∀ ps qs : List Pc, pcells (ps ++ qs) = pcells ps ++ pcells qs
  | [], _ => rfl
  | p :: r, qs => by simp [pcells, pcells_append r qs]
theorem pcells_get : ∀ {ps : List Pc} {i : Nat} {p : Pc}, ps[i]? = some p → (pcells ps)[i * 2]? = some (.int .i64 p.a) ∧ (pcells ps)[i * 2 + 1]? = some (.int .i64 p.n)
  | [], i, p, h => by simp at h
  | q :: r, 0, p, h => by simp at h; subst h; exact ⟨rfl, rfl⟩
  | q :: r, i + 1, p, h => by
    have := pcells_get (ps := r) (i := i) (p := p) (by simpa using h)
    rw [show (i + 1) * 2 = i * 2 + 1 + 1 from by omega]
    simpa [pcells] using this
theorem pcells_mark : ∀ {ps : List Pc} {i : Nat} (n : Nat), i < ps.length → pcells (mark ps i n) = (pcells ps).set (i * 2 + 1) (.int .i64 n)
  | [], i, n, h => by simp at h
  | q :: r, 0, n, h => by simp [mark, pcells]
  | q :: r, i + 1, n, h => by
    have h1 := pcells_mark (ps := r) (i := i) n (by simpa using h)
    rw [show (i + 1) * 2 + 1 = i * 2 + 1 + 1 + 1 from by omega]
    unfold mark at *
    simp [pcells, h1]
def addrs (l : List Nat) : List Value := l.map fun (x : Nat) => Value.int .i64 (x : Int)
def ints (l : List Int) : List Value := l.map fun (x : Int) => Value.int .i64 x

/-- The arena s lies at X in w; k: so much has been done with it at most. -/
structure Lies (X : Wh) (w : World) (s : As) (k : Nat) : Prop where
  blk : w.heap[X.A]? = some (.cells #[.slice (some ⟨X.bw, 0, none⟩) s.ws.length s.ws.length, .int .i64 s.gv, X.vp, .map (some X.bm)] 108 (0, 0))
  wds : w.heap[X.bw]? = some (.cells (ints s.ws).toArray 3 (0, 0))
  pcs : w.ownsRow X.B 114 2 X.vp s.ps.length (pcells s.ps)
  map : ∃ D, w.ownsMap (H := Value) Try.prog 3 heldR X.bm k D ∧ ∀ c : Nat, D.atKey (.int .i64 c) (.held (.slice none 0 0)) = .held (X.f c)
  rows : ∀ c, w.ownsRow X.B 3 1 (X.f c) (s.bk c).length (addrs (s.bk c))
  apart : ∀ c, (X.f c).ownBlock ≠ some X.bw
  apart2 : ∀ c d, c ≠ d → (X.f c).ownBlock = none ∨ (X.f c).ownBlock ≠ (X.f d).ownBlock
  base : X.B ≤ X.A ∧ X.B ≤ X.bw ∧ X.B ≤ X.bm
  lens : ∀ c, (s.bk c).length ≤ k
  hB : X.B ≤ w.heap.size

section
variable {X : Wh} {w w' : World} {s : As} {k : Nat}
theorem ownsRow_keep {base : Nat} {e : TypeId} {size : Nat} {v : Value} {n : Nat} {xs : List Value} (h : w.ownsRow base e size v n xs) (hk : ∀ g, v.ownBlock = some g → w'.heap[g]? = w.heap[g]?) : w'.ownsRow base e size v n xs := by
  refine ⟨h.1, ?_⟩
  rcases h.2 with h2 | ⟨g, cap, cur, rfl, h1, h2, h3⟩
  · exact .inl h2
  · exact .inr ⟨g, cap, cur, rfl, h1, (hk g rfl).trans h2, h3⟩
/-- The arena lies as it lay where its blocks do. -/
theorem Lies.keep (L : Lies X w s k) (h : ∀ j, X.own j → w'.heap[j]? = w.heap[j]?) (hz : w.heap.size ≤ w'.heap.size) : Lies X w' s k := by
  refine ⟨(h _ (.inl rfl)).trans L.blk, (h _ (.inr (.inl rfl))).trans L.wds, ownsRow_keep L.pcs fun g hg => h g (.inr (.inr (.inr (.inl hg)))), ?_, fun c => ownsRow_keep (L.rows c) fun g hg => h g (.inr (.inr (.inr (.inr ⟨c, hg⟩)))), L.apart, L.apart2, L.base, L.lens, Nat.le_trans L.hB hz⟩
  obtain ⟨D, ⟨es, clock, h1, h2⟩, h3⟩ := L.map
  exact ⟨D, ⟨es, clock, (h _ (.inr (.inr (.inl rfl)))).trans h1, h2⟩, h3⟩
theorem Lies.own_lt (L : Lies X w s k) {j : Nat} (hj : X.own j) : X.B ≤ j ∧ j < w.heap.size := by
  rcases hj with rfl | rfl | rfl | hj | ⟨c, hj⟩
  · exact ⟨L.base.1, lt_of_block L.blk⟩
  · exact ⟨L.base.2.1, lt_of_block L.wds⟩
  · obtain ⟨D, ⟨es, clock, h1, _⟩, _⟩ := L.map
    exact ⟨L.base.2.2, lt_of_block h1⟩
  · exact L.pcs.lt j hj
  · exact (L.rows c).lt j hj
theorem Lies.below (L : Lies X w s k) (hb : Below w.heap.size w w') : Lies X w' s k := L.keep (fun j hj => hb.block j (L.own_lt hj).2) hb.size
theorem Lies.alloc (L : Lies X w s k) (o : Obj) : Lies X (w.alloc o) s k := L.keep (fun j hj => Below.heap_alloc w o j (L.own_lt hj).2) (by simp)
theorem Lies.drew (L : Lies X w s k) : Lies X w.drew s k := L.keep (fun _ _ => rfl) (Nat.le_refl _)
theorem Lies.mono (L : Lies X w s k) {k' : Nat} (h : k ≤ k') : Lies X w s k' := by
  refine ⟨L.blk, L.wds, L.pcs, ?_, L.rows, L.apart, L.apart2, L.base, fun c => Nat.le_trans (L.lens c) h, L.hB⟩
  obtain ⟨D, h1, h2⟩ := L.map
  exact ⟨D, h1.mono h, h2⟩
theorem Lies.c0 (L : Lies X w s k) : w.cell? ⟨X.A, 0, none⟩ = some (.slice (some ⟨X.bw, 0, none⟩) s.ws.length s.ws.length) := by simp [World.cell?, L.blk]
theorem Lies.c1 (L : Lies X w s k) : w.cell? ⟨X.A, 1, none⟩ = some (.int .i64 s.gv) := by simp [World.cell?, L.blk]
theorem Lies.c2 (L : Lies X w s k) : w.cell? ⟨X.A, 2, none⟩ = some X.vp := by simp [World.cell?, L.blk]
theorem Lies.c3 (L : Lies X w s k) : w.cell? ⟨X.A, 3, none⟩ = some (.map (some X.bm)) := by simp [World.cell?, L.blk]
theorem Lies.fz (L : Lies X w s k) (o : Nat) : w.frozen? ⟨X.A, o, none⟩ = false := by simp [World.frozen?, L.blk]
theorem Lies.wcell (L : Lies X w s k) {i : Nat} {v : Int} (h : s.ws[i]? = some v) : w.cell? ⟨X.bw, i, none⟩ = some (.int .i64 v) := by
  simp [World.cell?, L.wds, ints, h]
theorem Lies.wfz (L : Lies X w s k) (o : Nat) : w.frozen? ⟨X.bw, o, none⟩ = false := by simp [World.frozen?, L.wds]
/-- The pieces' slice: nil, or a row of its own. -/
theorem Lies.pform (L : Lies X w s k) : (s.ps = [] ∧ X.vp = .slice none 0 0) ∨ ∃ g cap cur, X.vp = .slice (some ⟨g, 0, none⟩) s.ps.length cap ∧ w.heap[g]? = some (.cells cur 114 (0, 0)) ∧ cur.toList.take (s.ps.length * 2) = pcells s.ps ∧ s.ps.length ≤ cap := by
  rcases L.pcs.2 with ⟨h1, h2⟩ | ⟨g, cap, cur, h1, _, h2, h3, _, _, h4⟩
  · exact .inl ⟨List.eq_nil_of_length_eq_zero h2, h1⟩
  · exact .inr ⟨g, cap, cur, h1, h2, h4, h3⟩
/-- A piece's cells. -/
theorem Lies.piece (L : Lies X w s k) {i : Nat} {p : Pc} (hp : s.ps[i]? = some p) : ∃ g cap, X.vp = .slice (some ⟨g, 0, none⟩) s.ps.length cap ∧ w.cell? ⟨g, i * 2, none⟩ = some (.int .i64 p.a) ∧ w.cell? ⟨g, i * 2 + 1, none⟩ = some (.int .i64 p.n) ∧ (∀ o, w.frozen? ⟨g, o, none⟩ = false) := by
  rcases L.pform with ⟨h1, _⟩ | ⟨g, cap, cur, h1, h2, h3, _⟩
  · rw [h1] at hp; simp at hp
  · obtain ⟨e1, e2⟩ := pcells_get hp
    rw [← h3, List.getElem?_take] at e1 e2
    refine ⟨g, cap, h1, ?_, ?_, fun o => by simp [World.frozen?, h2]⟩
    · split at e1
      · simpa [World.cell?, h2] using e1
      · cases e1
    · split at e2
      · simpa [World.cell?, h2] using e2
      · cases e2
/-- What a call that changes the arena leaves as it was. -/
structure Step (X X' : Wh) (w w' : World) : Prop where
  A : X'.A = X.A
  B : X'.B = X.B
  os : w'.os = w.os
  tape : w'.tape = w.tape
  output : w'.output = w.output
  size : w.heap.size ≤ w'.heap.size
  block : ∀ j, j < w.heap.size → ¬ X.own j → w'.heap[j]? = w.heap[j]?
  own : ∀ j, X'.own j → X.own j ∨ w.heap.size ≤ j
theorem Step.refl (X : Wh) (w : World) : Step X X w w := ⟨rfl, rfl, rfl, rfl, rfl, Nat.le_refl _, fun _ _ _ => rfl, fun _ h => .inl h⟩
theorem Step.of_below {X : Wh} (h : Below w.heap.size w w') : Step X X w w' := ⟨rfl, rfl, h.os, h.tape, h.output, h.size, fun j hj _ => h.block j hj, fun _ h => .inl h⟩
theorem Step.trans {X Y Z : Wh} {a b c : World} (h : Step X Y a b) (g : Step Y Z b c) : Step X Z a c := by
  refine ⟨g.A.trans h.A, g.B.trans h.B, g.os.trans h.os, g.tape.trans h.tape, g.output.trans h.output, Nat.le_trans h.size g.size, fun j hj hn => ?_, fun j hj => ?_⟩
  · refine (g.block j (Nat.lt_of_lt_of_le hj h.size) (fun hy => ?_)).trans (h.block j hj hn)
    rcases h.own j hy with h1 | h1
    · exact hn h1
    · omega
  · rcases g.own j hj with h1 | h1
    · exact h.own j h1
    · exact .inr (Nat.le_trans h.size h1)
theorem Step.below {X' : Wh} (h : Step X X' w w') (L : Lies X w s k) {w0 : World} (hb : Below X.B w0 w) : Below X.B w0 w' :=
  hb.trans ⟨h.os, h.tape, h.output, h.size, fun j hj => h.block j (Nat.lt_of_lt_of_le hj L.hB) (fun hy => by have := (L.own_lt hy).1; omega)⟩
end
end Go.Proofs.Ytimpmgbahgganaa
