/- Memory: arguments, rows of one's own, the graph. -/
import Derived.Test.YtlbildodjnjniaaEsN
import Derived.WalkSpells
import Derived.WalkLawsBesides
import Derived.Deep.Draws
import Derived.Deep.AppendLies
import Derived.Deep.QuietTactic
import Derived.BigQuiet
import Derived.Deep.RegionHeld3
import Derived.Deep.RegionLaw
import Derived.Deep.CutRange
import Derived.Deep.LoopGhost
import Derived.Lib.SliceRun
namespace Go.Proofs.Ytlbildodjnjniaa
open Go.RowKit

theorem hide {p : Prop} (h : p) : Hid p := h
theorem lt_of_block {w : World} {b : Nat} {o : Obj} (h : w.heap[b]? = some o) : b < w.heap.size := by
  rcases Nat.lt_or_ge b w.heap.size with h1 | h1
  · exact h1
  · rw [Array.getElem?_eq_none h1] at h; cases h
theorem get_lt {α : Type} {l : List α} {i : Nat} {a : α} (h : l[i]? = some a) : i < l.length := by
  rcases Nat.lt_or_ge i l.length with h1 | h1
  · exact h1
  · rw [List.getElem?_eq_none h1] at h; cases h
theorem heap_setCell_same (w : World) (b o : Nat) (u : Value) {c : Array Value} {t : TypeId} {f : Nat × Nat} (hb : w.heap[b]? = some (.cells c t f)) :
    (w.setCell ⟨b, o, none⟩ u).heap[b]? = some (.cells (c.setIfInBounds o u) t f) := by
  simp [World.setCell, Array.getElem?_modify, hb]
theorem heap_new (w : World) (o : Obj) {j : Nat} (h : j = w.heap.size) : (w.alloc o).heap[j]? = some o := by subst h; exact (MapKept.heap_alloc w o).1
theorem below_drewN {B : Nat} {a w : World} (h : Below B a w) (q : Nat) : Below B a (w.drewN q) := ⟨h.os, h.tape, h.output, h.size, h.block⟩
theorem cell_of {w : World} {b o : Nat} {c : Array Value} {t : TypeId} {f : Nat × Nat} {u : Value} (h : w.heap[b]? = some (.cells c t f)) (hu : c[o]? = some u) : w.cell? ⟨b, o, none⟩ = some u := by simp [World.cell?, h, hu]
theorem fz_of {w : World} {b : Nat} (o : Nat) {c : Array Value} {t : TypeId} (h : w.heap[b]? = some (.cells c t (0, 0))) : w.frozen? ⟨b, o, none⟩ = false := by simp [World.frozen?, h]
theorem ret_int {k : IntKind} {a b : Int} (h : a = b) : Ending.returned (.int k a) = .returned (.int k b) := by rw [h]
theorem ret_bool {a b : Bool} (h : a = b) : Ending.returned (.bool a) = .returned (.bool b) := by rw [h]
theorem Try.info3 : (Try.prog.info? 3).map (fun i => (i.zero, i.size, i.bytes)) = some (some (.int .i64 0), 1, 8) := by kernel_rfl
theorem Try.info4 : (Try.prog.info? 4).map (fun i => (i.zero, i.size, i.bytes)) = some (some (.bool false), 1, 1) := by kernel_rfl
theorem Try.info59 : (Try.prog.info? 59).map (fun i => (i.zero, i.size, i.bytes)) = some (some (.agg #[.int .i64 0, .int .i64 0]), 2, 16) := by kernel_rfl
theorem Try.info62 : (Try.prog.info? 62).map (fun i => (i.zero, i.size, i.bytes)) = some (some (.agg #[.int .i64 0, .int .i64 0]), 2, 16) := by kernel_rfl
theorem ownsRow_keep {w w' : World} {base : Nat} {e : TypeId} {size : Nat} {v : Value} {n : Nat} {xs : List Value} (h : w.ownsRow base e size v n xs) (hk : ∀ g, v.ownBlock = some g → w'.heap[g]? = w.heap[g]?) : w'.ownsRow base e size v n xs := by
  refine ⟨h.1, ?_⟩
  rcases h.2 with h2 | ⟨g, cap, cur, rfl, h1, h2, h3⟩
  · exact .inl h2
  · exact .inr ⟨g, cap, cur, rfl, h1, (hk g rfl).trans h2, h3⟩
/-- An append whose run is known, at the list of a plain region's operations. -/
theorem wpList_append_eq {P : Program} {w : World} {ops : Array Oper} {rest : List Oper} {o : Oper} {a : Act} {Q : Exit → Act → World → Prop} (hgd : o.guard = none) (s x : Operand) (t : TypeId)
    (ho : o.op = .call { callee := .builtin .append, args := #[s, x], argTypes := #[t, t] }) {v1 v2 v : Value} {w' : World} (hs : a.eval s = v1) (hx : a.eval x = v2) (hr : (Builtin.append_ #[t, t] o.type #[v1, v2]).run P w = .ok v w')
    (h : wpList P ops Q rest (a.put o.dst v) w') : wpList P ops Q (o :: rest) a w := by
  refine wpList_plain hgd fun _ hK => ?_
  unfold Oper.wp execOp
  simp only [ho, resolve, invoke, builtin, Sem.run_bind, Sem.run_pure, Result.andThen_ok, List.map_toArray, List.map_cons, List.map_nil, hs, hx, hr]
  exact hK _ _ h
/-- An append whose run is known, at a step of a region that draws its order. -/
theorem step_append_eq {P : Program} {w : World} {ops : Array Oper} {o : Oper} {a : Act} {K : Act → World → Prop} {Q : Exit → Act → World → Prop} {E : Prop} (hgd : o.guard = none) (s x : Operand) (t : TypeId)
    (ho : o.op = .call { callee := .builtin .append, args := #[s, x], argTypes := #[t, t] }) {v1 v2 v : Value} {w' : World} (hs : a.eval s = v1) (hx : a.eval x = v2) (hr : (Builtin.append_ #[t, t] o.type #[v1, v2]).run P w = .ok v w')
    (h : K (a.put o.dst v) w') : if Region.wanted o (yielded ops a.tmps) = true then Oper.wp P o a w K Q else E := by
  have hw : Region.wanted o (yielded ops a.tmps) = true := by simp [Region.wanted, hgd]
  rw [if_pos hw]
  unfold Oper.wp execOp
  simp only [ho, resolve, invoke, builtin, Sem.run_bind, Sem.run_pure, Result.andThen_ok, List.map_toArray, List.map_cons, List.map_nil, hs, hx, hr]
  exact h
def ints (l : List Int) : List Value := l.map fun (x : Int) => Value.int .i64 x
def bools (l : List Bool) : List Value := l.map fun (x : Bool) => Value.bool x
theorem ints_get {l : List Int} {j : Nat} {a : Int} (h : l[j]? = some a) : (ints l)[j]? = some (.int .i64 a) := by simp [ints, h]
theorem bools_get {l : List Bool} {j : Nat} {b : Bool} (h : l[j]? = some b) : (bools l)[j]? = some (.bool b) := by simp [bools, h]
theorem row_cell {w : World} {B : Nat} {e : TypeId} {v : Value} {n j : Nat} {xs : List Value} {u : Value} (h : w.ownsRow B e 1 v n xs) (hj : xs[j]? = some u) : ∃ g cap, v = .slice (some ⟨g, 0, none⟩) n cap ∧ w.cell? ⟨g, j, none⟩ = some u ∧ w.frozen? ⟨g, j, none⟩ = false ∧ j < n := by
  have hl := h.1
  have hj' := get_lt hj
  rcases h.2 with ⟨_, h0⟩ | ⟨g, cap, cur, rfl, _, h2, _, _, _, h3⟩
  · omega
  · refine ⟨g, cap, rfl, ?_, by simp [World.frozen?, h2], by omega⟩
    rw [← h3, List.getElem?_take] at hj
    split at hj
    · simpa [World.cell?, h2] using hj
    · cases hj
theorem row_form {w : World} {B : Nat} {e : TypeId} {v : Value} {k n : Nat} {xs : List Value} (h : w.ownsRow B e k v n xs) : ∃ ao cap, v = .slice ao n cap := by
  rcases h.2 with ⟨h1, h0⟩ | ⟨g, cap, cur, h1, _⟩
  · exact ⟨none, 0, by rw [h0]; exact h1⟩
  · exact ⟨_, cap, h1⟩
/-- Pairs of numbers, one behind the other. -/
def pcs : List (Int × Int) → List Value
  | [] => []
  | p :: r => .int .i64 p.1 :: .int .i64 p.2 :: pcs r
theorem pcs_length : ∀ l : List (Int × Int), (pcs l).length = l.length * 2
  | [] => rfl
  | p :: r => by simp [pcs, pcs_length r]; omega
theorem pcs_append : ∀ l m : List (Int × Int), pcs (l ++ m) = pcs l ++ pcs m
  | [], _ => rfl
  | p :: r, m => by simp [pcs, pcs_append r m]
theorem pcs_get : ∀ {l : List (Int × Int)} {i : Nat} {p : Int × Int}, l[i]? = some p → (pcs l)[i * 2]? = some (.int .i64 p.1) ∧ (pcs l)[i * 2 + 1]? = some (.int .i64 p.2)
  | [], i, p, h => by simp at h
  | q :: r, 0, p, h => by simp at h; subst h; exact ⟨rfl, rfl⟩
  | q :: r, i + 1, p, h => by
    have := pcs_get (l := r) (i := i) (p := p) (by simpa using h)
    rw [show (i + 1) * 2 = i * 2 + 1 + 1 from by omega]
    simpa [pcs] using this
/-- A pair's cells in a row of one's own. -/
theorem pair_cell {w : World} {B : Nat} {e : TypeId} {v : Value} {l : List (Int × Int)} (h : w.ownsRow B e 2 v l.length (pcs l)) {j : Nat} {p : Int × Int} (hj : l[j]? = some p) :
    ∃ g cap, v = .slice (some ⟨g, 0, none⟩) l.length cap ∧ g < w.heap.size ∧ w.cell? ⟨g, j * 2, none⟩ = some (.int .i64 p.1) ∧ w.cell? ⟨g, j * 2 + 1, none⟩ = some (.int .i64 p.2) := by
  have hj' := get_lt hj
  obtain ⟨e1, e2⟩ := pcs_get hj
  rcases h.2 with ⟨_, h0⟩ | ⟨g, cap, cur, rfl, _, h2, _, _, _, h3⟩
  · omega
  · rw [← h3, List.getElem?_take, if_pos (by omega)] at e1 e2
    exact ⟨g, cap, rfl, lt_of_block h2, by simpa [World.cell?, h2] using e1, by simpa [World.cell?, h2] using e2⟩
/-- Points that lie somewhere. -/
def PtsAt (w : World) (v : Value) (l : List Pt) : Prop :=
  ∃ ao cap, v = .slice ao l.length cap ∧ ∀ (j : Nat) (p : Pt), l[j]? = some p → ∃ g o, ao = some ⟨g, o, none⟩ ∧ g < w.heap.size ∧ w.cell? ⟨g, o + j * 2, none⟩ = some (.int .i64 p.d) ∧ w.cell? ⟨g, o + j * 2 + 1, none⟩ = some (.bool p.a)
/-- Flows that lie somewhere. -/
def FlsAt (w : World) (v : Value) (l : List Fl) : Prop :=
  ∃ ao cap, v = .slice ao l.length cap ∧ ∀ (j : Nat) (f : Fl), l[j]? = some f → ∃ g o, ao = some ⟨g, o, none⟩ ∧ g < w.heap.size ∧ w.cell? ⟨g, o + j * 3, none⟩ = some (.int .i64 f.to) ∧ w.cell? ⟨g, o + j * 3 + 1, none⟩ = some (.int .i64 f.fr) ∧ w.cell? ⟨g, o + j * 3 + 2, none⟩ = some (.int .i64 f.rf)
/-- Numbers that lie somewhere. -/
def IntsAt (w : World) (v : Value) (l : List Int) : Prop :=
  ∃ ao cap, v = .slice ao l.length cap ∧ ∀ (j : Nat) (x : Int), l[j]? = some x → ∃ g o, ao = some ⟨g, o, none⟩ ∧ g < w.heap.size ∧ w.cell? ⟨g, o + j, none⟩ = some (.int .i64 x)
/-- Truths that lie somewhere. -/
def BoolsAt (w : World) (v : Value) (l : List Bool) : Prop :=
  ∃ ao cap, v = .slice ao l.length cap ∧ ∀ (j : Nat) (x : Bool), l[j]? = some x → ∃ g o, ao = some ⟨g, o, none⟩ ∧ g < w.heap.size ∧ w.cell? ⟨g, o + j, none⟩ = some (.bool x)
/-- Pairs that lie somewhere. -/
def PairsAt (w : World) (v : Value) (l : List (Int × Int)) : Prop :=
  ∃ ao cap, v = .slice ao l.length cap ∧ ∀ (j : Nat) (p : Int × Int), l[j]? = some p → ∃ g o, ao = some ⟨g, o, none⟩ ∧ g < w.heap.size ∧ w.cell? ⟨g, o + j * 2, none⟩ = some (.int .i64 p.1) ∧ w.cell? ⟨g, o + j * 2 + 1, none⟩ = some (.int .i64 p.2)
/-- The graph lies somewhere: of each node the flows to it. -/
def GrAt (w : World) (v : Value) (n : Nat) (fs : List Fl) : Prop :=
  ∃ bg cap, v = .slice (some ⟨bg, 0, none⟩) (n + 1) cap ∧ bg < w.heap.size ∧ ∀ t, t ≤ n → ∃ vr, w.cell? ⟨bg, t, none⟩ = some vr ∧ PairsAt w vr ((row fs t).map fun p => ((p.1 : Int), p.2))
section
variable {w w' : World} {v : Value}
theorem keep_cell (hb : Below w.heap.size w w') {g o : Nat} (hg : g < w.heap.size) : w'.cell? ⟨g, o, none⟩ = w.cell? ⟨g, o, none⟩ := World.cell?_of_block (a := ⟨g, o, none⟩) (hb.block g hg)
theorem PtsAt.below {l : List Pt} (R : PtsAt w v l) (hb : Below w.heap.size w w') : PtsAt w' v l := by
  obtain ⟨ao, cap, h1, h2⟩ := R
  refine ⟨ao, cap, h1, fun j x hx => ?_⟩
  obtain ⟨g, o, h4, h5, h6, h7⟩ := h2 j x hx
  exact ⟨g, o, h4, Nat.lt_of_lt_of_le h5 hb.size, by rw [keep_cell hb h5]; exact h6, by rw [keep_cell hb h5]; exact h7⟩
theorem FlsAt.below {l : List Fl} (R : FlsAt w v l) (hb : Below w.heap.size w w') : FlsAt w' v l := by
  obtain ⟨ao, cap, h1, h2⟩ := R
  refine ⟨ao, cap, h1, fun j x hx => ?_⟩
  obtain ⟨g, o, h4, h5, h6, h7, h8⟩ := h2 j x hx
  exact ⟨g, o, h4, Nat.lt_of_lt_of_le h5 hb.size, by rw [keep_cell hb h5]; exact h6, by rw [keep_cell hb h5]; exact h7, by rw [keep_cell hb h5]; exact h8⟩
theorem IntsAt.below {l : List Int} (R : IntsAt w v l) (hb : Below w.heap.size w w') : IntsAt w' v l := by
  obtain ⟨ao, cap, h1, h2⟩ := R
  refine ⟨ao, cap, h1, fun j x hx => ?_⟩
  obtain ⟨g, o, h4, h5, h6⟩ := h2 j x hx
  exact ⟨g, o, h4, Nat.lt_of_lt_of_le h5 hb.size, by rw [keep_cell hb h5]; exact h6⟩
theorem BoolsAt.below {l : List Bool} (R : BoolsAt w v l) (hb : Below w.heap.size w w') : BoolsAt w' v l := by
  obtain ⟨ao, cap, h1, h2⟩ := R
  refine ⟨ao, cap, h1, fun j x hx => ?_⟩
  obtain ⟨g, o, h4, h5, h6⟩ := h2 j x hx
  exact ⟨g, o, h4, Nat.lt_of_lt_of_le h5 hb.size, by rw [keep_cell hb h5]; exact h6⟩
theorem PairsAt.below {l : List (Int × Int)} (R : PairsAt w v l) (hb : Below w.heap.size w w') : PairsAt w' v l := by
  obtain ⟨ao, cap, h1, h2⟩ := R
  refine ⟨ao, cap, h1, fun j x hx => ?_⟩
  obtain ⟨g, o, h4, h5, h6, h7⟩ := h2 j x hx
  exact ⟨g, o, h4, Nat.lt_of_lt_of_le h5 hb.size, by rw [keep_cell hb h5]; exact h6, by rw [keep_cell hb h5]; exact h7⟩
theorem GrAt.below {n : Nat} {fs : List Fl} (R : GrAt w v n fs) (hb : Below w.heap.size w w') : GrAt w' v n fs := by
  obtain ⟨bg, cap, h1, h2, h3⟩ := R
  refine ⟨bg, cap, h1, Nat.lt_of_lt_of_le h2 hb.size, fun t ht => ?_⟩
  obtain ⟨vr, h4, h5⟩ := h3 t ht
  exact ⟨vr, by rw [keep_cell hb h2]; exact h4, h5.below hb⟩
theorem IntsAt.of_row {B : Nat} {l : List Int} (h : w.ownsRow B 3 1 v l.length (ints l)) : IntsAt w v l := by
  obtain ⟨ao, cap, hv⟩ := row_form h
  refine ⟨ao, cap, hv, fun j x hx => ?_⟩
  obtain ⟨g, c, hv2, h2, h3, _⟩ := row_cell h (ints_get hx)
  rw [hv] at hv2; cases hv2
  exact ⟨g, 0, rfl, (h.lt g (by rw [hv]; rfl)).2, by rw [Nat.zero_add]; exact h2⟩
theorem PairsAt.of_row {B : Nat} {e : TypeId} {l : List (Int × Int)} (h : w.ownsRow B e 2 v l.length (pcs l)) : PairsAt w v l := by
  obtain ⟨ao, cap, hv⟩ := row_form h
  refine ⟨ao, cap, hv, fun j x hx => ?_⟩
  obtain ⟨g, c, hv2, h2, h3, h4⟩ := pair_cell h hx
  rw [hv] at hv2; cases hv2
  exact ⟨g, 0, rfl, h2, by rw [Nat.zero_add]; exact h3, by rw [Nat.zero_add]; exact h4⟩
end
end Go.Proofs.Ytlbildodjnjniaa
