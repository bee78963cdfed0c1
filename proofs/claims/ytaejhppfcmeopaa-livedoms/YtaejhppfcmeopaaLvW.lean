/- Memory: arguments, rows of one's own, the graph. -/
import Derived.Test.YtaejhppfcmeopaaLvM
import Derived.WalkSpells
import Derived.WalkLawsBesides
import Derived.Deep.Draws
import Derived.Deep.AppendLies
import Derived.Deep.QuietTactic
import Derived.BigQuiet
import Derived.Deep.RegionHeld3
import Derived.Deep.RegionLaw
import Derived.Deep.CutRange
import Derived.Deep.LoopGhost
import Derived.Lib.SliceRun
import Derived.Handy
namespace Go.Proofs.Ytaejhppfcmeopaa
open Go.RowKit

theorem hide {p : Prop} (h : p) : Hid p := h
theorem lt_of_block {w : World} {b : Nat} {o : Obj} (h : w.heap[b]? = some o) : b < w.heap.size := by
  rcases Nat.lt_or_ge b w.heap.size with h1 | h1
  · exact h1
  · rw [Array.getElem?_eq_none h1] at h; cases h
theorem get_lt {α : Type} {l : List α} {i : Nat} {a : α} (h : l[i]? = some a) : i < l.length := by
  rcases Nat.lt_or_ge i l.length with h1 | h1
  · exact h1
  · rw [List.getElem?_eq_none h1] at h; cases h
theorem heap_setCell_same (w : World) (b o : Nat) (u : Value) {c : Array Value} {t : TypeId} {f : Nat × Nat} (hb : w.heap[b]? = some (.cells c t f)) :
    (w.setCell ⟨b, o, none⟩ u).heap[b]? = some (.cells (c.setIfInBounds o u) t f) := by
  simp [World.setCell, Array.getElem?_modify, hb]
theorem heap_new (w : World) (o : Obj) {j : Nat} (h : j = w.heap.size) : (w.alloc o).heap[j]? = some o := by subst h; exact (MapKept.heap_alloc w o).1
theorem heap_under (w : World) (o : Obj) {j : Nat} (h : j < w.heap.size) : (w.alloc o).heap[j]? = w.heap[j]? := by
  rw [World.alloc]; exact Array.getElem?_push_lt h ▸ (Array.getElem?_eq_getElem h).symm
theorem below_drewN {B : Nat} {a w : World} (h : Below B a w) (q : Nat) : Below B a (w.drewN q) := ⟨h.os, h.tape, h.output, h.size, h.block⟩
theorem cell_of {w : World} {b o : Nat} {c : Array Value} {t : TypeId} {f : Nat × Nat} {u : Value} (h : w.heap[b]? = some (.cells c t f)) (hu : c[o]? = some u) : w.cell? ⟨b, o, none⟩ = some u := by simp [World.cell?, h, hu]
theorem fz_of {w : World} {b : Nat} (o : Nat) {c : Array Value} {t : TypeId} (h : w.heap[b]? = some (.cells c t (0, 0))) : w.frozen? ⟨b, o, none⟩ = false := by simp [World.frozen?, h]
theorem ret_int {k : IntKind} {a b : Int} (h : a = b) : Ending.returned (.int k a) = .returned (.int k b) := by rw [h]
theorem ret_bool {a b : Bool} (h : a = b) : Ending.returned (.bool a) = .returned (.bool b) := by rw [h]
theorem Try.info3 : (Try.prog.info? 3).map (fun i => (i.zero, i.size, i.bytes)) = some (some (.int .i64 0), 1, 8) := by kernel_rfl
theorem Try.info4 : (Try.prog.info? 4).map (fun i => (i.zero, i.size, i.bytes)) = some (some (.bool false), 1, 1) := by kernel_rfl
theorem ownsRow_keep {w w' : World} {base : Nat} {e : TypeId} {size : Nat} {v : Value} {n : Nat} {xs : List Value} (h : w.ownsRow base e size v n xs) (hk : ∀ g, v.ownBlock = some g → w'.heap[g]? = w.heap[g]?) : w'.ownsRow base e size v n xs := by
  refine ⟨h.1, ?_⟩
  rcases h.2 with h2 | ⟨g, cap, cur, rfl, h1, h2, h3⟩
  · exact .inl h2
  · exact .inr ⟨g, cap, cur, rfl, h1, (hk g rfl).trans h2, h3⟩
/-- An append whose run is known, at the list of a plain region's operations. -/
theorem wpList_append_eq {P : Program} {w : World} {ops : Array Oper} {rest : List Oper} {o : Oper} {a : Act} {Q : Exit → Act → World → Prop} (hgd : o.guard = none) (s x : Operand) (t : TypeId)
    (ho : o.op = .call { callee := .builtin .append, args := #[s, x], argTypes := #[t, t] }) {v1 v2 v : Value} {w' : World} (hs : a.eval s = v1) (hx : a.eval x = v2) (hr : (Builtin.append_ #[t, t] o.type #[v1, v2]).run P w = .ok v w')
    (h : wpList P ops Q rest (a.put o.dst v) w') : wpList P ops Q (o :: rest) a w := by
  refine wpList_plain hgd fun _ hK => ?_
  unfold Oper.wp execOp
  simp only [ho, resolve, invoke, builtin, Sem.run_bind, Sem.run_pure, Result.andThen_ok, List.map_toArray, List.map_cons, List.map_nil, hs, hx, hr]
  exact hK _ _ h
/-- An append whose run is known, at a step of a region that draws its order. -/
theorem step_append_eq {P : Program} {w : World} {ops : Array Oper} {o : Oper} {a : Act} {K : Act → World → Prop} {Q : Exit → Act → World → Prop} {E : Prop} (hgd : o.guard = none) (s x : Operand) (t : TypeId)
    (ho : o.op = .call { callee := .builtin .append, args := #[s, x], argTypes := #[t, t] }) {v1 v2 v : Value} {w' : World} (hs : a.eval s = v1) (hx : a.eval x = v2) (hr : (Builtin.append_ #[t, t] o.type #[v1, v2]).run P w = .ok v w')
    (h : K (a.put o.dst v) w') : if Region.wanted o (yielded ops a.tmps) = true then Oper.wp P o a w K Q else E := by
  have hw : Region.wanted o (yielded ops a.tmps) = true := by simp [Region.wanted, hgd]
  rw [if_pos hw]
  unfold Oper.wp execOp
  simp only [ho, resolve, invoke, builtin, Sem.run_bind, Sem.run_pure, Result.andThen_ok, List.map_toArray, List.map_cons, List.map_nil, hs, hx, hr]
  exact h
def ints (l : List Int) : List Value := l.map fun (x : Int) => Value.int .i64 x
def bools (l : List Bool) : List Value := l.map fun (x : Bool) => Value.bool x
theorem ints_get {l : List Int} {j : Nat} {a : Int} (h : l[j]? = some a) : (ints l)[j]? = some (.int .i64 a) := by simp [ints, h]
theorem bools_get {l : List Bool} {j : Nat} {b : Bool} (h : l[j]? = some b) : (bools l)[j]? = some (.bool b) := by simp [bools, h]
theorem row_cell {w : World} {B : Nat} {e : TypeId} {v : Value} {n j : Nat} {xs : List Value} {u : Value} (h : w.ownsRow B e 1 v n xs) (hj : xs[j]? = some u) : ∃ g cap, v = .slice (some ⟨g, 0, none⟩) n cap ∧ w.cell? ⟨g, j, none⟩ = some u ∧ w.frozen? ⟨g, j, none⟩ = false ∧ j < n := by
  have hl := h.1
  have hj' := get_lt hj
  rcases h.2 with ⟨_, h0⟩ | ⟨g, cap, cur, rfl, _, h2, _, _, _, h3⟩
  · omega
  · refine ⟨g, cap, rfl, ?_, by simp [World.frozen?, h2], by omega⟩
    rw [← h3, List.getElem?_take] at hj
    split at hj
    · simpa [World.cell?, h2] using hj
    · cases hj
theorem row_form {w : World} {B : Nat} {e : TypeId} {v : Value} {k n : Nat} {xs : List Value} (h : w.ownsRow B e k v n xs) : ∃ ao cap, v = .slice ao n cap := by
  rcases h.2 with ⟨h1, h0⟩ | ⟨g, cap, cur, h1, _⟩
  · exact ⟨none, 0, by rw [h0]; exact h1⟩
  · exact ⟨_, cap, h1⟩
/-- Numbers that lie somewhere. -/
def IntsAt (w : World) (v : Value) (l : List Int) : Prop :=
  ∃ ao cap, v = .slice ao l.length cap ∧ l.length ≤ 9223372036854775807 ∧ ∀ (j : Nat) (x : Int), l[j]? = some x → ∃ g o, ao = some ⟨g, o, none⟩ ∧ g < w.heap.size ∧ w.cell? ⟨g, o + j, none⟩ = some (.int .i64 x)
/-- Truths that lie somewhere. -/
def BoolsAt (w : World) (v : Value) (l : List Bool) : Prop :=
  ∃ ao cap, v = .slice ao l.length cap ∧ ∀ (j : Nat) (x : Bool), l[j]? = some x → ∃ g o, ao = some ⟨g, o, none⟩ ∧ g < w.heap.size ∧ w.cell? ⟨g, o + j, none⟩ = some (.bool x)
section
variable {w w' : World} {v : Value}
theorem keep_cell (hb : Below w.heap.size w w') {g o : Nat} (hg : g < w.heap.size) : w'.cell? ⟨g, o, none⟩ = w.cell? ⟨g, o, none⟩ := World.cell?_of_block (a := ⟨g, o, none⟩) (hb.block g hg)
theorem IntsAt.below {l : List Int} (R : IntsAt w v l) (hb : Below w.heap.size w w') : IntsAt w' v l := by
  obtain ⟨ao, cap, h1, hl, h2⟩ := R
  refine ⟨ao, cap, h1, hl, fun j x hx => ?_⟩
  obtain ⟨g, o, h4, h5, h6⟩ := h2 j x hx
  exact ⟨g, o, h4, Nat.lt_of_lt_of_le h5 hb.size, by rw [keep_cell hb h5]; exact h6⟩
theorem IntsAt.len {l : List Int} (R : IntsAt w v l) : l.length ≤ 9223372036854775807 := by
  obtain ⟨_, _, _, h, _⟩ := R
  exact h
theorem BoolsAt.below {l : List Bool} (R : BoolsAt w v l) (hb : Below w.heap.size w w') : BoolsAt w' v l := by
  obtain ⟨ao, cap, h1, h2⟩ := R
  refine ⟨ao, cap, h1, fun j x hx => ?_⟩
  obtain ⟨g, o, h4, h5, h6⟩ := h2 j x hx
  exact ⟨g, o, h4, Nat.lt_of_lt_of_le h5 hb.size, by rw [keep_cell hb h5]; exact h6⟩
theorem IntsAt.of_row {B : Nat} {l : List Int} (h : w.ownsRow B 3 1 v l.length (ints l)) (hl : l.length ≤ 9223372036854775807) : IntsAt w v l := by
  obtain ⟨ao, cap, hv⟩ := row_form h
  refine ⟨ao, cap, hv, hl, fun j x hx => ?_⟩
  obtain ⟨g, c, hv2, h2, h3, _⟩ := row_cell h (ints_get hx)
  rw [hv] at hv2; cases hv2
  exact ⟨g, 0, rfl, (h.lt g (by rw [hv]; rfl)).2, by rw [Nat.zero_add]; exact h2⟩
end
structure Kp (X : Nat → Prop) (w w' : World) : Prop where
  os : w'.os = w.os
  tape : w'.tape = w.tape
  output : w'.output = w.output
  size : w.heap.size ≤ w'.heap.size
  block : ∀ j, j < w.heap.size → ¬ X j → w'.heap[j]? = w.heap[j]?
section
variable {X Y : Nat → Prop} {w w' : World}
theorem Kp.refl (X : Nat → Prop) (w : World) : Kp X w w := ⟨rfl, rfl, rfl, Nat.le_refl _, fun _ _ _ => rfl⟩
theorem Kp.trans {a b c : World} (h : Kp X a b) (g : Kp X b c) : Kp X a c := ⟨g.os.trans h.os, g.tape.trans h.tape, g.output.trans h.output, Nat.le_trans h.size g.size, fun j hj hx => (g.block j (Nat.lt_of_lt_of_le hj h.size) hx).trans (h.block j hj hx)⟩
theorem Kp.of_below (h : Below w.heap.size w w') : Kp X w w' := ⟨h.os, h.tape, h.output, h.size, fun j hj _ => h.block j hj⟩
theorem Kp.mono (h : Kp X w w') (hs : ∀ j, X j → Y j) : Kp Y w w' := ⟨h.os, h.tape, h.output, h.size, fun j hj hy => h.block j hj (fun hx => hy (hs j hx))⟩
theorem Kp.below {B : Nat} {a : World} (hB : B ≤ a.heap.size) (hb : Below B a w) (h : Kp X w w') (hX : ∀ j, X j → B ≤ j) : Below B a w' := hb.trans ⟨h.os, h.tape, h.output, h.size, fun j hj => h.block j (Nat.lt_of_lt_of_le hj (Nat.le_trans hB hb.size)) (fun hx => by have := hX j hx; omega)⟩
theorem Kp.setCell (b o : Nat) (u : Value) : Kp (fun j => j = b) w (w.setCell ⟨b, o, none⟩ u) := ⟨rfl, rfl, rfl, by simp, fun j _ hx => Below.heap_setCell _ _ _ j hx⟩
theorem Kp.drew (h : Kp X w w') : Kp X w w'.drew := ⟨h.os, h.tape, h.output, h.size, h.block⟩
end
/-- Eight words are stored. -/
abbrev st8 (w : World) (g : Nat) (x0 x1 x2 x3 x4 x5 x6 x7 : Value) : World := (((((((w.setCell ⟨g, 0, none⟩ x0).setCell ⟨g, 1, none⟩ x1).setCell ⟨g, 2, none⟩ x2).setCell ⟨g, 3, none⟩ x3).setCell ⟨g, 4, none⟩ x4).setCell ⟨g, 5, none⟩ x5).setCell ⟨g, 6, none⟩ x6).setCell ⟨g, 7, none⟩ x7
theorem st8_heap {w : World} {g : Nat} {x0 x1 x2 x3 x4 x5 x6 x7 v0 v1 v2 v3 v4 v5 v6 v7 : Value} {t : TypeId} (h : w.heap[g]? = some (.cells #[v0, v1, v2, v3, v4, v5, v6, v7] t (0, 0))) :
    (st8 w g x0 x1 x2 x3 x4 x5 x6 x7).heap[g]? = some (.cells #[x0, x1, x2, x3, x4, x5, x6, x7] t (0, 0)) := by
  have h0 := heap_setCell_same (w) g 0 x0 h
  rw [show (#[v0, v1, v2, v3, v4, v5, v6, v7] : Array Value).setIfInBounds 0 x0 = #[x0, v1, v2, v3, v4, v5, v6, v7] from rfl] at h0
  have h1 := heap_setCell_same ((w).setCell ⟨g, 0, none⟩ x0) g 1 x1 h0
  rw [show (#[x0, v1, v2, v3, v4, v5, v6, v7] : Array Value).setIfInBounds 1 x1 = #[x0, x1, v2, v3, v4, v5, v6, v7] from rfl] at h1
  have h2 := heap_setCell_same (((w).setCell ⟨g, 0, none⟩ x0).setCell ⟨g, 1, none⟩ x1) g 2 x2 h1
  rw [show (#[x0, x1, v2, v3, v4, v5, v6, v7] : Array Value).setIfInBounds 2 x2 = #[x0, x1, x2, v3, v4, v5, v6, v7] from rfl] at h2
  have h3 := heap_setCell_same ((((w).setCell ⟨g, 0, none⟩ x0).setCell ⟨g, 1, none⟩ x1).setCell ⟨g, 2, none⟩ x2) g 3 x3 h2
  rw [show (#[x0, x1, x2, v3, v4, v5, v6, v7] : Array Value).setIfInBounds 3 x3 = #[x0, x1, x2, x3, v4, v5, v6, v7] from rfl] at h3
  have h4 := heap_setCell_same (((((w).setCell ⟨g, 0, none⟩ x0).setCell ⟨g, 1, none⟩ x1).setCell ⟨g, 2, none⟩ x2).setCell ⟨g, 3, none⟩ x3) g 4 x4 h3
  rw [show (#[x0, x1, x2, x3, v4, v5, v6, v7] : Array Value).setIfInBounds 4 x4 = #[x0, x1, x2, x3, x4, v5, v6, v7] from rfl] at h4
  have h5 := heap_setCell_same ((((((w).setCell ⟨g, 0, none⟩ x0).setCell ⟨g, 1, none⟩ x1).setCell ⟨g, 2, none⟩ x2).setCell ⟨g, 3, none⟩ x3).setCell ⟨g, 4, none⟩ x4) g 5 x5 h4
  rw [show (#[x0, x1, x2, x3, x4, v5, v6, v7] : Array Value).setIfInBounds 5 x5 = #[x0, x1, x2, x3, x4, x5, v6, v7] from rfl] at h5
  have h6 := heap_setCell_same (((((((w).setCell ⟨g, 0, none⟩ x0).setCell ⟨g, 1, none⟩ x1).setCell ⟨g, 2, none⟩ x2).setCell ⟨g, 3, none⟩ x3).setCell ⟨g, 4, none⟩ x4).setCell ⟨g, 5, none⟩ x5) g 6 x6 h5
  rw [show (#[x0, x1, x2, x3, x4, x5, v6, v7] : Array Value).setIfInBounds 6 x6 = #[x0, x1, x2, x3, x4, x5, x6, v7] from rfl] at h6
  have h7 := heap_setCell_same ((((((((w).setCell ⟨g, 0, none⟩ x0).setCell ⟨g, 1, none⟩ x1).setCell ⟨g, 2, none⟩ x2).setCell ⟨g, 3, none⟩ x3).setCell ⟨g, 4, none⟩ x4).setCell ⟨g, 5, none⟩ x5).setCell ⟨g, 6, none⟩ x6) g 7 x7 h6
  rw [show (#[x0, x1, x2, x3, x4, x5, x6, v7] : Array Value).setIfInBounds 7 x7 = #[x0, x1, x2, x3, x4, x5, x6, x7] from rfl] at h7
  exact h7
theorem st8_kp (w : World) (g : Nat) (x0 x1 x2 x3 x4 x5 x6 x7 : Value) : Kp (fun j => j = g) w (st8 w g x0 x1 x2 x3 x4 x5 x6 x7) :=
  (((((((Kp.setCell _ _ _).trans (Kp.setCell _ _ _)).trans (Kp.setCell _ _ _)).trans (Kp.setCell _ _ _)).trans (Kp.setCell _ _ _)).trans (Kp.setCell _ _ _)).trans (Kp.setCell _ _ _)).trans (Kp.setCell _ _ _)
/-- A set's cells. -/
abbrev wc (m : Nat) : Array Value := #[.int .u64 (wd m 0), .int .u64 (wd m 1), .int .u64 (wd m 2), .int .u64 (wd m 3), .int .u64 (wd m 4), .int .u64 (wd m 5), .int .u64 (wd m 6), .int .u64 (wd m 7)]
theorem wc_get (m : Nat) {k : Nat} (h : k < 8) : (wc m)[k]? = some (.int .u64 (wd m k)) := by
  match k, h with
  | 0, _ => rfl | 1, _ => rfl | 2, _ => rfl | 3, _ => rfl | 4, _ => rfl | 5, _ => rfl | 6, _ => rfl | 7, _ => rfl
abbrev zc : Array Value := #[.int .u64 0, .int .u64 0, .int .u64 0, .int .u64 0, .int .u64 0, .int .u64 0, .int .u64 0, .int .u64 0]
theorem zc_eq : zc = wc 0 := by simp only [zc, wc, wd_zero]; rfl
theorem wc_of {c : Array Value} {m : Nat} (hs : c.size = 8) (h : ∀ k, k < 8 → c[k]? = some (.int .u64 (wd m k))) : c = wc m := by
  apply Array.ext_getElem?
  intro i
  rcases Nat.lt_or_ge i 8 with h1 | h1
  · rw [h i h1, wc_get m h1]
  · rw [Array.getElem?_eq_none (by omega), Array.getElem?_eq_none (by simpa using h1)]
abbrev setV (m : Nat) : Value := .agg (wc m)
/-- A set that lies from the place o of the block g on. -/
def SetAt (w : World) (g o m : Nat) : Prop := ∀ k, k < 8 → w.cell? ⟨g, o + k, none⟩ = some (.int .u64 (wd m k))
/-- A set that lies in a box of its own. -/
def BoxS (w : World) (g m : Nat) : Prop := w.heap[g]? = some (.cells (wc m) 64 (0, 0))
theorem pow_lt64 (b : Nat) : 2 ^ (b % 64) < 18446744073709551616 := by
  have : 2 ^ (b % 64) < 2 ^ 64 := Nat.pow_lt_pow_right (by decide) (Nat.mod_lt _ (by decide))
  exact this
theorem or_word (y b : Nat) (hy : y < 18446744073709551616) : bits .or .u64 (y : Int) (IntKind.u64.wrap (2 ^ (b % 64))) = ((y ||| 2 ^ (b % 64) : Nat) : Int) := by
  rw [show (2 : Int) ^ (b % 64) = ((2 ^ (b % 64) : Nat) : Int) by simp, IntKind.wrap_u64, show ((2 ^ (b % 64) : Nat) : Int) % 18446744073709551616 = ((2 ^ (b % 64) : Nat) : Int) from Int.emod_eq_of_lt (Int.natCast_nonneg _) (Int.ofNat_lt.mpr (pow_lt64 b))]
  exact bits_or_u64_nat _ _ hy (pow_lt64 b)
section
variable {w w' : World}
theorem BoxS.lt {g m : Nat} (h : BoxS w g m) : g < w.heap.size := lt_of_block h
theorem BoxS.new (w : World) (m : Nat) : BoxS (w.alloc (.cells (wc m) 64)) w.heap.size m := heap_new _ _ rfl
theorem BoxS.keep {g m : Nat} (h : BoxS w g m) (hk : w'.heap[g]? = w.heap[g]?) : BoxS w' g m := hk.trans h
theorem BoxS.all {g m : Nat} (h : BoxS w g m) : w.cell? ⟨g, 0, none⟩ = some (.int .u64 (wd m 0)) ∧ w.cell? ⟨g, 1, none⟩ = some (.int .u64 (wd m 1)) ∧ w.cell? ⟨g, 2, none⟩ = some (.int .u64 (wd m 2)) ∧ w.cell? ⟨g, 3, none⟩ = some (.int .u64 (wd m 3)) ∧ w.cell? ⟨g, 4, none⟩ = some (.int .u64 (wd m 4)) ∧ w.cell? ⟨g, 5, none⟩ = some (.int .u64 (wd m 5)) ∧ w.cell? ⟨g, 6, none⟩ = some (.int .u64 (wd m 6)) ∧ w.cell? ⟨g, 7, none⟩ = some (.int .u64 (wd m 7)) := ⟨cell_of h rfl, cell_of h rfl, cell_of h rfl, cell_of h rfl, cell_of h rfl, cell_of h rfl, cell_of h rfl, cell_of h rfl⟩
theorem SetAt.all {g o m : Nat} (h : SetAt w g o m) : w.cell? ⟨g, o, none⟩ = some (.int .u64 (wd m 0)) ∧ w.cell? ⟨g, o + 1, none⟩ = some (.int .u64 (wd m 1)) ∧ w.cell? ⟨g, o + 2, none⟩ = some (.int .u64 (wd m 2)) ∧ w.cell? ⟨g, o + 3, none⟩ = some (.int .u64 (wd m 3)) ∧ w.cell? ⟨g, o + 4, none⟩ = some (.int .u64 (wd m 4)) ∧ w.cell? ⟨g, o + 5, none⟩ = some (.int .u64 (wd m 5)) ∧ w.cell? ⟨g, o + 6, none⟩ = some (.int .u64 (wd m 6)) ∧ w.cell? ⟨g, o + 7, none⟩ = some (.int .u64 (wd m 7)) := ⟨h 0 (by decide), h 1 (by decide), h 2 (by decide), h 3 (by decide), h 4 (by decide), h 5 (by decide), h 6 (by decide), h 7 (by decide)⟩
theorem zbox {g : Nat} {v0 v1 v2 v3 v4 v5 v6 v7 : Value} (h : w.heap[g]? = some (.cells #[v0, v1, v2, v3, v4, v5, v6, v7] 64 (0, 0))) : (w.cell? ⟨g, 0, none⟩ = some v0 ∧ w.cell? ⟨g, 1, none⟩ = some v1 ∧ w.cell? ⟨g, 2, none⟩ = some v2 ∧ w.cell? ⟨g, 3, none⟩ = some v3 ∧ w.cell? ⟨g, 4, none⟩ = some v4 ∧ w.cell? ⟨g, 5, none⟩ = some v5 ∧ w.cell? ⟨g, 6, none⟩ = some v6 ∧ w.cell? ⟨g, 7, none⟩ = some v7) ∧
    (w.frozen? ⟨g, 0, none⟩ = false ∧ w.frozen? ⟨g, 1, none⟩ = false ∧ w.frozen? ⟨g, 2, none⟩ = false ∧ w.frozen? ⟨g, 3, none⟩ = false ∧ w.frozen? ⟨g, 4, none⟩ = false ∧ w.frozen? ⟨g, 5, none⟩ = false ∧ w.frozen? ⟨g, 6, none⟩ = false ∧ w.frozen? ⟨g, 7, none⟩ = false) := ⟨⟨cell_of h rfl, cell_of h rfl, cell_of h rfl, cell_of h rfl, cell_of h rfl, cell_of h rfl, cell_of h rfl, cell_of h rfl⟩, fz_of _ h, fz_of _ h, fz_of _ h, fz_of _ h, fz_of _ h, fz_of _ h, fz_of _ h, fz_of _ h⟩
theorem BoxS.at {g m : Nat} (h : BoxS w g m) : SetAt w g 0 m := fun k hk => by rw [Nat.zero_add]; exact cell_of h (wc_get m hk)
/-- Behind a store of the word of one more. -/
theorem BoxS.add {g m : Nat} (b : Nat) (h : BoxS w g m) : BoxS (w.setCell ⟨g, b / 64, none⟩ (.int .u64 (wd (m ||| 2 ^ b) (b / 64)))) g (m ||| 2 ^ b) := by
  unfold BoxS
  rw [heap_setCell_same _ _ _ _ h]
  congr 2
  refine wc_of (by simp) fun k hk => ?_
  rw [Array.getElem?_setIfInBounds]
  by_cases e : b / 64 = k
  · subst e; simp [hk]
  · rw [if_neg e, wd_add_other _ (fun h => e h.symm)]; exact wc_get m hk
theorem has_fact {x : Nat} (m b : Nat) (hx : x = wd m (b / 64)) : (bits .and .u64 ((x : Int) / 2 ^ (b % 64)) 1 != 0) = m.testBit b := by
  have h1 : ((x : Int) / 2 ^ (b % 64)) = ((x / 2 ^ (b % 64) : Nat) : Int) := by simp
  have hl : x / 2 ^ (b % 64) < 18446744073709551616 := Nat.lt_of_le_of_lt (Nat.div_le_self _ _) (by rw [hx]; exact wd_lt _ _)
  rw [h1, show (1 : Int) = ((1 : Nat) : Int) from rfl, bits_and_u64_nat _ _ hl (by decide), Nat.and_one_is_mod, hx, wd_has]
  cases m.testBit b <;> rfl
end
end Go.Proofs.Ytaejhppfcmeopaa
