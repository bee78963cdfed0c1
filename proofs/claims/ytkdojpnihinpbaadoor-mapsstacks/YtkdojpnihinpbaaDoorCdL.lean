/- Lists that lie in memory, and programs (the part that this seat has). -/
import Derived.Test.YtkdojpnihinpbaaDoorCdM
import Derived.Test.YtkdojpnihinpbaaDoorChecked
import Derived.WalkSpells
import Derived.WalkLawsBesides
import Derived.Handy
import Derived.Deep.Draws
import Derived.Deep.AppendLies
import Derived.Deep.QuietTactic
import Derived.BigQuiet
import Derived.Deep.RegionHeld3
import Derived.Deep.RegionLaw
import Derived.Deep.CutRange
import Derived.Deep.LoopGhost
import Derived.Lib.SliceRun
import Derived.Lib.AppendStr
namespace Go.Proofs.YtkdojpnihinpbaaDoor
open Go.RowKit

theorem hide {p : Prop} (h : p) : Hid p := h
theorem lt_of_block {w : World} {b : Nat} {o : Obj} (h : w.heap[b]? = some o) : b < w.heap.size := by
  rcases Nat.lt_or_ge b w.heap.size with h1 | h1
  · exact h1
  · rw [Array.getElem?_eq_none h1] at h; cases h
theorem get_lt {α : Type} {l : List α} {i : Nat} {x : α} (h : l[i]? = some x) : i < l.length := by
  rcases Nat.lt_or_ge i l.length with h1 | h1
  · exact h1
  · rw [List.getElem?_eq_none h1] at h; cases h
theorem heap_setCell_same (w : World) (b o : Nat) (u : Value) {c : Array Value} {t : TypeId} {f : Nat × Nat} (hb : w.heap[b]? = some (.cells c t f)) :
    (w.setCell ⟨b, o, none⟩ u).heap[b]? = some (.cells (c.setIfInBounds o u) t f) := by
  simp [World.setCell, Array.getElem?_modify, hb]
theorem heap_new (w : World) (o : Obj) {j : Nat} (h : j = w.heap.size) : (w.alloc o).heap[j]? = some o := by subst h; exact (MapKept.heap_alloc w o).1
theorem below_drewN {B : Nat} {a w : World} (h : Below B a w) (q : Nat) : Below B a (w.drewN q) := ⟨h.os, h.tape, h.output, h.size, h.block⟩
theorem below_drew {B : Nat} {a w : World} (h : Below B a w) : Below B a w.drew := ⟨h.os, h.tape, h.output, h.size, h.block⟩
theorem cell_of {w : World} {b o : Nat} {c : Array Value} {t : TypeId} {f : Nat × Nat} {u : Value} (h : w.heap[b]? = some (.cells c t f)) (hu : c[o]? = some u) : w.cell? ⟨b, o, none⟩ = some u := by simp [World.cell?, h, hu]
theorem Tryd.info5 : (Tryd.prog.info? 5).map (fun i => (i.zero, i.size, i.bytes)) = some (some (.int .u8 0), 1, 1) := by kernel_rfl
theorem ownsRow_keep {w w' : World} {base : Nat} {e : TypeId} {size : Nat} {v : Value} {n : Nat} {xs : List Value} (h : w.ownsRow base e size v n xs) (hk : ∀ g, v.ownBlock = some g → w'.heap[g]? = w.heap[g]?) : w'.ownsRow base e size v n xs := by
  refine ⟨h.1, ?_⟩
  rcases h.2 with h2 | ⟨g, cap, cur, rfl, h1, h2, h3⟩
  · exact .inl h2
  · exact .inr ⟨g, cap, cur, rfl, h1, (hk g rfl).trans h2, h3⟩
/-- An append whose run is known, at the list of a plain region's operations. -/
theorem wpList_append_eq {P : Program} {w : World} {ops : Array Oper} {rest : List Oper} {o : Oper} {a : Act} {Q : Exit → Act → World → Prop} (hgd : o.guard = none) (s x : Operand) (t t2 : TypeId)
    (ho : o.op = .call { callee := .builtin .append, args := #[s, x], argTypes := #[t, t2] }) {v1 v2 v : Value} {w' : World} (hs : a.eval s = v1) (hx : a.eval x = v2) (hr : (Builtin.append_ #[t, t2] o.type #[v1, v2]).run P w = .ok v w')
    (h : wpList P ops Q rest (a.put o.dst v) w') : wpList P ops Q (o :: rest) a w := by
  refine wpList_plain hgd fun _ hK => ?_
  unfold Oper.wp execOp
  simp only [ho, resolve, invoke, builtin, Sem.run_bind, Sem.run_pure, Result.andThen_ok, List.map_toArray, List.map_cons, List.map_nil, hs, hx, hr]
  exact hK _ _ h
/-- An append whose run is known, at a step of a region that draws its order. -/
theorem step_append_eq {P : Program} {w : World} {ops : Array Oper} {o : Oper} {a : Act} {K : Act → World → Prop} {Q : Exit → Act → World → Prop} {E : Prop} (hgd : o.guard = none) (s x : Operand) (t t2 : TypeId)
    (ho : o.op = .call { callee := .builtin .append, args := #[s, x], argTypes := #[t, t2] }) {v1 v2 v : Value} {w' : World} (hs : a.eval s = v1) (hx : a.eval x = v2) (hr : (Builtin.append_ #[t, t2] o.type #[v1, v2]).run P w = .ok v w')
    (h : K (a.put o.dst v) w') : if Region.wanted o (yielded ops a.tmps) = true then Oper.wp P o a w K Q else E := by
  have hw : Region.wanted o (yielded ops a.tmps) = true := by simp [Region.wanted, hgd]
  rw [if_pos hw]
  unfold Oper.wp execOp
  simp only [ho, resolve, invoke, builtin, Sem.run_bind, Sem.run_pure, Result.andThen_ok, List.map_toArray, List.map_cons, List.map_nil, hs, hx, hr]
  exact h

theorem row_form {w : World} {base e n : Nat} {v : Value} {xs : List Value} {sz : Nat} (h : w.ownsRow base e sz v n xs) : ∃ a c, v = .slice a n c := by
  rcases h.2 with ⟨h1, h2⟩ | ⟨g, c, _, h1, _⟩
  · exact ⟨none, 0, by rw [h1, h2]⟩
  · exact ⟨_, c, h1⟩
/-- A list that lies below B: k cells an item. -/
def SlAt {α : Type} (k : Nat) (P : World → List Value → α → Prop) (B : Nat) (w : World) (v : Value) (l : List α) : Prop :=
  ∃ ao cap, v = .slice ao l.length cap ∧ (l.length ≤ 9223372036854775807 ∧ l.length ≤ cap ∧ cap ≤ maxLen) ∧ ∀ j x, l[j]? = some x → ∃ g o cs, ao = some ⟨g, o, none⟩ ∧ g < B ∧ (∀ r u, cs[r]? = some u → w.cell? ⟨g, o + j * k + r, none⟩ = some u) ∧ P w cs x
def IntP (_ : World) (cs : List Value) (n : Int) : Prop := cs = [.int .i64 n] ∧ -9223372036854775808 ≤ n ∧ n ≤ 9223372036854775807
def StrP (_ : World) (cs : List Value) (s : By) : Prop := cs = [.string ⟨s.toArray⟩]
def LstP (B : Nat) (w : World) (cs : List Value) (l : List Int) : Prop := ∃ v, cs = [v] ∧ SlAt 1 IntP B w v l
def InsP (_ : World) (cs : List Value) (i : In3) : Prop := cs = [.int .i64 i.o, .int .i64 i.a, .int .i64 i.b] ∧ (-9223372036854775808 ≤ i.o ∧ i.o ≤ 9223372036854775807) ∧ (-9223372036854775808 ≤ i.a ∧ i.a ≤ 9223372036854775807) ∧ (-9223372036854775808 ≤ i.b ∧ i.b ≤ 9223372036854775807)
def FdP (B : Nat) (w : World) (cs : List Value) (f : Fd) : Prop := ∃ v1 v2 v3 v4, cs = [.int .i64 f.pa, v1, v2, v3, v4] ∧ (-9223372036854775808 ≤ f.pa ∧ f.pa ≤ 9223372036854775807) ∧ SlAt 1 IntP B w v1 f.lo ∧ SlAt 1 IntP B w v2 f.re ∧ SlAt 1 IntP B w v3 f.ar ∧ SlAt 3 InsP B w v4 f.co
/-- A program lies: its four lists. -/
structure PgAt (B : Nat) (w : World) (v1 v2 v3 v4 : Value) (p : Pg) : Prop where
  ty : SlAt 1 (LstP B) B w v1 p.ty
  fu : SlAt 5 (FdP B) B w v2 p.fu
  ta : SlAt 1 (LstP B) B w v3 p.ta
  st : SlAt 1 StrP B w v4 p.st
section
variable {w w' : World} {B : Nat}
theorem SlAt.keep {α : Type} {k : Nat} {P P' : World → List Value → α → Prop} {v : Value} {l : List α} (R : SlAt k P B w v l) {B' : Nat} (hB : B ≤ B') (h : ∀ j, j < B → w'.heap[j]? = w.heap[j]?) (hP : ∀ cs x, P w cs x → P' w' cs x) : SlAt k P' B' w' v l := by
  obtain ⟨ao, cap, h1, h2, h3⟩ := R
  refine ⟨ao, cap, h1, h2, fun j x hx => ?_⟩
  obtain ⟨g, o, cs, h4, h5, h6, h7⟩ := h3 j x hx
  exact ⟨g, o, cs, h4, Nat.lt_of_lt_of_le h5 hB, fun r u hu => by rw [World.cell?_of_block (a := ⟨g, o + j * k + r, none⟩) (h g h5)]; exact h6 r u hu, hP cs x h7⟩
variable {B' : Nat} (hB : B ≤ B') (h : ∀ j, j < B → w'.heap[j]? = w.heap[j]?)
include hB h
theorem ints_keep {v : Value} {l : List Int} (R : SlAt 1 IntP B w v l) : SlAt 1 IntP B' w' v l := R.keep hB h fun _ _ h => h
theorem strs_keep {v : Value} {l : List By} (R : SlAt 1 StrP B w v l) : SlAt 1 StrP B' w' v l := R.keep hB h fun _ _ h => h
theorem ins_keep {v : Value} {l : List In3} (R : SlAt 3 InsP B w v l) : SlAt 3 InsP B' w' v l := R.keep hB h fun _ _ h => h
theorem lsts_keep {v : Value} {l : List (List Int)} (R : SlAt 1 (LstP B) B w v l) : SlAt 1 (LstP B') B' w' v l := R.keep hB h fun _ _ ⟨u, h1, h2⟩ => ⟨u, h1, ints_keep hB h h2⟩
theorem fds_keep {v : Value} {l : List Fd} (R : SlAt 5 (FdP B) B w v l) : SlAt 5 (FdP B') B' w' v l := R.keep hB h fun _ _ ⟨a, b, c, d, h1, h2, h3, h4, h5, h6⟩ => ⟨a, b, c, d, h1, h2, ints_keep hB h h3, ints_keep hB h h4, ints_keep hB h h5, ins_keep hB h h6⟩
theorem PgAt.keep {v1 v2 v3 v4 : Value} {p : Pg} (R : PgAt B w v1 v2 v3 v4 p) : PgAt B' w' v1 v2 v3 v4 p := ⟨lsts_keep hB h R.ty, fds_keep hB h R.fu, lsts_keep hB h R.ta, strs_keep hB h R.st⟩
end
theorem wrap_next {j n : Nat} (h : j < n) (hn : n ≤ 9223372036854775807) : wrap64 ((j : Int) + 1) = ((j + 1 : Nat) : Int) := by
  have h1 : (j : Int) < 9223372036854775807 := by omega
  clear h hn
  go_arith
theorem num_next {j n : Nat} (h : j < n) (hn : n ≤ 9223372036854775807) : Value.int .i64 (wrap64 ((j : Int) + 1)) = .int .i64 ((j + 1 : Nat) : Int) := by rw [wrap_next h hn]
theorem meas_next {j n : Nat} (h : j < n) (hn : n ≤ 9223372036854775807) : n - (wrap64 ((j : Int) + 1)).toNat < n - j := by rw [wrap_next h hn, Int.toNat_natCast]; omega
theorem intOf_int (x : Int) : intOf (Value.int .i64 x) = x := rfl
theorem meas_int {j n : Nat} (h : j < n) (hn : n ≤ 9223372036854775807) : n - (intOf (Value.int .i64 (wrap64 ((j : Int) + 1)))).toNat < n - (intOf (Value.int .i64 (j : Int))).toNat := by
  rw [wrap_next h hn, intOf_int, intOf_int, Int.toNat_natCast, Int.toNat_natCast]
  omega
end Go.Proofs.YtkdojpnihinpbaaDoor
