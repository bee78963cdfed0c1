/- Trees in memory, and what tests of them need. -/
import Derived.WalkKit
import Derived.Test.YtbejkphekfbfnaaGreatChecked
import Derived.WalkSpells
import Derived.WalkLawsBesides
import Derived.Deep.Draws
import Derived.Deep.AppendLies
import Derived.Deep.RegionHeld3
import Derived.Deep.DrawnRows
import Derived.Deep.QuietTactic
import Derived.BigQuiet
import Derived.Shelf.Abstract
import Derived.Deep.Onto
import Derived.Laws.Closers25b
import Derived.Lib.Hide
import Derived.Laws.OwnMore
import Derived.Laws.BitsLemmas
import Derived.Deep.RegionLaw
namespace Go.Proofs.YtbejkphekfbfnaaGreat
open Go.RowKit
attribute [local go_sem ↓] Go.wp_at_zero Go.wp_at_succ

/-- A token: kind, text, number, place. -/
abbrev Tk := Int × List UInt8 × Int × Nat

/-- A tree. -/
inductive Tr where
  | mk (k : Int) (s : List UInt8) (n : Int) (ks : List Tr)

def Tr.kind : Tr → Int | .mk k _ _ _ => k
def Tr.text : Tr → List UInt8 | .mk _ s _ _ => s
def Tr.num : Tr → Int | .mk _ _ n _ => n
def Tr.kids : Tr → List Tr | .mk _ _ _ ks => ks

def tkA (l : List Tk) (i : Nat) : Tk := l.getD i (0, [], 0, 0)
def kindA (l : List Tk) (i : Nat) : Int := (tkA l i).1
def textA (l : List Tk) (i : Nat) : List UInt8 := (tkA l i).2.1
def numA (l : List Tk) (i : Nat) : Int := (tkA l i).2.2.1
def isM (l : List Tk) (i : Nat) (s : List UInt8) : Bool := (kindA l i == 4 || kindA l i == 5) && textA l i == s
def markA (l : List Tk) (i : Nat) : List UInt8 := if kindA l i == 4 then textA l i else []

def atTypeR (l : List Tk) (i : Nat) : Bool := kindA l i == 1 || isM l i [42] || isM l i [91] || isM l i [102, 117, 110, 99]
def rankL (s : List UInt8) : Int :=
  if s == [124, 124] then 1 else if s == [38, 38] then 2
  else if s == [61, 61] || s == [33, 61] || s == [60] || s == [60, 61] || s == [62] || s == [62, 61] then 3
  else if s == [43] || s == [45] then 4 else if s == [42] || s == [47] || s == [37] then 5 else 0
def prefixL (s : List UInt8) : Bool := s == [45] || s == [33] || s == [38] || s == [42]
def isNameT (t : Tr) : Bool := t.kind == 44
def isCallT (t : Tr) : Bool := t.kind == 51
def isPlaceT (t : Tr) : Bool := t.kind == 44 || t.kind == 48 || t.kind == 49 || (t.kind == 52 && t.text == [42])
/-- All below block B lies as it lay, but for block P. -/
structure But (P B : Nat) (w w' : World) : Prop where
  os : w'.os = w.os
  tape : w'.tape = w.tape
  output : w'.output = w.output
  size : w.heap.size ≤ w'.heap.size
  block : ∀ k, k < B → k ≠ P → w'.heap[k]? = w.heap[k]?

theorem But.refl (P B : Nat) (w : World) : But P B w w := ⟨rfl, rfl, rfl, Nat.le_refl _, fun _ _ _ => rfl⟩
theorem But.trans {P B : Nat} {a b c : World} (h : But P B a b) (k : But P B b c) : But P B a c :=
  ⟨k.os.trans h.os, k.tape.trans h.tape, k.output.trans h.output, Nat.le_trans h.size k.size, fun i hi hp => (k.block i hi hp).trans (h.block i hi hp)⟩
theorem But.mono {P B C : Nat} {a b : World} (h : But P B a b) (hC : C ≤ B) : But P C a b := ⟨h.os, h.tape, h.output, h.size, fun k hk hp => h.block k (Nat.lt_of_lt_of_le hk hC) hp⟩
theorem But.of_below {P B : Nat} {a b : World} (h : Below B a b) : But P B a b := ⟨h.os, h.tape, h.output, h.size, fun k hk _ => h.block k hk⟩
theorem But.drew {P B : Nat} {a w : World} (h : But P B a w) : But P B a w.drew := ⟨h.os, h.tape, h.output, h.size, h.block⟩
theorem But.drewN {P B : Nat} {a w : World} (h : But P B a w) (q : Nat) : But P B a (w.drewN q) := ⟨h.os, h.tape, h.output, h.size, h.block⟩
theorem But.alloc {P B : Nat} {a w : World} (h : But P B a w) (hB : B ≤ w.heap.size) (o : Obj) : But P B a (w.alloc o) :=
  ⟨h.os, h.tape, h.output, by rw [World.size_alloc]; exact Nat.le_succ_of_le h.size, fun k hk hp => (Below.heap_alloc w o k (Nat.lt_of_lt_of_le hk hB)).trans (h.block k hk hp)⟩
theorem But.setCell {P B : Nat} {a w : World} (h : But P B a w) {p : Addr} (hp : p.block = P ∨ B ≤ p.block) (u : Value) : But P B a (w.setCell p u) :=
  ⟨h.os, h.tape, h.output, by rw [World.size_setCell]; exact h.size, fun k hk hk2 => (Below.heap_setCell w p u k (by rcases hp with hp | hp <;> omega)).trans (h.block k hk hk2)⟩
theorem But.grown {P B : Nat} {a w w' : World} {row : Option Nat} (h : But P B a w) (hg : w.grownBy w' row) (hB : B ≤ w.heap.size) (hr : ∀ k, row = some k → B ≤ k) : But P B a w' :=
  ⟨hg.os.trans h.os, hg.tape.trans h.tape, hg.output.trans h.output, Nat.le_trans h.size hg.size,
    fun k hk hp => (hg.block k (Nat.lt_of_lt_of_le hk hB) (fun e => by have := hr k e.symm; omega)).trans (h.block k hk hp)⟩
theorem But.cell {P B : Nat} {w w' : World} (h : But P B w w') {b o : Nat} (h1 : b < B) (h2 : b ≠ P) : w'.cell? ⟨b, o, none⟩ = w.cell? ⟨b, o, none⟩ := World.cell?_of_block (w := w) (a := ⟨b, o, none⟩) (h.block b h1 h2)
theorem But.frozen {P B : Nat} {w w' : World} (h : But P B w w') {b o : Nat} (h1 : b < B) (h2 : b ≠ P) : w'.frozen? ⟨b, o, none⟩ = w.frozen? ⟨b, o, none⟩ := World.frozen?_of_block (w := w) (a := ⟨b, o, none⟩) (h.block b h1 h2)

theorem lt_of_block {w : World} {b : Nat} {o : Obj} (h : w.heap[b]? = some o) : b < w.heap.size := by
  rcases Nat.lt_or_ge b w.heap.size with h1 | h1
  · exact h1
  · rw [Array.getElem?_eq_none h1] at h; cases h
theorem lt_of_cell {w : World} {b o : Nat} {v : Value} (h : w.cell? ⟨b, o, none⟩ = some v) : b < w.heap.size := World.block_lt_of_cell? w ⟨b, o, none⟩ h

section
variable {w w' : World} {i : Nat} {h : Bool}
theorem heap_setCell_same (w : World) (b o : Nat) (u : Value) {c : Array Value} {t : TypeId} {f : Nat × Nat} (hb : w.heap[b]? = some (.cells c t f)) :
    (w.setCell ⟨b, o, none⟩ u).heap[b]? = some (.cells (c.setIfInBounds o u) t f) := by
  simp [World.setCell, Array.getElem?_modify, hb]
theorem tkA_some {l : List Tk} {i : Nat} (h : i < l.length) : l[i]? = some (tkA l i) := by simp [tkA, List.getD_eq_getElem?_getD, List.getElem?_eq_getElem h]
end

/-- A node's value: the tree and the slice of its kids. -/
abbrev tv (t : Tr) (sl : Value) : Value := .agg #[.int .i64 t.kind, .string ⟨t.text.toArray⟩, .int .i64 t.num, sl]
def cellsOf : List Tr → List Value → List Value
  | t :: ts, sl :: sls => .int .i64 t.kind :: .string ⟨t.text.toArray⟩ :: .int .i64 t.num :: sl :: cellsOf ts sls
  | _, _ => []
/-- n elements, whose cells are xs, lie at the slice sl, in a block of S. -/
def RowAt (w : World) (S : Nat → Prop) (sl : Value) (n : Nat) (xs : List Value) : Prop :=
  (n = 0 ∧ ∃ ao cap, sl = .slice ao 0 cap) ∨
  ∃ g o cap, sl = .slice (some ⟨g, o, none⟩) n cap ∧ n ≤ cap ∧ S g ∧ ∀ (j : Nat) u, xs[j]? = some u → w.cell? ⟨g, o + j, none⟩ = some u
mutual
/-- The tree t with its kids' slice sl lies in w, in blocks of S. -/
def KT (w : World) (S : Nat → Prop) : Tr → Value → Prop
  | .mk _ _ _ ks, sl => ∃ sls, RowAt w S sl ks.length (cellsOf ks sls) ∧ KL w S ks sls
def KL (w : World) (S : Nat → Prop) : List Tr → List Value → Prop
  | [], sls => sls = []
  | t :: ts, sls => ∃ sl r, sls = sl :: r ∧ KT w S t sl ∧ KL w S ts r
end

theorem RowAt.keep {w w' : World} {S S' : Nat → Prop} {sl : Value} {n : Nat} {xs : List Value} (hw : ∀ b, S b → w'.heap[b]? = w.heap[b]?) (hS : ∀ b, S b → S' b) (h : RowAt w S sl n xs) : RowAt w' S' sl n xs := by
  rcases h with h | ⟨g, o, cap, h1, hcp, h2, h3⟩
  · exact .inl h
  · exact .inr ⟨g, o, cap, h1, hcp, hS g h2, fun j u hj => (World.cell?_of_block (w := w) (a := ⟨g, o + j, none⟩) (hw g h2)).trans (h3 j u hj)⟩
mutual
theorem KT.keep {w w' : World} {S S' : Nat → Prop} (hw : ∀ b, S b → w'.heap[b]? = w.heap[b]?) (hS : ∀ b, S b → S' b) : ∀ (t : Tr) (sl : Value), KT w S t sl → KT w' S' t sl
  | .mk _ _ _ ks, sl, h => by
    simp only [KT] at h ⊢
    obtain ⟨sls, h1, h2⟩ := h
    exact ⟨sls, h1.keep hw hS, KL.keep hw hS ks sls h2⟩
theorem KL.keep {w w' : World} {S S' : Nat → Prop} (hw : ∀ b, S b → w'.heap[b]? = w.heap[b]?) (hS : ∀ b, S b → S' b) : ∀ (ts : List Tr) (sls : List Value), KL w S ts sls → KL w' S' ts sls
  | [], sls, h => by simp only [KL] at h ⊢; exact h
  | t :: ts, sls, h => by
    simp only [KL] at h ⊢
    obtain ⟨sl, r, h1, h2, h3⟩ := h
    exact ⟨sl, r, h1, KT.keep hw hS t sl h2, KL.keep hw hS ts r h3⟩
end
theorem KL.length {w : World} {S : Nat → Prop} : ∀ {ts : List Tr} {sls : List Value}, KL w S ts sls → sls.length = ts.length
  | [], sls, h => by simp only [KL] at h; rw [h]; rfl
  | t :: ts, sls, h => by
    simp only [KL] at h
    obtain ⟨sl, r, rfl, _, h3⟩ := h
    simp [KL.length h3]
theorem KL.append {w : World} {S : Nat → Prop} : ∀ {ts us : List Tr} {a b : List Value}, KL w S ts a → KL w S us b → KL w S (ts ++ us) (a ++ b)
  | [], us, a, b, h, k => by simp only [KL] at h; rw [h]; exact k
  | t :: ts, us, a, b, h, k => by
    simp only [KL] at h
    obtain ⟨sl, r, rfl, h2, h3⟩ := h
    simp only [List.cons_append, KL]
    exact ⟨sl, r ++ b, rfl, h2, KL.append h3 k⟩
theorem cellsOf_append : ∀ {ts us : List Tr} {a b : List Value}, a.length = ts.length → cellsOf (ts ++ us) (a ++ b) = cellsOf ts a ++ cellsOf us b
  | [], us, a, b, h => by
    have : a = [] := List.eq_nil_of_length_eq_zero (by simpa using h)
    subst this; simp [cellsOf]
  | t :: ts, us, sl :: r, b, h => by simp only [List.cons_append, cellsOf]; rw [cellsOf_append (by simpa using h)]
  | t :: ts, us, [], b, h => by simp at h
theorem cellsOf_length : ∀ {ts : List Tr} {a : List Value}, a.length = ts.length → (cellsOf ts a).length = ts.length * 4
  | [], a, h => by simp [cellsOf]
  | t :: ts, sl :: r, h => by simp only [cellsOf, List.length_cons]; rw [cellsOf_length (by simpa using h)]; omega
  | t :: ts, [], h => by simp at h
theorem cellsOf_one : ∀ {ts : List Tr} {a : List Value}, (∀ v ∈ a, v.oneCell' = true) → ∀ u ∈ cellsOf ts a, u.oneCell' = true
  | [], a, _, u, hu => by simp [cellsOf] at hu
  | t :: ts, [], _, u, hu => by simp [cellsOf] at hu
  | t :: ts, sl :: r, hv, u, hu => by
    simp only [cellsOf, List.mem_cons] at hu
    rcases hu with rfl | rfl | rfl | rfl | hu
    · rfl
    · rfl
    · rfl
    · exact hv _ (by simp)
    · exact cellsOf_one (fun v hv' => hv v (by simp [hv'])) u hu

theorem KT.slice {w : World} {S : Nat → Prop} : ∀ {t : Tr} {sl : Value}, KT w S t sl → ∃ ao n cap, sl = .slice ao n cap
  | .mk _ _ _ ks, sl, h => by
    simp only [KT] at h
    obtain ⟨sls, h1 | ⟨g, o, cap, h1, _⟩, _⟩ := h
    · obtain ⟨_, ao, cap, h⟩ := h1; exact ⟨ao, 0, cap, h⟩
    · exact ⟨_, _, cap, h1⟩
theorem KL.one {w : World} {S : Nat → Prop} : ∀ {ts : List Tr} {sls : List Value}, KL w S ts sls → ∀ v ∈ sls, v.oneCell' = true
  | [], sls, h, v, hv => by simp only [KL] at h; rw [h] at hv; simp at hv
  | t :: ts, sls, h, v, hv => by
    simp only [KL] at h
    obtain ⟨sl, r, rfl, h2, h3⟩ := h
    simp only [List.mem_cons] at hv
    rcases hv with rfl | hv
    · obtain ⟨ao, n, cap, rfl⟩ := h2.slice; rfl
    · exact KL.one h3 v hv

abbrev Rg (lo hi : Nat) : Nat → Prop := fun b => lo ≤ b ∧ b < hi
/-- A list of trees that a call has made: its own row, the trees elsewhere. -/
def OwnL (w : World) (B : Nat) (v : Value) (ts : List Tr) : Prop :=
  ∃ sls, w.ownsRow B 24 4 v ts.length (cellsOf ts sls) ∧ KL w (fun b => (B ≤ b ∧ b < w.heap.size) ∧ some b ≠ v.ownBlock) ts sls

abbrev tkV (t : Tk) : Value := .agg #[.int .i64 t.1, .string ⟨t.2.1.toArray⟩, .int .i64 t.2.2.1, .int .i64 t.2.2.2]

def atA (l : List Tk) (i : Nat) : Nat := (tkA l i).2.2.2
/-- A node's box: four cells that may be written. -/
def Box (w : World) (n : Nat) : Prop := ∃ c0 c1 c2 c3, w.heap[n]? = some (.cells #[c0, c1, c2, c3] 24 (0, 0))
theorem Box.of_block {w w' : World} {n : Nat} (h : Box w n) (hb : w'.heap[n]? = w.heap[n]?) : Box w' n := let ⟨c0, c1, c2, c3, e⟩ := h; ⟨c0, c1, c2, c3, hb.trans e⟩
theorem Box.new (w : World) (c0 c1 c2 c3 : Value) : Box (w.alloc (.cells #[c0, c1, c2, c3] 24)) w.heap.size := ⟨c0, c1, c2, c3, heap_alloc_new w _⟩
theorem Box.lt {w : World} {n : Nat} (h : Box w n) : n < w.heap.size := let ⟨_, _, _, _, e⟩ := h; lt_of_block e
theorem Box.open {w : World} {n : Nat} (h : Box w n) : ∃ c0 c1 c2 c3, w.cell? ⟨n, 0, none⟩ = some c0 ∧ w.cell? ⟨n, 1, none⟩ = some c1 ∧ w.cell? ⟨n, 2, none⟩ = some c2 ∧ w.cell? ⟨n, 3, none⟩ = some c3 ∧ ∀ o, w.frozen? ⟨n, o, none⟩ = false := by
  obtain ⟨c0, c1, c2, c3, e⟩ := h
  exact ⟨c0, c1, c2, c3, by simp [World.cell?, e], by simp [World.cell?, e], by simp [World.cell?, e], by simp [World.cell?, e], fun o => by simp [World.frozen?, e]⟩
theorem Box.later {P B : Nat} {w w' : World} {n : Nat} (h : Box w n) (hb : But P B w w') (h1 : n < B) (h2 : n ≠ P) : Box w' n := h.of_block (hb.block n h1 h2)
theorem Box.below {B : Nat} {w w' : World} {n : Nat} (h : Box w n) (hb : Below B w w') (h1 : n < B) : Box w' n := h.of_block (hb.block n h1)

/-- w' is w but for block n. -/
structure Put (n : Nat) (w w' : World) : Prop where
  os : w'.os = w.os
  tape : w'.tape = w.tape
  output : w'.output = w.output
  size : w'.heap.size = w.heap.size
  block : ∀ k, k ≠ n → w'.heap[k]? = w.heap[k]?
theorem Put.refl (n : Nat) (w : World) : Put n w w := ⟨rfl, rfl, rfl, rfl, fun _ _ => rfl⟩
theorem Put.setCell {n : Nat} {a w : World} (h : Put n a w) (o : Nat) (u : Value) : Put n a (w.setCell ⟨n, o, none⟩ u) :=
  ⟨h.os, h.tape, h.output, by rw [World.size_setCell]; exact h.size, fun k hk => (Below.heap_setCell w _ u k hk).trans (h.block k hk)⟩
theorem But.put {P B n : Nat} {a w w' : World} (h : But P B a w) (hp : Put n w w') (hn : n = P ∨ B ≤ n) : But P B a w' :=
  ⟨hp.os.trans h.os, hp.tape.trans h.tape, hp.output.trans h.output, by rw [hp.size]; exact h.size, fun k hk hk2 => (hp.block k (by rcases hn with e | e <;> omega)).trans (h.block k hk hk2)⟩
theorem putN4 {n : Nat} {W : World} (hB : Box W n) (v0 v1 v2 v3 : Value) :
    ∃ Wf, ((((W.setCell ⟨n, 0, none⟩ v0).setCell ⟨n, 1, none⟩ v1).setCell ⟨n, 2, none⟩ v2).setCell ⟨n, 3, none⟩ v3) = Wf ∧ Put n W Wf ∧ Box Wf n ∧
      (Wf.cell? ⟨n, 0, none⟩ = some v0 ∧ Wf.cell? ⟨n, 1, none⟩ = some v1 ∧ Wf.cell? ⟨n, 2, none⟩ = some v2 ∧ Wf.cell? ⟨n, 3, none⟩ = some v3) := by
  obtain ⟨c0, c1, c2, c3, e⟩ := hB
  have e4 : ((((W.setCell ⟨n, 0, none⟩ v0).setCell ⟨n, 1, none⟩ v1).setCell ⟨n, 2, none⟩ v2).setCell ⟨n, 3, none⟩ v3).heap[n]? = some (.cells #[v0, v1, v2, v3] 24 (0, 0)) := by
    rw [heap_setCell_same _ n 3 v3 (heap_setCell_same _ n 2 v2 (heap_setCell_same _ n 1 v1 (heap_setCell_same _ n 0 v0 e)))]; rfl
  refine ⟨_, rfl, ((((Put.refl n W).setCell 0 v0).setCell 1 v1).setCell 2 v2).setCell 3 v3, ⟨_, _, _, _, e4⟩, ?_⟩
  refine ⟨?_, ?_, ?_, ?_⟩ <;> simp [World.cell?, e4]

/-- What lies in blocks of S lies in w' as in w. -/
def Fr (S : Nat → Prop) (w w' : World) : Prop := ∀ b, S b → w'.heap[b]? = w.heap[b]?
theorem Fr.refl (S : Nat → Prop) (w : World) : Fr S w w := fun _ _ => rfl
theorem Fr.alloc {S : Nat → Prop} {a w : World} (h : Fr S a w) (hS : ∀ b, S b → b < w.heap.size) (o : Obj) : Fr S a (w.alloc o) := fun b hb => (Below.heap_alloc w o b (hS b hb)).trans (h b hb)
theorem Fr.put {S : Nat → Prop} {a w w' : World} {n : Nat} (h : Fr S a w) (hp : Put n w w') (hn : ∀ b, S b → b ≠ n) : Fr S a w' := fun b hb => (hp.block b (hn b hb)).trans (h b hb)
theorem Fr.but {S : Nat → Prop} {a w w' : World} {P B : Nat} (h : Fr S a w) (hp : But P B w w') (hn : ∀ b, S b → b < B ∧ b ≠ P) : Fr S a w' := fun b hb => (hp.block b (hn b hb).1 (hn b hb).2).trans (h b hb)
theorem Fr.below {S : Nat → Prop} {a w w' : World} {B : Nat} (h : Fr S a w) (hp : Below B w w') (hn : ∀ b, S b → b < B) : Fr S a w' := fun b hb => (hp.block b (hn b hb)).trans (h b hb)
theorem Fr.grown {S : Nat → Prop} {a w w' : World} {row : Option Nat} (h : Fr S a w) (hp : w.grownBy w' row) (hn : ∀ b, S b → b < w.heap.size ∧ some b ≠ row) : Fr S a w' := fun b hb => (hp.block b (hn b hb).1 (hn b hb).2).trans (h b hb)
theorem KT.fr {S S' : Nat → Prop} {w w' : World} {t : Tr} {sl : Value} (h : KT w S t sl) (hf : Fr S w w') (hS : ∀ b, S b → S' b) : KT w' S' t sl := KT.keep hf hS t sl h
theorem KL.fr {S S' : Nat → Prop} {w w' : World} {ts : List Tr} {sls : List Value} (h : KL w S ts sls) (hf : Fr S w w') (hS : ∀ b, S b → S' b) : KL w' S' ts sls := KL.keep hf hS ts sls h

theorem held4 {P : Nat} {w w3 : World} {a b c d : Value} (hb : But P (w.alloc (.cells #[a, b, c, d] 24)).heap.size (w.alloc (.cells #[a, b, c, d] 24)) w3) (hP : P < w.heap.size) :
    w3.cell? ⟨w.heap.size, 0, none⟩ = some a ∧ w3.cell? ⟨w.heap.size, 1, none⟩ = some b ∧ w3.cell? ⟨w.heap.size, 2, none⟩ = some c ∧ w3.cell? ⟨w.heap.size, 3, none⟩ = some d := by
  have r : ∀ o, w3.cell? ⟨w.heap.size, o, none⟩ = (w.alloc (.cells #[a, b, c, d] 24)).cell? ⟨w.heap.size, o, none⟩ := fun o => hb.cell (by simp) (by omega)
  refine ⟨?_, ?_, ?_, ?_⟩ <;> rw [r] <;> simp
abbrev zeroN : Obj := .cells #[.int .i64 0, .string ⟨#[]⟩, .int .i64 0, .slice none 0 0] 24
theorem ownsRow_fr {w w' : World} {base : Nat} {e : TypeId} {size : Nat} {v : Value} {n : Nat} {xs : List Value} (hw : ∀ b, base ≤ b → b < w.heap.size → w'.heap[b]? = w.heap[b]?) (h : w.ownsRow base e size v n xs) : w'.ownsRow base e size v n xs := by
  refine ⟨h.1, ?_⟩
  rcases h.2 with hn | ⟨g, cap, cur, rfl, hb, hg, rest⟩
  · exact .inl hn
  · exact .inr ⟨g, cap, cur, rfl, hb, (hw g hb (lt_of_block hg)).trans hg, rest⟩
theorem OwnL.later {w w' : World} {B : Nat} {v : Value} {ts : List Tr} (h : OwnL w B v ts) (hz : w.heap.size ≤ w'.heap.size) (hw : ∀ b, B ≤ b → b < w.heap.size → w'.heap[b]? = w.heap[b]?) : OwnL w' B v ts := by
  obtain ⟨sls, h1, h2⟩ := h
  exact ⟨sls, ownsRow_fr hw h1, h2.fr (fun b hb => hw b hb.1.1 hb.1.2) (fun b hb => ⟨⟨hb.1.1, by omega⟩, hb.2⟩)⟩
theorem OwnL.wide {w : World} {B C : Nat} {v : Value} {ts : List Tr} (h : OwnL w B v ts) (hC : C ≤ B) : OwnL w C v ts := by
  obtain ⟨sls, h1, h2⟩ := h
  exact ⟨sls, h1.mono hC, h2.fr (Fr.refl _ _) (fun b hb => ⟨⟨by omega, hb.1.2⟩, hb.2⟩)⟩
theorem OwnL.but {w w' : World} {B P D : Nat} {v : Value} {ts : List Tr} (h : OwnL w B v ts) (hb : But P D w w') (h1 : w.heap.size ≤ D) (h2 : P < B) : OwnL w' B v ts :=
  h.later hb.size (fun b hb1 hb2 => hb.block b (by omega) (by omega))
theorem OwnL.below {w w' : World} {B D : Nat} {v : Value} {ts : List Tr} (h : OwnL w B v ts) (hb : Below D w w') (h1 : w.heap.size ≤ D) : OwnL w' B v ts :=
  h.later hb.size (fun b _ hb2 => hb.block b (by omega))
theorem OwnL.slice {w : World} {B : Nat} {v : Value} {ts : List Tr} (h : OwnL w B v ts) : ∃ ao cap, v = .slice ao ts.length cap := by
  obtain ⟨sls, h1, _⟩ := h
  rcases h1.2 with ⟨rfl, e⟩ | ⟨g, cap, cur, rfl, _⟩
  · exact ⟨none, 0, by rw [e]⟩
  · exact ⟨_, cap, rfl⟩
theorem OwnL.nil (w : World) (B : Nat) : OwnL w B (.slice none 0 0) [] := ⟨[], World.ownsRow_nil _ _ _ _, by simp [KL]⟩
/-- A slice that is built of trees. -/
theorem OwnL.made {w : World} {B : Nat} {ts : List Tr} {sls : List Value} {c : Array Value} (hB : B ≤ w.heap.size) (hk : KL w (Rg B w.heap.size) ts sls) (hc : c = (cellsOf ts sls).toArray) (hn : ts.length ≤ 1000000) :
    OwnL (w.alloc (.cells c 24)) B (.slice (some ⟨w.heap.size, 0, none⟩) ts.length ts.length) ts := by
  subst hc
  have hl := cellsOf_length hk.length
  refine ⟨sls, ⟨hl, .inr ⟨w.heap.size, ts.length, _, rfl, hB, heap_alloc_new w _, Nat.le_refl _, by unfold maxLen; omega, by simpa using hl, ?_⟩⟩, ?_⟩
  · rw [List.take_of_length_le (by simp [hl])]
  · exact hk.fr (fun b hb => Below.heap_alloc w _ b hb.2) (fun b hb => ⟨⟨hb.1, by simp; omega⟩, by simp [Value.ownBlock]; omega⟩)
theorem OwnL.one {w : World} {B lo hi : Nat} {t : Tr} {sl : Value} (hB : B ≤ w.heap.size) (hk : KT w (Rg lo hi) t sl) (h1 : B ≤ lo) (h2 : hi ≤ w.heap.size) :
    OwnL (w.alloc (.cells #[.int .i64 t.kind, .string ⟨t.text.toArray⟩, .int .i64 t.num, sl] 24)) B (.slice (some ⟨w.heap.size, 0, none⟩) 1 1) [t] :=
  OwnL.made (ts := [t]) (sls := [sl]) hB (by simp only [KL]; exact ⟨sl, [], rfl, hk.fr (Fr.refl _ _) (fun b hb => by omega), rfl⟩) rfl (by simp)
/-- A tree's kids out of an own list. -/
theorem OwnL.kt {w : World} {B : Nat} {v : Value} {ts : List Tr} (h : OwnL w B v ts) (k : Int) (s : List UInt8) (n : Int) : KT w (Rg B w.heap.size) (.mk k s n ts) v := by
  obtain ⟨sls, h1, h2⟩ := h
  simp only [KT]
  refine ⟨sls, ?_, h2.fr (Fr.refl _ _) (fun b hb => hb.1)⟩
  rcases h1.2 with ⟨rfl, e⟩ | ⟨g, cap, cur, rfl, hb, hg, hcap, _, hsz, htk⟩
  · exact .inl ⟨e, none, 0, rfl⟩
  · refine .inr ⟨g, 0, cap, rfl, hcap, ⟨hb, lt_of_block hg⟩, fun j u hj => ?_⟩
    rw [← htk] at hj
    have hj' : cur[j]? = some u := by
      rw [List.getElem?_take] at hj
      split at hj
      · simpa using hj
      · cases hj
    simp [World.cell?, hg, hj']
/-- One tree more. -/
theorem own_snoc {W w3 : World} {B lo hi : Nat} {v v' : Value} {acc : List Tr} {sls : List Value} {t : Tr} {sl : Value} {g : Nat} (hk : KL W (fun b => (B ≤ b ∧ b < lo) ∧ some b ≠ v.ownBlock) acc sls) (ht : KT W (Rg lo hi) t sl)
    (hB : B ≤ lo) (hlo : lo ≤ W.heap.size) (hv : ∀ k, v.ownBlock = some k → k < lo) (hhi : hi ≤ W.heap.size) (hown : w3.ownsRow B 24 4 v' (acc.length + 1) (cellsOf acc sls ++ [.int .i64 t.kind, .string ⟨t.text.toArray⟩, .int .i64 t.num, sl]))
    (hg : W.grownBy w3 v.ownBlock) (hat : v.ownBlock = some g ∨ g = W.heap.size) (hv' : v'.ownBlock = some g) : OwnL w3 B v' (acc ++ [t]) := by
  have hz := hg.size
  refine ⟨sls ++ [sl], ?_, ?_⟩
  · rw [cellsOf_append hk.length]
    simpa [cellsOf] using hown
  · refine KL.append (hk.fr (fun b hb => hg.block b (by omega) hb.2) (fun b hb => ⟨⟨hb.1.1, by omega⟩, ?_⟩)) ?_
    · rw [hv']
      rcases hat with e | e
      · rw [← e]; exact hb.2
      · intro e2; cases e2; omega
    · simp only [KL]
      refine ⟨sl, [], rfl, ht.fr (fun b hb => hg.block b (by omega) (fun e => by have := hv b e.symm; omega)) (fun b hb => ⟨⟨by omega, by omega⟩, ?_⟩), rfl⟩
      rw [hv']
      rcases hat with e | e
      · intro e2; cases e2; have := hv g e; omega
      · intro e2; cases e2; omega

theorem Tryz.info24 : (Tryz.prog.info? 24).map (fun i => (i.zero, i.size, i.bytes)) = some (some (.agg #[.int .i64 0, .string ⟨#[]⟩, .int .i64 0, .slice none 0 0]), 4, 56) := by kernel_rfl

section
variable {w W W' : World} {i j k : Nat} {h g : Bool} {t : Tr} {sl v : Value} {ts : List Tr}
end

/-- Two lists that a call has made, the second one later: the first with the second behind it. -/
theorem run_join {W : World} {B C : Nat} {v1 v2 : Value} {ts us : List Tr} (ty : TypeId) (h1 : OwnL W B v1 ts) (h2 : OwnL W C v2 us) (hBC : B ≤ C) (hC : C ≤ W.heap.size) (hv : ∀ k, v1.ownBlock = some k → k < C) (hlen : ts.length + us.length ≤ 1000000) :
    ∃ ao cap w', (Builtin.append_ #[22, 22] ty #[v1, v2]).run Tryz.prog W = .ok (.slice ao (ts.length + us.length) cap) w' ∧ OwnL w' B (.slice ao (ts.length + us.length) cap) (ts ++ us) ∧ W.grownBy w' v1.ownBlock := by
  obtain ⟨sls, o1, k1⟩ := h1
  obtain ⟨sls2, o2, k2⟩ := h2
  obtain ⟨i0, hi, hz0, hz1, hz2⟩ := info_parts Tryz.info24
  have key : ∃ v' w', (Builtin.append_ #[22, 22] ty #[v1, v2]).run Tryz.prog W = .ok v' w' ∧ w'.ownsRow B 24 4 v' (ts.length + us.length) (cellsOf ts sls ++ cellsOf us sls2) ∧ W.grownBy w' v1.ownBlock ∧ (v'.ownBlock = v1.ownBlock ∨ v'.ownBlock = some W.heap.size) := by
    rcases o2.2 with ⟨rfl, e0⟩ | ⟨g, cap, cur, rfl, hb, hg, hcap, _, hsz, htk⟩
    · have hu : us = [] := List.eq_nil_of_length_eq_zero e0
      subst hu
      refine ⟨v1, W, run_append_owned_none W B 22 ty 24 i0 4 Tryz.underlying22 hi v1 _ _ o1, ?_, ⟨rfl, rfl, rfl, Nat.le_refl _, fun _ _ _ => rfl⟩, .inl rfl⟩
      cases sls2 with
      | nil => simpa [cellsOf] using o1
      | cons a b => simpa [cellsOf] using o1
    · have hnews : ∀ j u, (cellsOf us sls2)[j]? = some u → W.cell? ((⟨g, 0, none⟩ : Addr).add j) = some u := by
        intro j u hj
        rw [← htk] at hj
        have hj' : cur[j]? = some u := by
          rw [List.getElem?_take] at hj
          split at hj
          · simpa using hj
          · cases hj
        have ha : (⟨g, 0, none⟩ : Addr).add j = ⟨g, j, none⟩ := by cases j <;> simp [Addr.add]
        rw [ha]; simp [World.cell?, hg, hj']
      obtain ⟨v', w', hr, ho, hgr, _, hat⟩ := run_append_own_at (P := Tryz.prog) W B 22 ty 24 i0 _ 4 56 Tryz.underlying22 hi hz0 hz1 hz2 rfl (by decide) v1 _ _ o1 ⟨g, 0, none⟩ us.length cap (cellsOf us sls2) (cellsOf_length k2.length) hnews (cellsOf_one k2.one) (by unfold maxLen; omega) (by omega) (by omega)
      exact ⟨v', w', hr, ho, hgr, hat⟩
  obtain ⟨v', w', hr, ho, hgr, hat⟩ := key
  have hz := hgr.size
  have hO : OwnL w' B v' (ts ++ us) := by
    refine ⟨sls ++ sls2, ?_, KL.append (k1.fr (fun b hb => hgr.block b hb.1.2 hb.2) (fun b hb => ⟨⟨hb.1.1, by omega⟩, ?_⟩)) (k2.fr (fun b hb => hgr.block b hb.1.2 (fun e => by have := hv b e.symm; omega)) (fun b hb => ⟨⟨by omega, by omega⟩, ?_⟩))⟩
    · rw [cellsOf_append k1.length, List.length_append]; exact ho
    · rcases hat with e | e
      · rw [e]; exact hb.2
      · rw [e]; intro e2; cases e2; omega
    · rcases hat with e | e
      · rw [e]; intro e2; have := hv b e2.symm; omega
      · rw [e]; intro e2; cases e2; omega
  obtain ⟨ao, cap, e⟩ := hO.slice
  rw [List.length_append] at e
  rw [e] at hr hO
  exact ⟨ao, cap, w', hr, hO, hgr⟩

theorem wpList_join {W : World} {ops : Array Oper} {rest : List Oper} {o : Oper} {a : Act} {Q : Exit → Act → World → Prop} (hgd : o.guard = none) (s x : Operand)
    (ho : o.op = .call { callee := .builtin .append, args := #[s, x], argTypes := #[22, 22] }) {B C : Nat} {v1 v2 : Value} {ts us : List Tr} (hs : a.eval s = v1) (hx : a.eval x = v2)
    (h1 : OwnL W B v1 ts) (h2 : OwnL W C v2 us) (hBC : B ≤ C) (hC : C ≤ W.heap.size) (hv : ∀ k, v1.ownBlock = some k → k < C) (hlen : ts.length + us.length ≤ 1000000)
    (h : ∀ ao cap w', OwnL w' B (.slice ao (ts.length + us.length) cap) (ts ++ us) → W.grownBy w' v1.ownBlock → wpList Tryz.prog ops Q rest (a.put o.dst (.slice ao (ts.length + us.length) cap)) w') : wpList Tryz.prog ops Q (o :: rest) a W := by
  refine wpList_plain hgd fun _ hK => ?_
  obtain ⟨ao, cap, w', hr, hO, hg⟩ := run_join o.type h1 h2 hBC hC hv hlen
  unfold Oper.wp execOp
  simp only [ho, resolve, invoke, builtin, Sem.run_bind, Sem.run_pure, Result.andThen_ok, List.map_toArray, List.map_cons, List.map_nil, hs, hx, hr]
  exact hK _ _ (h ao cap w' hO hg)

section
variable {w W W' : World} {i j k : Nat} {h : Bool} {t : Tr} {sl v : Value} {ts : List Tr}
theorem OwnL.lt {B : Nat} (T : OwnL W B v ts) : ∀ k, v.ownBlock = some k → B ≤ k ∧ k < W.heap.size := by
  obtain ⟨sls, o, _⟩ := T
  exact o.lt
end
theorem isPrefix_any (s : List UInt8) (w : World) : Calls Tryz.prog 169 #[.string ⟨s.toArray⟩] w fun e w' => e = .returned (.bool (prefixL s)) ∧ w' = w := by
  have HR : Hid (prefixL s = (s == [45] || s == [33] || s == [38] || s == [42])) := rfl
  by_cases h0 : s = [45]
  · subst h0
    have HP : Hid (prefixL _ = true) := Lib.hid (show prefixL [45] = true by decide)
    go_enter Tryz.func169, Tryz.ntmps169
    go_wp2
    go_ret
    exact ⟨by simp [HP.out], rfl⟩
  by_cases h1 : s = [33]
  · subst h1
    have HP : Hid (prefixL _ = true) := Lib.hid (show prefixL [33] = true by decide)
    go_enter Tryz.func169, Tryz.ntmps169
    go_wp2
    go_ret
    exact ⟨by simp [HP.out], rfl⟩
  by_cases h2 : s = [38]
  · subst h2
    have HP : Hid (prefixL _ = true) := Lib.hid (show prefixL [38] = true by decide)
    go_enter Tryz.func169, Tryz.ntmps169
    go_wp2
    go_ret
    exact ⟨by simp [HP.out], rfl⟩
  have e0 : (s == [45]) = false := by simpa using h0
  have e1 : (s == [33]) = false := by simpa using h1
  have e2 : (s == [38]) = false := by simpa using h2
  have HR2 : Hid (prefixL s = (s == [42])) := HR.out.trans (by rw [e0, e1, e2]; rfl)
  clear h0 h1 h2
  go_enter Tryz.func169, Tryz.ntmps169
  go_wp2
  go_ret
  exact ⟨by simp [HR2.out], rfl⟩

set_option maxRecDepth 20000 in
set_option maxHeartbeats 1600000 in
theorem rank_any (s : List UInt8) (w : World) : Calls Tryz.prog 170 #[.string ⟨s.toArray⟩] w fun e w' => e = .returned (.int .i64 (rankL s)) ∧ w' = w := by
  by_cases h0 : s = [124, 124]
  · subst h0
    have HP : Hid (rankL [124, 124] = 1) := Lib.hid (by decide)
    go_enter Tryz.func170, Tryz.ntmps170
    go_wp2
    go_ret
    exact ⟨by simp [HP.out], rfl⟩
  have e0 : (s == [124, 124]) = false := by simpa using h0
  clear h0
  by_cases h1 : s = [38, 38]
  · subst h1
    have HP : Hid (rankL [38, 38] = 2) := Lib.hid (by decide)
    go_enter Tryz.func170, Tryz.ntmps170
    go_wp2
    go_ret
    exact ⟨by simp [HP.out], rfl⟩
  have e1 : (s == [38, 38]) = false := by simpa using h1
  clear h1
  by_cases h2 : s = [61, 61]
  · subst h2
    have HP : Hid (rankL [61, 61] = 3) := Lib.hid (by decide)
    go_enter Tryz.func170, Tryz.ntmps170
    go_wp2
    go_ret
    exact ⟨by simp [HP.out], rfl⟩
  have e2 : (s == [61, 61]) = false := by simpa using h2
  clear h2
  by_cases h3 : s = [33, 61]
  · subst h3
    have HP : Hid (rankL [33, 61] = 3) := Lib.hid (by decide)
    go_enter Tryz.func170, Tryz.ntmps170
    go_wp2
    go_ret
    exact ⟨by simp [HP.out], rfl⟩
  have e3 : (s == [33, 61]) = false := by simpa using h3
  clear h3
  by_cases h4 : s = [60]
  · subst h4
    have HP : Hid (rankL [60] = 3) := Lib.hid (by decide)
    go_enter Tryz.func170, Tryz.ntmps170
    go_wp2
    go_ret
    exact ⟨by simp [HP.out], rfl⟩
  have e4 : (s == [60]) = false := by simpa using h4
  clear h4
  by_cases h5 : s = [60, 61]
  · subst h5
    have HP : Hid (rankL [60, 61] = 3) := Lib.hid (by decide)
    go_enter Tryz.func170, Tryz.ntmps170
    go_wp2
    go_ret
    exact ⟨by simp [HP.out], rfl⟩
  have e5 : (s == [60, 61]) = false := by simpa using h5
  clear h5
  by_cases h6 : s = [62]
  · subst h6
    have HP : Hid (rankL [62] = 3) := Lib.hid (by decide)
    go_enter Tryz.func170, Tryz.ntmps170
    go_wp2
    go_ret
    exact ⟨by simp [HP.out], rfl⟩
  have e6 : (s == [62]) = false := by simpa using h6
  clear h6
  by_cases h7 : s = [62, 61]
  · subst h7
    have HP : Hid (rankL [62, 61] = 3) := Lib.hid (by decide)
    go_enter Tryz.func170, Tryz.ntmps170
    go_wp2
    go_ret
    exact ⟨by simp [HP.out], rfl⟩
  have e7 : (s == [62, 61]) = false := by simpa using h7
  clear h7
  by_cases h8 : s = [43]
  · subst h8
    have HP : Hid (rankL [43] = 4) := Lib.hid (by decide)
    go_enter Tryz.func170, Tryz.ntmps170
    go_wp2
    go_ret
    exact ⟨by simp [HP.out], rfl⟩
  have e8 : (s == [43]) = false := by simpa using h8
  clear h8
  by_cases h9 : s = [45]
  · subst h9
    have HP : Hid (rankL [45] = 4) := Lib.hid (by decide)
    go_enter Tryz.func170, Tryz.ntmps170
    go_wp2
    go_ret
    exact ⟨by simp [HP.out], rfl⟩
  have e9 : (s == [45]) = false := by simpa using h9
  clear h9
  by_cases h10 : s = [42]
  · subst h10
    have HP : Hid (rankL [42] = 5) := Lib.hid (by decide)
    go_enter Tryz.func170, Tryz.ntmps170
    go_wp2
    go_ret
    exact ⟨by simp [HP.out], rfl⟩
  have e10 : (s == [42]) = false := by simpa using h10
  clear h10
  by_cases h11 : s = [47]
  · subst h11
    have HP : Hid (rankL [47] = 5) := Lib.hid (by decide)
    go_enter Tryz.func170, Tryz.ntmps170
    go_wp2
    go_ret
    exact ⟨by simp [HP.out], rfl⟩
  have e11 : (s == [47]) = false := by simpa using h11
  clear h11
  by_cases h12 : s = [37]
  · subst h12
    have HP : Hid (rankL [37] = 5) := Lib.hid (by decide)
    go_enter Tryz.func170, Tryz.ntmps170
    go_wp2
    go_ret
    exact ⟨by simp [HP.out], rfl⟩
  have e12 : (s == [37]) = false := by simpa using h12
  clear h12
  have HR : Hid (rankL s = 0) := by simp only [Hid, rankL, e0, e1, e2, e3, e4, e5, e6, e7, e8, e9, e10, e11, e12]; rfl
  go_enter Tryz.func170, Tryz.ntmps170
  go_wp2
  go_ret
  exact ⟨by simp [HR.out], rfl⟩


section
variable {w W W' : World} {m i : Nat} {h : Bool} {t : Tr} {ao : Option Addr} {nn c : Nat}
/-- A tree whose kids were laid into a new block. -/
theorem kt_made {S S' : Nat → Prop} {ts : List Tr} {sls : List Value} {a : Array Value} (k : Int) (s : List UInt8) (num : Int) (hk : KL W S ts sls) (hlt : ∀ b, S b → b < W.heap.size) (hS : ∀ b, S b → S' b) (hnew : S' W.heap.size) (hc : a = (cellsOf ts sls).toArray) :
    KT (W.alloc (.cells a 24)) S' (.mk k s num ts) (.slice (some ⟨W.heap.size, 0, none⟩) ts.length ts.length) := by
  subst hc
  simp only [KT]
  refine ⟨sls, .inr ⟨W.heap.size, 0, _, rfl, Nat.le_refl _, hnew, fun j u hj => ?_⟩, hk.fr (fun b hb => Below.heap_alloc W _ b (hlt b hb)) hS⟩
  rw [Nat.zero_add, World.cell?_alloc_new]
  simpa using hj
end

theorem rankL_le (s : List UInt8) : 0 ≤ rankL s ∧ rankL s ≤ 5 := by
  unfold rankL
  repeat' split
  all_goals decide
/-- An own list that keeps to blocks of Q. -/
def OwnQ (Q : Nat → Prop) (w : World) (B : Nat) (v : Value) (ts : List Tr) : Prop :=
  ∃ sls, w.ownsRow B 24 4 v ts.length (cellsOf ts sls) ∧ KL w (fun b => ((B ≤ b ∧ b < w.heap.size) ∧ some b ≠ v.ownBlock) ∧ Q b) ts sls ∧ ∀ k, v.ownBlock = some k → Q k
theorem OwnQ.own {Q : Nat → Prop} {w : World} {B : Nat} {v : Value} {ts : List Tr} (h : OwnQ Q w B v ts) : OwnL w B v ts := by
  obtain ⟨sls, h1, h2, _⟩ := h
  exact ⟨sls, h1, h2.fr (Fr.refl _ _) (fun _ hb => hb.1)⟩
theorem OwnQ.later {Q : Nat → Prop} {w w' : World} {B : Nat} {v : Value} {ts : List Tr} (h : OwnQ Q w B v ts) (hz : w.heap.size ≤ w'.heap.size) (hw : ∀ b, B ≤ b → b < w.heap.size → w'.heap[b]? = w.heap[b]?) : OwnQ Q w' B v ts := by
  obtain ⟨sls, h1, h2, h3⟩ := h
  exact ⟨sls, ownsRow_fr hw h1, h2.fr (fun b hb => hw b hb.1.1.1 hb.1.1.2) (fun b hb => ⟨⟨⟨hb.1.1.1, by omega⟩, hb.1.2⟩, hb.2⟩), h3⟩
theorem OwnQ.of {Q : Nat → Prop} {w : World} {B : Nat} {v : Value} {ts : List Tr} (h : OwnL w B v ts) (hQ : ∀ b, B ≤ b → b < w.heap.size → Q b) : OwnQ Q w B v ts := by
  have hl := OwnL.lt h
  obtain ⟨sls, h1, h2⟩ := h
  exact ⟨sls, h1, h2.fr (Fr.refl _ _) (fun b hb => ⟨hb, hQ b hb.1.1 hb.1.2⟩), fun k hk => hQ k (hl k hk).1 (hl k hk).2⟩
/-- What keeps clear of block m stays when m is written. -/
theorem OwnQ.put {w w' : World} {B m : Nat} {v : Value} {ts : List Tr} (h : OwnQ (fun b => b ≠ m) w B v ts) (hp : Put m w w') : OwnL w' B v ts := by
  obtain ⟨sls, h1, h2, h3⟩ := h
  refine ⟨sls, ?_, h2.fr (fun b hb => hp.block b hb.2) (fun b hb => ⟨⟨hb.1.1.1, by rw [hp.size]; exact hb.1.1.2⟩, hb.1.2⟩)⟩
  refine ⟨h1.1, ?_⟩
  rcases h1.2 with hn | ⟨g, cap, cur, rfl, hb, hg, rest⟩
  · exact .inl hn
  · exact .inr ⟨g, cap, cur, rfl, hb, (hp.block g (h3 g rfl)).trans hg, rest⟩

theorem run_joinQ {W : World} {B C : Nat} {v1 v2 : Value} {ts us : List Tr} {Q : Nat → Prop} (ty : TypeId) (h1 : OwnQ Q W B v1 ts) (h2 : OwnQ Q W C v2 us) (hQ : Q W.heap.size) (hBC : B ≤ C) (hC : C ≤ W.heap.size) (hv : ∀ k, v1.ownBlock = some k → k < C) (hlen : ts.length + us.length ≤ 1000000) :
    ∃ ao cap w', (Builtin.append_ #[22, 22] ty #[v1, v2]).run Tryz.prog W = .ok (.slice ao (ts.length + us.length) cap) w' ∧ OwnQ Q w' B (.slice ao (ts.length + us.length) cap) (ts ++ us) ∧ W.grownBy w' v1.ownBlock := by
  obtain ⟨sls, o1, k1, g1⟩ := h1
  obtain ⟨sls2, o2, k2, g2⟩ := h2
  obtain ⟨i0, hi, hz0, hz1, hz2⟩ := info_parts Tryz.info24
  have key : ∃ v' w', (Builtin.append_ #[22, 22] ty #[v1, v2]).run Tryz.prog W = .ok v' w' ∧ w'.ownsRow B 24 4 v' (ts.length + us.length) (cellsOf ts sls ++ cellsOf us sls2) ∧ W.grownBy w' v1.ownBlock ∧ (v'.ownBlock = v1.ownBlock ∨ v'.ownBlock = some W.heap.size) := by
    rcases o2.2 with ⟨rfl, e0⟩ | ⟨g, cap, cur, rfl, hb, hg, hcap, _, hsz, htk⟩
    · have hu : us = [] := List.eq_nil_of_length_eq_zero e0
      subst hu
      refine ⟨v1, W, run_append_owned_none W B 22 ty 24 i0 4 Tryz.underlying22 hi v1 _ _ o1, ?_, ⟨rfl, rfl, rfl, Nat.le_refl _, fun _ _ _ => rfl⟩, .inl rfl⟩
      cases sls2 with
      | nil => simpa [cellsOf] using o1
      | cons a b => simpa [cellsOf] using o1
    · have hnews : ∀ j u, (cellsOf us sls2)[j]? = some u → W.cell? ((⟨g, 0, none⟩ : Addr).add j) = some u := by
        intro j u hj
        rw [← htk] at hj
        have hj' : cur[j]? = some u := by
          rw [List.getElem?_take] at hj
          split at hj
          · simpa using hj
          · cases hj
        have ha : (⟨g, 0, none⟩ : Addr).add j = ⟨g, j, none⟩ := by cases j <;> simp [Addr.add]
        rw [ha]; simp [World.cell?, hg, hj']
      obtain ⟨v', w', hr, ho, hgr, _, hat⟩ := run_append_own_at (P := Tryz.prog) W B 22 ty 24 i0 _ 4 56 Tryz.underlying22 hi hz0 hz1 hz2 rfl (by decide) v1 _ _ o1 ⟨g, 0, none⟩ us.length cap (cellsOf us sls2) (cellsOf_length k2.length) hnews (cellsOf_one k2.one) (by unfold maxLen; omega) (by omega) (by omega)
      exact ⟨v', w', hr, ho, hgr, hat⟩
  obtain ⟨v', w', hr, ho, hgr, hat⟩ := key
  have hz := hgr.size
  have hO : OwnQ Q w' B v' (ts ++ us) := by
    refine ⟨sls ++ sls2, ?_, KL.append (k1.fr (fun b hb => hgr.block b hb.1.1.2 hb.1.2) (fun b hb => ⟨⟨⟨hb.1.1.1, by omega⟩, ?_⟩, hb.2⟩)) (k2.fr (fun b hb => hgr.block b hb.1.1.2 (fun e => by have := hv b e.symm; omega)) (fun b hb => ⟨⟨⟨by omega, by omega⟩, ?_⟩, hb.2⟩)), ?_⟩
    · rw [cellsOf_append k1.length, List.length_append]; exact ho
    · rcases hat with e | e
      · rw [e]; exact hb.1.2
      · rw [e]; intro e2; cases e2; omega
    · rcases hat with e | e
      · rw [e]; intro e2; have := hv b e2.symm; omega
      · rw [e]; intro e2; cases e2; omega
    · intro k hk
      rcases hat with e | e
      · exact g1 k (e ▸ hk)
      · rw [e] at hk; cases hk; exact hQ
  obtain ⟨ao, cap, e⟩ := hO.own.slice
  rw [List.length_append] at e
  rw [e] at hr hO
  exact ⟨ao, cap, w', hr, hO, hgr⟩

theorem step_join {W : World} {ops : Array Oper} {o : Oper} {a : Act} {K : Act → World → Prop} {Q : Exit → Act → World → Prop} {E : Prop} {Z : Nat → Prop} (hgd : o.guard = none) (s x : Operand)
    (ho : o.op = .call { callee := .builtin .append, args := #[s, x], argTypes := #[22, 22] }) {B C : Nat} {v1 v2 : Value} {ts us : List Tr} (hs : a.eval s = v1) (hx : a.eval x = v2)
    (h1 : OwnQ Z W B v1 ts) (h2 : OwnQ Z W C v2 us) (hZ : Z W.heap.size) (hBC : B ≤ C) (hC : C ≤ W.heap.size) (hv : ∀ k, v1.ownBlock = some k → k < C) (hlen : ts.length + us.length ≤ 1000000)
    (h : ∀ ao cap w', OwnQ Z w' B (.slice ao (ts.length + us.length) cap) (ts ++ us) → W.grownBy w' v1.ownBlock → K (a.put o.dst (.slice ao (ts.length + us.length) cap)) w') :
    if Region.wanted o (yielded ops a.tmps) = true then Oper.wp Tryz.prog o a W K Q else E := by
  have hw : Region.wanted o (yielded ops a.tmps) = true := by simp [Region.wanted, hgd]
  rw [if_pos hw]
  obtain ⟨ao, cap, w', hr, hO, hg⟩ := run_joinQ o.type h1 h2 hZ hBC hC hv hlen
  unfold Oper.wp execOp
  simp only [ho, resolve, invoke, builtin, Sem.run_bind, Sem.run_pure, Result.andThen_ok, List.map_toArray, List.map_cons, List.map_nil, hs, hx, hr]
  exact h ao cap w' hO hg

section
variable {w W W' : World} {m i : Nat} {h : Bool} {k num : Int} {s : List UInt8} {V : Value} {ts : List Tr}
end
theorem cells_of_blk {W : World} {m : Nat} {c0 c1 c2 c3 : Value} {t : TypeId} (e : W.heap[m]? = some (.cells #[c0, c1, c2, c3] t (0, 0))) : W.cell? ⟨m, 0, none⟩ = some c0 ∧ W.cell? ⟨m, 1, none⟩ = some c1 ∧ W.cell? ⟨m, 2, none⟩ = some c2 ∧ W.cell? ⟨m, 3, none⟩ = some c3 ∧ ∀ o, W.frozen? ⟨m, o, none⟩ = false :=
  ⟨by simp [World.cell?, e], by simp [World.cell?, e], by simp [World.cell?, e], by simp [World.cell?, e], fun o => by simp [World.frozen?, e]⟩
theorem isNameN_any (t : Tr) (ao : Option Addr) (n c : Nat) (w : World) : Calls Tryz.prog 152 #[tv t (.slice ao n c)] w fun e w' => e = .returned (.bool (isNameT t)) ∧ Below w.heap.size w w' := by
  go_enter Tryz.func152, Tryz.ntmps152
  go_wp2
  go_ret
  exact ⟨rfl, (Below.refl _ _).alloc (Nat.le_refl _) _⟩
theorem isCall_any (t : Tr) (ao : Option Addr) (n c : Nat) (w : World) : Calls Tryz.prog 154 #[tv t (.slice ao n c)] w fun e w' => e = .returned (.bool (isCallT t)) ∧ Below w.heap.size w w' := by
  go_enter Tryz.func154, Tryz.ntmps154
  go_wp2
  go_ret
  exact ⟨rfl, (Below.refl _ _).alloc (Nat.le_refl _) _⟩
set_option maxRecDepth 20000 in
theorem isPlaceV_any (k : Int) (s : List UInt8) (m : Int) (ao : Option Addr) (n c : Nat) (w : World) : Calls Tryz.prog 153 #[.agg #[.int .i64 k, .string ⟨s.toArray⟩, .int .i64 m, .slice ao n c]] w fun e w' => e = .returned (.bool (isPlaceT (.mk k s m []))) ∧ Below w.heap.size w w' := by
  have HR : Hid (isPlaceT (.mk k s m []) = (k == 44 || k == 48 || k == 49 || (k == 52 && s == [42]))) := rfl
  by_cases h1 : k = 44
  · have HX : Hid (isPlaceT (.mk k s m []) = true) := HR.out.trans (by simp [h1])
    subst h1
    go_enter Tryz.func153, Tryz.ntmps153
    go_wp2
    go_ret
    exact ⟨by simp [HX.out], (Below.refl _ _).alloc (Nat.le_refl _) _⟩
  by_cases h2 : k = 48
  · have HX : Hid (isPlaceT (.mk k s m []) = true) := HR.out.trans (by simp [h2])
    subst h2
    go_enter Tryz.func153, Tryz.ntmps153
    go_wp2
    go_ret
    exact ⟨by simp [HX.out], (Below.refl _ _).alloc (Nat.le_refl _) _⟩
  by_cases h3 : k = 49
  · have HX : Hid (isPlaceT (.mk k s m []) = true) := HR.out.trans (by simp [h3])
    subst h3
    go_enter Tryz.func153, Tryz.ntmps153
    go_wp2
    go_ret
    exact ⟨by simp [HX.out], (Below.refl _ _).alloc (Nat.le_refl _) _⟩
  by_cases h4 : k = 52
  · have HX : Hid (isPlaceT (.mk k s m []) = (s == [42])) := HR.out.trans (by simp [h4])
    clear h1 h2 h3
    subst h4
    go_enter Tryz.func153, Tryz.ntmps153
    go_wp2
    go_ret
    exact ⟨by simp [HX.out], (Below.refl _ _).alloc (Nat.le_refl _) _⟩
  have HX : Hid (isPlaceT (.mk k s m []) = false) := HR.out.trans (by simp [h1, h2, h3, h4])
  have e1 : (k == 44) = false := by simpa using h1
  have e2 : (k == 48) = false := by simpa using h2
  have e3 : (k == 49) = false := by simpa using h3
  have e4 : (k == 52) = false := by simpa using h4
  clear h1 h2 h3 h4
  go_enter Tryz.func153, Tryz.ntmps153
  go_wp2
  go_ret
  exact ⟨by simp [HX.out], (Below.refl _ _).alloc (Nat.le_refl _) _⟩
theorem isPlace_any (t : Tr) (ao : Option Addr) (n c : Nat) (w : World) : Calls Tryz.prog 153 #[tv t (.slice ao n c)] w fun e w' => e = .returned (.bool (isPlaceT t)) ∧ Below w.heap.size w w' := isPlaceV_any t.kind t.text t.num ao n c w

theorem cellsOf_get : ∀ {ts : List Tr} {sls : List Value} {k : Nat} {t : Tr} {sl : Value}, ts[k]? = some t → sls[k]? = some sl →
    (cellsOf ts sls)[k * 4]? = some (.int .i64 t.kind) ∧ (cellsOf ts sls)[k * 4 + 1]? = some (.string ⟨t.text.toArray⟩) ∧ (cellsOf ts sls)[k * 4 + 2]? = some (.int .i64 t.num) ∧ (cellsOf ts sls)[k * 4 + 3]? = some sl
  | t :: ts, s :: sls, 0, _, _, h1, h2 => by simp at h1 h2; subst h1 h2; simp [cellsOf]
  | t :: ts, s :: sls, k + 1, _, _, h1, h2 => by
    simp at h1 h2
    have := cellsOf_get (ts := ts) (sls := sls) h1 h2
    have e : ∀ j, (k + 1) * 4 + j = k * 4 + j + 1 + 1 + 1 + 1 := by intro j; omega
    simp only [cellsOf]
    rw [show (k + 1) * 4 = k * 4 + 1 + 1 + 1 + 1 by omega]
    simpa [e, Nat.add_assoc] using this
  | [], _, _, _, _, h1, _ => by simp at h1
  | _ :: _, [], _, _, _, _, h2 => by simp at h2

set_option maxRecDepth 20000 in
set_option maxHeartbeats 1600000 in
theorem every_any (p : Tr → Bool) (g : Nat) (ls : Array Value) (he : Enters Tryz.prog g) (ts : List Tr) (sls : List Value) (hsl : sls.length = ts.length) (w : World) (b o cap : Nat) (hn : ts.length ≤ 1000000)
    (hc : ∀ (j : Nat) u, (cellsOf ts sls)[j]? = some u → w.cell? ⟨b, o + j, none⟩ = some u) (hsh : ∀ s ∈ sls, ∃ ao n c, s = .slice ao n c)
    (hI : ∀ (k : Nat) t sl w1, ts[k]? = some t → sls[k]? = some sl → Below w.heap.size w w1 → Calls Tryz.prog g (#[tv t sl] ++ ls) w1 fun e w' => e = .returned (.bool (p t)) ∧ Below w1.heap.size w1 w') :
    Calls Tryz.prog 103 #[.slice (some ⟨b, o, none⟩) ts.length cap, .func (.func g) #[] ls] w fun e w' => e = .returned (.bool (ts.all p)) ∧ Below w.heap.size w w' := by
  have eg : ∀ args w, (callFunc g args).run Tryz.prog w = .ok (.enter g args) w := he
  have HI := Lib.hid hI
  have HC := Lib.hid hc
  have HS := Lib.hid hsh
  clear hI hc hsh
  go_enter Tryz.func103, Tryz.ntmps103
  go_wp2_with fail
  go_loopw [9] (fun v wr => ∃ k : Nat, k ≤ ts.length ∧ v = .int .i64 k ∧ Below w.heap.size w wr ∧ Hid ((ts.take k).all p = true)) (fun v _ => ts.length - (intOf v).toNat)
  case atStart => exact ⟨0, Nat.zero_le _, rfl, Below.refl _ _, by simp [Hid]⟩
  case round =>
    obtain ⟨k, hk, rfl, hb, HA⟩ := hrel
    have hz := hb.size
    by_cases hlt : k < ts.length
    · obtain ⟨t, ht⟩ : ∃ t, ts[k]? = some t := ⟨_, List.getElem?_eq_getElem hlt⟩
      obtain ⟨sl, hs⟩ : ∃ sl, sls[k]? = some sl := ⟨_, List.getElem?_eq_getElem (by omega)⟩
      obtain ⟨ao, nn, c, rfl⟩ := HS.out sl (List.mem_of_getElem? hs)
      obtain ⟨q0, q1, q2, q3⟩ := cellsOf_get ht hs
      have a0 := HC.out _ _ q0
      have bl := lt_of_cell a0
      have r : ∀ o, wr.cell? ⟨b, o, none⟩ = w.cell? ⟨b, o, none⟩ := fun o => hb.cell (p := ⟨b, o, none⟩) bl
      have x0 : wr.cell? ⟨b, o + k * 4, none⟩ = some (.int .i64 t.kind) := (r _).trans a0
      have x1 : wr.cell? ⟨b, o + k * 4 + 1, none⟩ = some (.string ⟨t.text.toArray⟩) := (r _).trans (HC.out _ _ q1)
      have x2 : wr.cell? ⟨b, o + k * 4 + 2, none⟩ = some (.int .i64 t.num) := (r _).trans (HC.out _ _ q2)
      have x3 : wr.cell? ⟨b, o + k * 4 + 3, none⟩ = some (.slice ao nn c) := (r _).trans (HC.out _ _ q3)
      have hba := hb.alloc hz (.cells #[.int .i64 t.kind, .string ⟨t.text.toArray⟩, .int .i64 t.num, .slice ao nn c] 24)
      have cT := HI.out k t (.slice ao nn c) _ ht hs hba
      have HT := Lib.hid ht
      clear ht hs q0 q1 q2 q3 a0 r
      go_wp2_with fail
      refine cT.mono ?_
      rintro e w2 ⟨rfl, hb2⟩
      have hb3 : Below w.heap.size w w2 := hba.trans (hb2.mono (by simp; omega))
      clear cT
      cases hp : p t with
      | false =>
        have HX : Hid (ts.all p = false) := by
          rw [Hid, List.all_eq_false]
          exact ⟨t, List.mem_of_getElem? HT.out, by simp [hp]⟩
        clear hp
        go_wp2
        go_ret
        exact ⟨by simp [HX.out], hb3⟩
      | true =>
        have HX : Hid ((ts.take (k + 1)).all p = true) := by
          have e : ts.take (k + 1) = ts.take k ++ [t] := by rw [List.take_add_one, HT.out]; rfl
          rw [Hid, e, List.all_append, HA.out]; simp [hp]
        clear hp
        go_wp2
        go_roundw
        case rel => exact ⟨k + 1, by omega, by go_num, hb3, HX⟩
        case measure => simp [intOf]; omega
    · have HX : Hid (ts.all p = true) := by
        have := HA.out
        rwa [List.take_of_length_le (by omega)] at this
      go_wp2
      go_ret
      exact ⟨by simp [HX.out], hb⟩
theorem every_nil (v : Value) (ao : Option Addr) (c : Nat) (w : World) : Calls Tryz.prog 103 #[.slice ao 0 c, v] w fun e w' => e = .returned (.bool true) ∧ w' = w := by
  go_enter Tryz.func103, Tryz.ntmps103
  go_wp2_with fail
  go_loopw [9] (fun v wr => v = .int .i64 0 ∧ wr = w) (fun _ _ => 0)
  case atStart => exact ⟨rfl, rfl⟩
  case round =>
    obtain ⟨rfl, rfl⟩ := hrel
    go_wp2
    go_ret
    exact ⟨rfl, rfl⟩
theorem enters_isName : Enters Tryz.prog 152 := enters_of Tryz.func152 (by kernel_rfl) rfl
theorem enters_isPlace : Enters Tryz.prog 153 := enters_of Tryz.func153 (by kernel_rfl) rfl

theorem KL.get {w : World} {S : Nat → Prop} : ∀ {ts : List Tr} {sls : List Value} {k : Nat} {t : Tr} {sl : Value}, KL w S ts sls → ts[k]? = some t → sls[k]? = some sl → KT w S t sl
  | t :: ts, sls, 0, _, _, h, h1, h2 => by
    simp only [KL] at h
    obtain ⟨sl, r, rfl, h3, _⟩ := h
    simp at h1 h2; subst h1 h2; exact h3
  | t :: ts, sls, k + 1, _, _, h, h1, h2 => by
    simp only [KL] at h
    obtain ⟨sl, r, rfl, _, h3⟩ := h
    simp at h1 h2; exact KL.get h3 h1 h2
  | [], _, _, _, _, _, h1, _ => by simp at h1
theorem KL.slices {w : World} {S : Nat → Prop} : ∀ {ts : List Tr} {sls : List Value}, KL w S ts sls → ∀ s ∈ sls, ∃ ao n c, s = Value.slice ao n c
  | [], sls, h, v, hv => by simp only [KL] at h; rw [h] at hv; simp at hv
  | t :: ts, sls, h, v, hv => by
    simp only [KL] at h
    obtain ⟨sl, r, rfl, h2, h3⟩ := h
    simp only [List.mem_cons] at hv
    rcases hv with rfl | hv
    · exact h2.slice
    · exact KL.slices h3 v hv
/-- every of an own list. -/
theorem every_own (p : Tr → Bool) (g : Nat) (he : Enters Tryz.prog g) {ts : List Tr} {v : Value} {w : World} {B : Nat} (T : OwnL w B v ts) (hn : ts.length ≤ 1000000)
    (hI : ∀ t ao n c w1, Calls Tryz.prog g #[tv t (.slice ao n c)] w1 fun e w' => e = .returned (.bool (p t)) ∧ Below w1.heap.size w1 w') :
    Calls Tryz.prog 103 #[v, .func (.func g) #[] #[]] w fun e w' => e = .returned (.bool (ts.all p)) ∧ Below w.heap.size w w' := by
  obtain ⟨sls, o1, k1⟩ := T
  rcases o1.2 with ⟨rfl, e0⟩ | ⟨q, cap, cur, rfl, hb, hg, hcap, _, hsz, htk⟩
  · have hu : ts = [] := List.eq_nil_of_length_eq_zero e0
    subst hu
    exact (every_nil _ none 0 w).mono fun e w' ⟨h1, h2⟩ => ⟨h1, h2 ▸ Below.refl _ _⟩
  · refine every_any p g #[] he ts sls k1.length w q 0 cap hn (fun j u hj => ?_) k1.slices (fun k t sl w1 ht hs _ => ?_)
    · rw [← htk] at hj
      have hj' : cur[j]? = some u := by
        rw [List.getElem?_take] at hj
        split at hj
        · simpa using hj
        · cases hj
      simp [World.cell?, hg, hj']
    · obtain ⟨ao, nn, c, rfl⟩ := k1.slices sl (List.mem_of_getElem? hs)
      rw [Array.append_empty]
      exact hI t ao nn c w1
mutual
/-- How many of so many nodes are left behind a tree; none: it has too many, or is too deep. -/
def cntT : Tr → Nat → Nat → Option Nat
  | .mk _ _ _ ks, deep, left => if deep = 0 ∨ left = 0 then none else cntL ks (deep - 1) (left - 1)
def cntL : List Tr → Nat → Nat → Option Nat
  | [], _, left => some left
  | t :: ts, deep, left => match cntT t deep left with
    | none => none
    | some l => cntL ts deep l
end
def smallT (t : Tr) : Bool := (cntT t 100 20000).isSome

/-- What counted leaves. -/
def OutC (L : Nat) (w : World) (r : Option Nat) (e : Ending) (w' : World) : Prop :=
  But L w.heap.size w w' ∧ match r with
  | some l => e = .returned (.bool true) ∧ w'.heap[L]? = some (.cells #[.int .i64 l] 3 (0, 0))
  | none => e = .returned (.bool false)
theorem OutC.of {L : Nat} {w : World} {r r' : Option Nat} {e : Ending} {w' : World} (hr : Hid (r = r')) (o : OutC L w r' e w') : OutC L w r e w' := by
  have := hr.out; subst this; exact o

mutual
theorem cntT_le : ∀ (t : Tr) (deep left l : Nat), cntT t deep left = some l → l ≤ left
  | .mk _ _ _ ks, deep, left, l, h => by
    simp only [cntT] at h
    split at h
    · cases h
    · have := cntL_le ks (deep - 1) (left - 1) l h
      omega
theorem cntL_le : ∀ (ts : List Tr) (deep left l : Nat), cntL ts deep left = some l → l ≤ left
  | [], _, left, l, h => by simp only [cntL] at h; cases h; exact Nat.le_refl _
  | t :: ts, deep, left, l, h => by
    simp only [cntL] at h
    split at h
    · cases h
    · rename_i l1 h1
      have a := cntT_le t deep left l1 h1
      have b := cntL_le ts deep l1 l h
      omega
end
mutual
/-- No tree of these has more kids than may be: what is counted, counts its kids. -/
theorem cntL_len : ∀ (ts : List Tr) (deep left l : Nat), cntL ts deep left = some l → l + ts.length ≤ left
  | [], _, left, l, h => by simp only [cntL] at h; cases h; simp
  | t :: ts, deep, left, l, h => by
    simp only [cntL] at h
    split at h
    · cases h
    · rename_i l1 h1
      have a := cntT_lt t deep left l1 h1
      have b := cntL_len ts deep l1 l h
      simp; omega
theorem cntT_lt : ∀ (t : Tr) (deep left l : Nat), cntT t deep left = some l → l + 1 ≤ left
  | .mk _ _ _ ks, deep, left, l, h => by
    simp only [cntT] at h
    split at h
    · cases h
    · have := cntL_len ks (deep - 1) (left - 1) l h
      omega
end
theorem drop_get {ts : List Tr} {k : Nat} {t : Tr} (h : ts[k]? = some t) : ts.drop k = t :: ts.drop (k + 1) := by
  have hk : k < ts.length := by
    rcases Nat.lt_or_ge k ts.length with h1 | h1
    · exact h1
    · rw [List.getElem?_eq_none h1] at h; cases h
  rw [List.getElem?_eq_getElem hk] at h
  cases h
  exact List.drop_eq_getElem_cons hk

set_option maxRecDepth 20000 in
set_option maxHeartbeats 1600000 in
theorem counted_any : ∀ (deep : Nat) (k : Int) (s : List UInt8) (num : Int) (ks : List Tr) (sl : Value) (S : Nat → Prop) (w : World) (L left : Nat), deep ≤ 100 → left ≤ 20000 → w.heap[L]? = some (.cells #[.int .i64 left] 3 (0, 0)) → (∀ b, S b → b < w.heap.size ∧ b ≠ L) → KT w S (.mk k s num ks) sl →
    Calls Tryz.prog 101 #[.agg #[.int .i64 k, .string ⟨s.toArray⟩, .int .i64 num, sl], .int .i64 deep, .pointer (some ⟨L, 0, none⟩)] w (OutC L w (cntT (.mk k s num ks) deep left)) := by
  intro deep
  induction deep with
  | zero =>
    intro k s num ks sl S w L left _ hl hL hS hk
    have lc : w.cell? ⟨L, 0, none⟩ = some (.int .i64 left) := by simp [World.cell?, hL]
    obtain ⟨ao, nn, c, rfl⟩ := hk.slice
    have HR : Hid (cntT (.mk k s num ks) 0 left = none) := by simp [Hid, cntT]
    go_enter Tryz.func101, Tryz.ntmps101
    go_wp2
    go_ret
    exact OutC.of HR ⟨(But.refl _ _ _).alloc (Nat.le_refl _) _, rfl⟩
  | succ deep ih =>
    intro k s num ks sl S w L left hd hl hL hS hk
    have HI := Lib.hid ih
    clear ih
    have lc : w.cell? ⟨L, 0, none⟩ = some (.int .i64 left) := by simp [World.cell?, hL]
    have lf : w.frozen? ⟨L, 0, none⟩ = false := by simp [World.frozen?, hL]
    have lL := lt_of_block hL
    have nL : L ≠ w.heap.size := by omega
    have nL2 : w.heap.size ≠ L := by omega
    by_cases h0 : left = 0
    · subst h0
      obtain ⟨ao, nn, c, rfl⟩ := hk.slice
      have HR : Hid (cntT (.mk k s num ks) (deep + 1) 0 = none) := by simp [Hid, cntT]
      have dz : (((deep : Int) + 1) == 0) = false := by rw [beq_eq_false_iff_ne]; omega
      go_enter Tryz.func101, Tryz.ntmps101
      go_wp2
      go_ret
      exact OutC.of HR ⟨(But.refl _ _ _).alloc (Nat.le_refl _) _, rfl⟩
    · obtain ⟨l, rfl⟩ : ∃ l, left = l + 1 := ⟨left - 1, by omega⟩
      have HR0 : Hid (cntT (.mk k s num ks) (deep + 1) (l + 1) = cntL ks deep l) := by simp [Hid, cntT]
      have dz : ((deep : Int) + 1 == 0) = false := by rw [beq_eq_false_iff_ne]; omega
      have lz : ((l : Int) + 1 == 0) = false := by rw [beq_eq_false_iff_ne]; omega
      clear h0
      have hk' := hk
      simp only [KT] at hk'
      obtain ⟨sls, hrow, hkl⟩ := hk'
      obtain ⟨ao, nn, c, rfl⟩ := hk.slice
      have hnn : nn = ks.length ∧ (0 < ks.length → ∃ g o, ao = some ⟨g, o, none⟩ ∧ S g ∧ ∀ (j : Nat) u, (cellsOf ks sls)[j]? = some u → w.cell? ⟨g, o + j, none⟩ = some u) := by
        rcases hrow with ⟨e0, a, c', e⟩ | ⟨g, o, cap, e, _, hg, hc⟩
        · cases e; exact ⟨e0.symm, fun h => by omega⟩
        · cases e; exact ⟨rfl, fun _ => ⟨g, o, rfl, hg, hc⟩⟩
      obtain ⟨rfl, hrows⟩ := hnn
      have HW := Lib.hid hrows
      have HK := Lib.hid hkl
      clear hrows hkl hrow
      have hL1 := heap_setCell_same w L 0 (.int .i64 l) hL
      obtain ⟨W1, hW1⟩ : ∃ W1, (w.setCell ⟨L, 0, none⟩ (.int .i64 l)).alloc (.cells #[.int .i64 k, .string ⟨s.toArray⟩, .int .i64 num, .slice ao ks.length c] 24) = W1 := ⟨_, rfl⟩
      have hB1 : But L w.heap.size w W1 := hW1 ▸ ((But.refl L w.heap.size w).setCell (p := ⟨L, 0, none⟩) (.inl rfl) _).alloc (by simp) _
      have hL2 : W1.heap[L]? = some (.cells #[.int .i64 l] 3 (0, 0)) := by rw [← hW1, Below.heap_alloc _ _ _ (by simp; omega), hL1]; rfl
      have kc3 : W1.cell? ⟨w.heap.size, 3, none⟩ = some (.slice ao ks.length c) := by rw [← hW1]; have := World.cell?_alloc_new (w.setCell ⟨L, 0, none⟩ (.int .i64 l)) #[.int .i64 k, .string ⟨s.toArray⟩, .int .i64 num, .slice ao ks.length c] 24 3; rw [World.size_setCell] at this; rw [this]; rfl
      rw [show (((deep + 1 : Nat)) : Int) = (deep : Int) + 1 by omega]
      go_enter Tryz.func101, Tryz.ntmps101
      go_wp2_with fail
      go_loopw [25] (fun v wr => ∃ (q l2 : Nat), q ≤ ks.length ∧ v = .int .i64 q ∧ But L w.heap.size w wr ∧ wr.heap[L]? = some (.cells #[.int .i64 l2] 3 (0, 0)) ∧ q + l2 ≤ 20000 ∧ Hid (cntT (.mk k s num ks) (deep + 1) (l + 1) = cntL (ks.drop q) deep l2)) (fun v _ => ks.length - (intOf v).toNat)
      case atStart => exact ⟨0, l, Nat.zero_le _, rfl, hB1, hL2, by omega, HR0.out⟩
      case round =>
        obtain ⟨q, l2, hq, rfl, hb, hL3, hl2, HQ⟩ := hrel
        clear hW1 hB1 hL2 hL1 kc3
        have hz := hb.size
        by_cases hlt : q < ks.length
        · obtain ⟨g, o, rfl, hg, hc⟩ := HW.out (by omega)
          obtain ⟨t, ht⟩ : ∃ t, ks[q]? = some t := ⟨_, List.getElem?_eq_getElem hlt⟩
          obtain ⟨sl, hs⟩ : ∃ sl, sls[q]? = some sl := ⟨_, List.getElem?_eq_getElem (by rw [HK.out.length]; exact hlt)⟩
          have hkt := HK.out.get ht hs
          obtain ⟨a3, n3, c3, rfl⟩ := hkt.slice
          obtain ⟨q0, q1, q2, q3⟩ := cellsOf_get ht hs
          have r : ∀ o, wr.cell? ⟨g, o, none⟩ = w.cell? ⟨g, o, none⟩ := fun o => hb.cell (hS g hg).1 (hS g hg).2
          have x0 : wr.cell? ⟨g, o + q * 4, none⟩ = some (.int .i64 t.kind) := (r _).trans (hc _ _ q0)
          have x1 : wr.cell? ⟨g, o + q * 4 + 1, none⟩ = some (.string ⟨t.text.toArray⟩) := (r _).trans (hc _ _ q1)
          have x2 : wr.cell? ⟨g, o + q * 4 + 2, none⟩ = some (.int .i64 t.num) := (r _).trans (hc _ _ q2)
          have x3 : wr.cell? ⟨g, o + q * 4 + 3, none⟩ = some (.slice a3 n3 c3) := (r _).trans (hc _ _ q3)
          have hlb := lt_of_block hL3
          have HD := Lib.hid (drop_get ht)
          have hkt3 : KT (wr.alloc (.cells #[.int .i64 t.kind, .string ⟨t.text.toArray⟩, .int .i64 t.num, .slice a3 n3 c3] 24)) S t (.slice a3 n3 c3) := hkt.fr (fun b hb' => (Below.heap_alloc wr _ b (by have := (hS b hb').1; omega)).trans (hb.block b (hS b hb').1 (hS b hb').2)) (fun _ h => h)
          obtain ⟨tk, ts, tn, tks⟩ := t
          have cC := HI.out tk ts tn tks (.slice a3 n3 c3) S _ L l2 (by omega) (by omega) ((Below.heap_alloc wr (.cells #[.int .i64 tk, .string ⟨ts.toArray⟩, .int .i64 tn, .slice a3 n3 c3] 24) L hlb).trans hL3) (fun b hb' => ⟨by rw [World.size_alloc]; have := (hS b hb').1; omega, (hS b hb').2⟩) hkt3
          clear ht hs q0 q1 q2 q3 r hc hkt hkt3
          go_wp2_with fail
          refine cC.mono ?_
          rintro e w2 ⟨hb2, hr2⟩
          have z2 := hb2.size
          rw [World.size_alloc] at z2
          have hb3 : But L w.heap.size w w2 := (hb.alloc hz _).trans (hb2.mono (by simp; omega))
          clear cC
          cases hp : cntT (.mk tk ts tn tks) deep l2 with
          | none =>
            rw [hp] at hr2
            have HX : Hid (cntT (.mk k s num ks) (deep + 1) (l + 1) = none) := HQ.out.trans (by rw [HD.out]; simp only [cntL, hp])
            cases hr2
            clear hp
            go_wp2
            go_ret
            exact OutC.of HX ⟨hb3, rfl⟩
          | some l3 =>
            rw [hp] at hr2
            obtain ⟨rfl, hL4⟩ := hr2
            have hlt3 := cntT_lt _ _ _ _ hp
            have HX : Hid (cntT (.mk k s num ks) (deep + 1) (l + 1) = cntL (ks.drop (q + 1)) deep l3) := HQ.out.trans (by rw [HD.out]; simp only [cntL, hp])
            clear hp
            go_wp2
            go_roundw
            case rel => exact ⟨q + 1, l3, by omega, by go_num, hb3, hL4, by omega, HX⟩
            case measure => simp [intOf]; omega
        · have HX : Hid (cntT (.mk k s num ks) (deep + 1) (l + 1) = some l2) := HQ.out.trans (by rw [List.drop_eq_nil_of_le (by omega)]; rfl)
          go_wp2
          go_ret
          exact OutC.of HX ⟨hb, rfl, hL3⟩

set_option maxRecDepth 20000 in
theorem small_any (t : Tr) (sl : Value) (S : Nat → Prop) (w : World) (hS : ∀ b, S b → b < w.heap.size) (hk : KT w S t sl) :
    Calls Tryz.prog 63 #[tv t sl] w fun e w' => e = .returned (.bool (smallT t)) ∧ Below w.heap.size w w' := by
  obtain ⟨ao, nn, c, rfl⟩ := hk.slice
  obtain ⟨k, s, num, ks⟩ := t
  have hk1 : KT ((w.alloc (.cells #[.int .i64 k, .string ⟨s.toArray⟩, .int .i64 num, .slice ao nn c] 24)).alloc (.cells #[.int .i64 20000] 3)) S (.mk k s num ks) (.slice ao nn c) := hk.fr (((Fr.refl _ _).alloc hS _).alloc (fun b hb => by have := hS b hb; simp; omega) _) (fun _ h => h)
  have hL : ((w.alloc (.cells #[.int .i64 k, .string ⟨s.toArray⟩, .int .i64 num, .slice ao nn c] 24)).alloc (.cells #[.int .i64 20000] 3)).heap[w.heap.size + 1]? = some (.cells #[.int .i64 (20000 : Nat)] 3 (0, 0)) := by
    have := heap_alloc_new (w.alloc (.cells #[.int .i64 k, .string ⟨s.toArray⟩, .int .i64 num, .slice ao nn c] 24)) (.cells #[.int .i64 20000] 3)
    rw [World.size_alloc] at this; exact this
  have cC := counted_any 100 k s num ks (.slice ao nn c) S _ (w.heap.size + 1) 20000 (Nat.le_refl _) (Nat.le_refl _) hL (fun b hb => ⟨by have := hS b hb; simp; omega, by have := hS b hb; omega⟩) hk1
  clear hL hk1
  change Calls Tryz.prog 63 #[.agg #[.int .i64 k, .string ⟨s.toArray⟩, .int .i64 num, .slice ao nn c]] w _
  go_enter Tryz.func63, Tryz.ntmps63
  go_wp2_with fail
  refine cC.mono ?_
  rintro e w2 ⟨hb2, hr2⟩
  have hB : Below w.heap.size w w2 := ⟨hb2.os, hb2.tape, hb2.output, by have := hb2.size; simp at this; omega, fun b hb => (hb2.block b (by simp; omega) (by omega)).trans ((Below.heap_alloc _ _ b (by simp; omega)).trans (Below.heap_alloc w _ b hb))⟩
  cases hp : cntT (.mk k s num ks) 100 20000 with
  | none =>
    rw [hp] at hr2
    cases hr2
    have HX : Hid (smallT (.mk k s num ks) = false) := by simp [Hid, smallT, hp]
    clear hp cC
    go_wp2
    go_ret
    exact ⟨by simp [HX.out], hB⟩
  | some l =>
    rw [hp] at hr2
    obtain ⟨rfl, _⟩ := hr2
    have HX : Hid (smallT (.mk k s num ks) = true) := by simp [Hid, smallT, hp]
    clear hp cC
    go_wp2
    go_ret
    exact ⟨by simp [HX.out], hB⟩

end Go.Proofs.YtbejkphekfbfnaaGreat
