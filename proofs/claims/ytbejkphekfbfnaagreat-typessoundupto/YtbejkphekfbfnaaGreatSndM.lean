/- Which trees are programs' trees: the plain mathematics, and what the tests owe. -/
import Derived.Test.YtbejkphekfbfnaaGreatParZ
import Derived.Test.YtbejkphekfbfnaaGreatIsName
namespace Go.Proofs.YtbejkphekfbfnaaGreat
open Go.RowKit

/-- The tests that come to themselves again. -/
inductive Q where
  | typ | par | sig | blk | ifS | els | stm | exp

def bareT (t : Tr) : Bool := t.text == [] && t.num == 0
def namedT (t : Tr) : Bool := t.num == 0 && nameP t.text
def numberedT (t : Tr) : Bool := t.text == []
def rowB : List (Tr → Bool) → List Tr → Bool
  | [], [] => true
  | p :: ps, t :: ts => p t && rowB ps ts
  | _, _ => false
def partedB (ts : List Tr) (n : Int) (p q : Tr → Bool) : Bool := decide (0 ≤ n) && (decide (n ≤ ts.length) && ((ts.take n.toNat).all p && (ts.drop n.toNat).all q))
def cutN (n : Int) : Int := if n == 0 then 1 else if n == 1 || n == 2 then 2 else if n == 3 then 3 else -1
def leafB (t : Tr) : Bool :=
  if 0 < t.kids.length then false
  else if t.kind == 40 then numberedT t && decide (0 ≤ t.num)
  else if t.kind == 41 then t.num == 0 && decide (t.text.length ≤ 1024)
  else if t.kind == 42 then numberedT t && (t.num == 0 || t.num == 1)
  else if t.kind == 44 then namedT t
  else bareT t
def typB (r : Q → Tr → Bool) (t : Tr) : Bool :=
  if t.kind == 10 then namedT t && rowB [] t.kids
  else if t.kind == 11 || t.kind == 12 then bareT t && rowB [r .typ] t.kids
  else if t.kind == 13 then numberedT t && partedB t.kids t.num (r .typ) (r .typ)
  else false
def parB (r : Q → Tr → Bool) (t : Tr) : Bool := t.kind == 8 && (namedT t && rowB [r .typ] t.kids)
def sigB (r : Q → Tr → Bool) (t : Tr) : Bool := t.kind == 7 && (numberedT t && partedB t.kids t.num (r .par) (r .typ))
def blkB (r : Q → Tr → Bool) (t : Tr) : Bool := t.kind == 20 && (bareT t && t.kids.all (r .stm))
def ifB (r : Q → Tr → Bool) (t : Tr) : Bool := t.kind == 25 && (bareT t && (rowB [r .exp, r .blk] t.kids || rowB [r .exp, r .blk, r .els] t.kids))
def elsB (r : Q → Tr → Bool) (t : Tr) : Bool := blkB r t || ifB r t
def asgB (r : Q → Tr → Bool) (p : Tr → Bool) (t : Tr) : Bool := numberedT t && (decide (0 < t.num) && (decide (t.num < t.kids.length) && ((t.kids.take t.num.toNat).all p && t.kids.all (r .exp))))
def stmB (r : Q → Tr → Bool) (t : Tr) : Bool :=
  if t.kind == 20 then blkB r t
  else if t.kind == 25 then ifB r t
  else if t.kind == 21 then namedT t && (rowB [r .typ] t.kids || rowB [r .typ, r .exp] t.kids)
  else if t.kind == 22 then asgB r isNameT t
  else if t.kind == 23 then asgB r isPlaceT t
  else if t.kind == 24 then bareT t && (rowB [isCallT] t.kids && rowB [r .exp] t.kids)
  else if t.kind == 26 then bareT t && (rowB [r .blk] t.kids || rowB [r .exp, r .blk] t.kids)
  else if t.kind == 27 then bareT t && t.kids.all (r .exp)
  else if t.kind == 28 || t.kind == 29 then bareT t && rowB [] t.kids
  else false
def expB (r : Q → Tr → Bool) (t : Tr) : Bool :=
  if t.kind == 40 || t.kind == 41 || t.kind == 42 || t.kind == 43 || t.kind == 44 then leafB t
  else if t.kind == 45 then namedT t && t.kids.all (r .exp)
  else if t.kind == 46 then bareT t && partedB t.kids 1 (r .typ) (r .exp)
  else if t.kind == 47 then bareT t && rowB [r .sig, r .blk] t.kids
  else if t.kind == 48 then namedT t && rowB [r .exp] t.kids
  else if t.kind == 49 then bareT t && rowB [r .exp, r .exp] t.kids
  else if t.kind == 50 then numberedT t && ((t.kids.length : Int) == cutN t.num && t.kids.all (r .exp))
  else if t.kind == 51 then bareT t && (decide (0 < t.kids.length) && t.kids.all (r .exp))
  else if t.kind == 52 then t.num == 0 && (prefixL t.text && rowB [r .exp] t.kids)
  else if t.kind == 53 then t.num == 0 && (decide (0 < rankL t.text) && rowB [r .exp, r .exp] t.kids)
  else false
/-- Is a tree, down to so many nodes, of that form? -/
def snd : Nat → Q → Tr → Bool
  | 0, _, _ => false
  | n + 1, .typ, t => typB (snd n) t
  | n + 1, .par, t => parB (snd n) t
  | n + 1, .sig, t => sigB (snd n) t
  | n + 1, .blk, t => blkB (snd n) t
  | n + 1, .ifS, t => ifB (snd n) t
  | n + 1, .els, t => elsB (snd n) t
  | n + 1, .stm, t => stmB (snd n) t
  | n + 1, .exp, t => expB (snd n) t
def recB (r : Q → Tr → Bool) (t : Tr) : Bool := parB r t && (match t.kids with
  | k :: _ => k.kind == 11 && (match k.kids with
    | j :: _ => j.kind == 10
    | _ => false)
  | _ => false)
def fldB (r : Q → Tr → Bool) (t : Tr) : Bool := t.kind == 6 && (namedT t && rowB [r .typ] t.kids)
def metB (r : Q → Tr → Bool) (t : Tr) : Bool := t.kind == 6 && (namedT t && rowB [r .sig] t.kids)
/-- A declaration, its kids' tests by r, its kids' kids' by r'. -/
def decB (n : Nat) (t : Tr) : Bool :=
  if t.kind == 2 then namedT t && t.kids.all (fldB (snd n))
  else if t.kind == 3 then namedT t && t.kids.all (metB (snd n))
  else if t.kind == 4 then namedT t && rowB [snd (n + 1) .sig, snd (n + 1) .blk] t.kids
  else if t.kind == 5 then namedT t && rowB [recB (snd n), snd (n + 1) .sig, snd (n + 1) .blk] t.kids
  else false
def prgB (t : Tr) : Bool := t.kind == 1 && (bareT t && t.kids.all (decB 97))
def soundT (t : Tr) : Bool := smallT t && prgB t

/-- A tree is so deep at most, has lists and texts that are not too long. -/
def Fit : Nat → Tr → Prop
  | 0, _ => False
  | n + 1, t => t.kids.length ≤ 20000 ∧ t.text.length ≤ maxLen ∧ ∀ k ∈ t.kids, Fit n k

theorem rowB_length : ∀ {ps : List (Tr → Bool)} {ts : List Tr}, rowB ps ts = true → ts.length = ps.length
  | [], [], _ => rfl
  | p :: ps, t :: ts, h => by simp only [rowB, Bool.and_eq_true] at h; simp [rowB_length h.2]
  | [], _ :: _, h => by simp [rowB] at h
  | _ :: _, [], h => by simp [rowB] at h
theorem rowB_ne : ∀ {ps : List (Tr → Bool)} {ts : List Tr}, ts.length ≠ ps.length → rowB ps ts = false := by
  intro ps ts h
  cases hr : rowB ps ts with
  | false => rfl
  | true => exact absurd (rowB_length hr) h
theorem rowB_take : ∀ {ps : List (Tr → Bool)} {ts : List Tr} {i : Nat} {p : Tr → Bool} {t : Tr}, ps[i]? = some p → ts[i]? = some t → p t = false → rowB ps ts = false
  | p :: ps, t :: ts, 0, _, _, h1, h2, h3 => by simp at h1 h2; subst h1 h2; simp [rowB, h3]
  | p :: ps, t :: ts, i + 1, _, _, h1, h2, h3 => by simp at h1 h2; simp [rowB, rowB_take h1 h2 h3]
  | [], _, _, _, _, h1, _, _ => by simp at h1
  | _ :: _, [], _, _, _, _, h2, _ => by simp at h2
theorem rowB_all : ∀ {ps : List (Tr → Bool)} {ts : List Tr}, ts.length = ps.length → (∀ (i : Nat) p t, ps[i]? = some p → ts[i]? = some t → p t = true) → rowB ps ts = true
  | [], [], _, _ => rfl
  | p :: ps, t :: ts, h, k => by
    simp only [rowB, Bool.and_eq_true]
    exact ⟨k 0 p t rfl rfl, rowB_all (by simpa using h) fun i q u hq hu => k (i + 1) q u (by simpa using hq) (by simpa using hu)⟩
  | [], _ :: _, h, _ => by simp at h
  | _ :: _, [], h, _ => by simp at h

/-- A list of trees lies at a slice. -/
def Lst (w : World) (S : Nat → Prop) (ts : List Tr) (sl : Value) : Prop := ∃ sls, RowAt w S sl ts.length (cellsOf ts sls) ∧ KL w S ts sls
theorem Lst.of {w : World} {S : Nat → Prop} {k : Int} {s : List UInt8} {n : Int} {ks : List Tr} {sl : Value} (h : KT w S (.mk k s n ks) sl) : Lst w S ks sl := by
  simp only [KT] at h; exact h
theorem Lst.kids {w : World} {S : Nat → Prop} {t : Tr} {sl : Value} (h : KT w S t sl) : Lst w S t.kids sl := by
  cases t; exact Lst.of h
theorem Lst.fr {S S' : Nat → Prop} {w w' : World} {ts : List Tr} {sl : Value} (h : Lst w S ts sl) (hf : Fr S w w') (hS : ∀ b, S b → S' b) : Lst w' S' ts sl := by
  obtain ⟨sls, h1, h2⟩ := h
  exact ⟨sls, h1.keep hf hS, h2.fr hf hS⟩
theorem Lst.slice {w : World} {S : Nat → Prop} {ts : List Tr} {sl : Value} (h : Lst w S ts sl) : ∃ ao cap, sl = .slice ao ts.length cap := by
  obtain ⟨sls, h1 | ⟨g, o, cap, h1, _⟩, _⟩ := h
  · obtain ⟨h0, ao, cap, h⟩ := h1; exact ⟨ao, cap, by rw [h, h0]⟩
  · exact ⟨_, cap, h1⟩

/-- What the test g of trees of depth n owes. -/
def Tst (g n : Nat) (p : Tr → Bool) : Prop := ∀ (t : Tr) (sl : Value) (S : Nat → Prop) (w : World), Gl w → (∀ b, S b → b < w.heap.size) → Fit n t → KT w S t sl →
  Calls Tryz.prog g #[tv t sl] w fun e w' => e = .returned (.bool (p t)) ∧ Below w.heap.size w w'
end Go.Proofs.YtbejkphekfbfnaaGreat
