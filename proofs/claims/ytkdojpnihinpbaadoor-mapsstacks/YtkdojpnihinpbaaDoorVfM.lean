/- Which programs of the machine are sound: plain. -/
import Derived.Test.YtkdojpnihinpbaaDoorCdS0
namespace Go.Proofs.YtkdojpnihinpbaaDoor
/-- A kind without Local. -/
def bareK (k : Int) : Int := if 1048576 ≤ k then k - 1048576 else k
/-- Is it a kind, where there are n types? -/
def isKB (n : Nat) (k : Int) : Bool := decide (k = 0 ∨ k = 1 ∨ (2 ≤ bareK k ∧ bareK k < 2 + 2 * (n : Int)))
def fitB (k o : Int) : Bool := decide (k = o ∨ k = bareK o)
def inB (x : Int) (m : Nat) : Bool := decide (0 ≤ x ∧ x < (m : Int))
def ptrB (k : Int) : Bool := decide (2 ≤ bareK k ∧ bareK k % 2 = 0)
def arrB (k : Int) : Bool := decide (2 ≤ bareK k ∧ bareK k % 2 = 1)
def boxB (k : Int) : Bool := decide (2 ≤ bareK k ∧ bareK k % 2 = 0 ∧ k < 1048576)
/-- A kind that is none or Local. -/
def freeB (n : Nat) (k : Int) : Bool := isKB n k && decide (k < 1048576)
def parK (f : Fd) : List Int := f.lo.take f.pa.toNat
/-- Has a type one field alone, of this kind? -/
def onlyB (p : Pg) (t k : Int) : Bool := decide (p.ty[t.toNat]? = some [k])
def fu0 : Fd := ⟨0, [], [], [], []⟩
/-- The first function of a table. -/
def itemP (p : Pg) (t : Int) : Fd := (p.fu[(((p.ta[t.toNat]?).getD [])[0]?.getD 0).toNat]?).getD fu0
def callP (p : Pg) (x : Int) : Fd := (p.fu[x.toNat]?).getD fu0
/-- Are A and B what they must be? -/
def namesB (p : Pg) (f : Fd) (i : In3) : Bool :=
  if i.o = 2 then decide (i.a ≠ 0) && isKB p.ty.length i.a
  else if i.o = 3 ∨ i.o = 4 then inB i.a f.lo.length
  else if i.o = 7 then decide (0 ≤ i.a ∧ i.a ≤ 9)
  else if i.o = 11 ∨ i.o = 12 ∨ i.o = 21 then inB i.a p.ty.length
  else if i.o = 13 then inB i.a f.ar.length
  else if i.o = 16 then inB i.b p.ty.length
  else if i.o = 22 then inB i.a p.fu.length
  else if i.o = 23 then inB i.a p.ta.length
  else if i.o = 29 then inB i.a p.st.length && inB i.b p.ty.length && onlyB p i.b 0
  else true
/-- What the kinds that are taken must be: from the lowest on. -/
inductive Must where
  | fit (ks : List Int)
  | each (ps : List (Int → Bool))
  | alike
def anyB (_ : Int) : Bool := true
def exB (k : Int) (x : Int) : Bool := decide (x = k)
def takesP (p : Pg) (f : Fd) (i : In3) : Must :=
  if i.o = 4 then .fit [(f.lo[i.a.toNat]?).getD 0]
  else if i.o = 5 ∨ i.o = 6 then .each [anyB]
  else if i.o = 7 then .fit [0, 0]
  else if i.o = 8 then .alike
  else if i.o = 10 ∨ i.o = 12 ∨ i.o = 25 ∨ i.o = 26 ∨ i.o = 27 then .fit [0]
  else if i.o = 14 ∨ i.o = 16 then .each [ptrB]
  else if i.o = 15 then .each [ptrB, anyB]
  else if i.o = 17 then .each [arrB, exB 0]
  else if i.o = 18 then .each [arrB]
  else if i.o = 19 then .each [boxB]
  else if i.o = 20 ∨ i.o = 21 then .fit [1]
  else if i.o = 22 then .fit (parK (callP p i.a))
  else if i.o = 23 then .fit (parK (itemP p i.a) ++ [0])
  else if i.o = 24 then .fit f.re
  else .each []
def Must.n : Must → Nat
  | .fit ks => ks.length
  | .each ps => ps.length
  | .alike => 2
/-- Is the i-th what it must be (up: the upper one of two, where they must be alike)? -/
def Must.at (m : Must) (i : Nat) (up k : Int) : Bool := match m with
  | .fit ks => fitB k ((ks[i]?).getD 0)
  | .each ps => ((ps[i]?).getD anyB) k
  | .alike => if i = 1 then decide (k ≠ 0) else decide (k ≠ 0) && (fitB k up || fitB up k)
/-- Are these kinds, the lowest first, what they must be? -/
def Must.fine (m : Must) (ks : List Int) : Bool := (List.range ks.length).all fun i => m.at i ((ks[1]?).getD 0) ((ks[i]?).getD 0)
def fieldP (p : Pg) (k x : Int) : Option Int :=
  let fs := (p.ty[((bareK k - 2) / 2).toNat]?).getD []
  if inB x fs.length then fs[x.toNat]? else none
def locK (k : Int) : Int := if 1048576 ≤ k then 1048576 else 0
/-- The kinds that are put, or an error. -/
def putsP (p : Pg) (f : Fd) (i : In3) (top low : Int) : Except Int (List Int) :=
  if i.o = 1 ∨ i.o = 7 ∨ i.o = 8 ∨ i.o = 18 ∨ i.o = 20 then .ok [0]
  else if i.o = 2 then .ok [i.a]
  else if i.o = 3 then .ok [(f.lo[i.a.toNat]?).getD 0]
  else if i.o = 6 then .ok [low, low]
  else if i.o = 11 ∨ i.o = 21 then .ok [2 + 2 * i.a]
  else if i.o = 12 then .ok [3 + 2 * i.a]
  else if i.o = 13 then .ok [1048576 + 2 + 2 * (f.ar[i.a.toNat]?).getD 0]
  else if i.o = 14 then match fieldP p low i.a with
    | some k => .ok [k]
    | none => .error 11
  else if i.o = 15 then match fieldP p low i.a with
    | some k => if k = top then .ok [] else .error 8
    | none => .error 11
  else if i.o = 16 then match fieldP p low i.a with
    | some k => if onlyB p i.b k then .ok [locK low + 2 + 2 * i.b] else .error 11
    | none => .error 11
  else if i.o = 17 then .ok [low - 1]
  else if i.o = 19 then .ok [1]
  else if i.o = 22 then .ok (callP p i.a).re
  else if i.o = 23 then .ok (itemP p i.a).re
  else if i.o = 29 then .ok [3 + 2 * i.b]
  else .ok []
def nextsP (i : In3) (at_ : Nat) : List Int :=
  if i.o = 9 then [i.a]
  else if i.o = 10 then [(at_ : Int) + 1, i.a]
  else if i.o = 24 ∨ i.o = 27 ∨ i.o = 28 then []
  else [(at_ : Int) + 1]
/-- One instruction: the stack behind it, and where it goes on. -/
def lookP (p : Pg) (f : Fd) (at_ : Nat) (i : In3) (s : List Int) : Except Int (List Int × List Int) :=
  let m := takesP p f i
  let ks := s.drop (s.length - m.n)
  if namesB p f i = false then .error 11
  else if s.length < m.n ∨ (i.o = 24 ∧ s.length ≠ m.n) then .error 9
  else if m.fine ks = false then .error 8
  else match putsP p f i (ks.getLast?.getD 0) (ks.head?.getD 0) with
    | .error e => .error e
    | .ok l => if (nextsP i at_).all (fun x => inB x f.co.length) then .ok (s.take (s.length - m.n) ++ l, nextsP i at_) else .error 10
/-- The way through a function: what stands ahead of each instruction, which ones wait, the greatest depth. -/
structure Fl where
  ah : List (Option (List Int))
  wt : List Bool
  mo : Nat
def comeP (F : Fl) (x : Nat) (s : List Int) : Except Int Fl := match (F.ah[x]?).getD none with
  | none => .ok { F with ah := F.ah.set x (some s), wt := F.wt.set x true }
  | some t => if t = s then .ok F else .error 9
def comesP (s : List Int) : List Int → Fl → Except Int Fl
  | [], F => .ok F
  | x :: r, F => match comeP F x.toNat s with
    | .ok G => comesP s r G
    | .error e => .error e
def in0 : In3 := ⟨0, 0, 0⟩
/-- The one that waits at x is looked at. -/
def stepP (p : Pg) (f : Fd) (x : Nat) (F : Fl) : Except Int Fl :=
  match lookP p f x ((f.co[x]?).getD in0) (((F.ah[x]?).getD none).getD []) with
  | .error e => .error e
  | .ok (b, ns) => comesP b ns { F with wt := F.wt.set x false, mo := max F.mo b.length }
/-- The least that waits. -/
def leastP : List Bool → Option Nat
  | [] => none
  | true :: _ => some 0
  | false :: r => (leastP r).map (· + 1)
def runP (p : Pg) (f : Fd) : Nat → Fl → Except (Nat × Int) Fl
  | 0, F => .ok F
  | n + 1, F => match leastP F.wt with
    | none => .ok F
    | some x => match stepP p f x F with
      | .error e => .error (x, e)
      | .ok G => runP p f n G
def fl0 (n : Nat) : Fl := ⟨(List.replicate n none).set 0 (some []), (List.replicate n false).set 0 true, 0⟩
def followP (p : Pg) (f : Fd) : Except (Nat × Int) Fl := runP p f (f.co.length + 1) (fl0 f.co.length)
/-- Are the heads right? of which function not. -/
def headB (n : Nat) (f : Fd) : Bool := f.lo.all (isKB n) && f.ar.all (fun t => inB t n) && f.re.all (freeB n) && decide (0 < f.co.length)
def tableB (p : Pg) (t : List Int) : Bool := decide (0 < t.length) && t.all fun x => inB x p.fu.length && decide (parK (callP p ((t[0]?).getD 0)) = parK (callP p x)) && decide ((callP p ((t[0]?).getD 0)).re = (callP p x).re)
def firstBad (p : Pg) : Nat → List Fd → Option Nat
  | _, [] => none
  | i, f :: r => if headB p.ty.length f = true ∧ (0 < i ∨ (f.pa = 0 ∧ f.re = [])) then firstBad p (i + 1) r else some i
def headsP (p : Pg) : Option Nat :=
  if (p.ty.all fun l => decide (0 < l.length) && l.all (freeB p.ty.length)) = false then some 0
  else match firstBad p 0 p.fu with
    | some i => some i
    | none => if p.ta.all (tableB p) && decide (0 < p.fu.length) then none else some 0
def funcsP (p : Pg) : Nat → List Fd → Int × Int × Int
  | _, [] => (0, 0, 0)
  | i, f :: r => match followP p f with
    | .error (x, e) => ((i : Int), (x : Int), e)
    | .ok _ => funcsP p (i + 1) r
/-- Check's answer. -/
def checkP (p : Pg) : Int × Int × Int :=
  if sndP p = false then (0, 0, 2)
  else match headsP p with
    | some i => ((i : Int), 0, 12)
    | none => funcsP p 0 p.fu
end Go.Proofs.YtkdojpnihinpbaaDoor
