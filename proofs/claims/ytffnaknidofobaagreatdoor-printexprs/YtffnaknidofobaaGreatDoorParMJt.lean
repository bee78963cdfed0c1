/- The parser as a function on tokens: the plain mathematics. -/
import Derived.WalkKit
namespace Go.Proofs.YtffnaknidofobaaGreatDoor
/-- A token: kind, text, number, place. -/
abbrev Tk:=Int × List UInt8 × Int × Nat
/-- A tree. -/
inductive Tr where
  | mk (k : Int) (s : List UInt8) (n : Int) (ks : List Tr)
def Tr.kind : Tr → Int | .mk k _ _ _ => k
def Tr.text : Tr → List UInt8 | .mk _ s _ _ => s
def Tr.num : Tr → Int | .mk _ _ n _ => n
def Tr.kids : Tr → List Tr | .mk _ _ _ ks => ks
/-- What a part of the parser comes to: a thing and the place behind it, or the place of the fault. -/
inductive Res (α : Type) where
  | ok (a : α) (i : Nat)
  | bad (i : Nat)
def Res.bind {α β : Type} (r : Res α) (f : α → Nat → Res β) : Res β:=match r with
  | .ok a i => f a i
  | .bad i => .bad i
def tkA (l : List Tk) (i : Nat) : Tk:=l.getD i (0,[],0,0)
def kindA (l : List Tk) (i : Nat) : Int:=(tkA l i).1
def textA (l : List Tk) (i : Nat) : List UInt8:=(tkA l i).2.1
def numA (l : List Tk) (i : Nat) : Int:=(tkA l i).2.2.1
def isM (l : List Tk) (i : Nat) (s : List UInt8) : Bool:=(kindA l i == 4 || kindA l i == 5) && textA l i == s
def markA (l : List Tk) (i : Nat) : List UInt8:=if kindA l i == 4 then textA l i else []
def nameR (l : List Tk) (i : Nat) : Res (List UInt8):=if kindA l i == 1 then .ok (textA l i) (i + 1) else .bad i
def needR (l : List Tk) (s : List UInt8) (i : Nat) : Res Unit:=if isM l i s then .ok () (i + 1) else .bad i
def upToF (l : List Tk) (mark : List UInt8) (item : Nat → Res Tr) : Nat → List Tr → Nat → Res (List Tr)
  | 0,_,i => .bad i
  | f + 1,acc,i => if isM l i mark then .ok acc i else (item i).bind fun t j => upToF l mark item f (acc ++ [t]) j
def commasF (l : List Tk) (item : Nat → Res Tr) : Nat → List Tr → Nat → Res (List Tr)
  | 0,_,i => .bad i
  | f + 1,acc,i => if isM l i [44] then (item (i + 1)).bind fun t j => commasF l item f (acc ++ [t]) j else .ok acc i
def upToR (l : List Tk) (mark : List UInt8) (item : Nat → Res Tr) (i : Nat) : Res (List Tr):=upToF l mark item (l.length + 1) [] i
def commasR (l : List Tk) (item : Nat → Res Tr) (i : Nat) : Res (List Tr):=(item i).bind fun t j => commasF l item (l.length + 1) [t] j
def betweenR {α : Type} (l : List Tk) (o s : List UInt8) (inner : Nat → Res α) (i : Nat) : Res α :=
  (needR l o i).bind fun _ i => (inner i).bind fun a i => (needR l s i).bind fun _ i => .ok a i
def innerR (l : List Tk) (s : List UInt8) (item : Nat → Res Tr) (i : Nat) : Res (List Tr):=if isM l i s then .ok [] i else commasR l item i
def listedR (l : List Tk) (o s : List UInt8) (item : Nat → Res Tr) (i : Nat) : Res (List Tr):=betweenR l o s (innerR l s item) i
def membersR (l : List Tk) (item : Nat → Res Tr) (i : Nat) : Res (List Tr):=betweenR l [123] [125] (upToR l [125] item) i
/-- The parts that come to themselves again. -/
structure Ps where
  typ : Nat → Res Tr
  bin : Bool → Int → Nat → Res Tr
  una : Bool → Nat → Res Tr
  blk : Nat → Res Tr
  ifS : Nat → Res Tr
def atTypeR (l : List Tk) (i : Nat) : Bool:=kindA l i == 1 || isM l i [42] || isM l i [91] || isM l i [102,117,110,99]
def typesR (l : List Tk) (p : Ps) (i : Nat) : Res (List Tr):=commasR l p.typ i
def resultsR (l : List Tk) (p : Ps) (i : Nat) : Res (List Tr) :=
  if isM l i [40] then betweenR l [40] [41] (typesR l p) i
  else if atTypeR l i then (p.typ i).bind fun t i => .ok [t] i
  else .ok [] i
def functionR (l : List Tk) (p : Ps) (kind : Int) (param : Nat → Res Tr) (i : Nat) : Res Tr :=
  (listedR l [40] [41] param i).bind fun ps i => (resultsR l p i).bind fun rs i => .ok (.mk kind [] ps.length (ps ++ rs)) i
def typS (l : List Tk) (p : Ps) (i : Nat) : Res Tr :=
  if kindA l i == 1 then .ok (.mk 10 (textA l i) 0 []) (i + 1)
  else if isM l i [42] then (p.typ (i + 1)).bind fun t i => .ok (.mk 11 [] 0 [t]) i
  else if isM l i [91] then (needR l [93] (i + 1)).bind fun _ i => (p.typ i).bind fun t i => .ok (.mk 12 [] 0 [t]) i
  else (needR l [102,117,110,99] i).bind fun _ i => functionR l p 13 p.typ i
def paramR (l : List Tk) (p : Ps) (i : Nat) : Res Tr:=(nameR l i).bind fun s i => (p.typ i).bind fun t i => .ok (.mk 8 s 0 [t]) i
def sigR (l : List Tk) (p : Ps) (i : Nat) : Res Tr:=functionR l p 7 (paramR l p) i
def exprR (p : Ps) (h : Bool) (i : Nat) : Res Tr:=p.bin h 1 i
def exprsR (l : List Tk) (p : Ps) (h : Bool) (i : Nat) : Res (List Tr):=commasR l (exprR p h) i
def elementsR (l : List Tk) (p : Ps) (i : Nat) : Res (List Tr):=listedR l [123] [125] (exprR p false) i
def namedR (l : List Tk) (p : Ps) (h : Bool) (i : Nat) : Res Tr :=
  (nameR l i).bind fun s i => if isM l i [123] && !h then (elementsR l p i).bind fun es i => .ok (.mk 45 s 0 es) i else .ok (.mk 44 s 0 []) i
def cutR (l : List Tk) (p : Ps) (num : Int) (ks : List Tr) (i : Nat) : Res Tr :=
  (needR l [58] i).bind fun _ i => if isM l i [93] then .ok (.mk 50 [] num ks) i else (exprR p false i).bind fun e i => .ok (.mk 50 [] (num + 2) (ks ++ [e])) i
def partR (l : List Tk) (p : Ps) (whole : Tr) (i : Nat) : Res Tr :=
  if isM l i [58] then cutR l p 0 [whole] i
  else (exprR p false i).bind fun b i => if isM l i [58] then cutR l p 1 [whole,b] i else .ok (.mk 49 [] 0 [whole,b]) i
def primR (l : List Tk) (p : Ps) (h : Bool) (i : Nat) : Res Tr :=
  if kindA l i == 2 then .ok (.mk 40 [] (numA l i) []) (i + 1)
  else if kindA l i == 3 then .ok (.mk 41 (textA l i) 0 []) (i + 1)
  else if kindA l i == 1 then namedR l p h i
  else if isM l i [116,114,117,101] then .ok (.mk 42 [] 1 []) (i + 1)
  else if isM l i [102,97,108,115,101] then .ok (.mk 42 [] 0 []) (i + 1)
  else if isM l i [110,105,108] then .ok (.mk 43 [] 0 []) (i + 1)
  else if isM l i [40] then betweenR l [40] [41] (exprR p false) i
  else if isM l i [91] then (needR l [93] (i + 1)).bind fun _ i => (p.typ i).bind fun t i => (elementsR l p i).bind fun es i => .ok (.mk 46 [] 0 (t :: es)) i
  else (needR l [102,117,110,99] i).bind fun _ i => (sigR l p i).bind fun s i => (p.blk i).bind fun b i => .ok (.mk 47 [] 0 [s,b]) i
def postF (l : List Tk) (p : Ps) : Nat → Tr → Nat → Res Tr
  | 0,_,i => .bad i
  | f + 1,n,i =>
   if isM l i [46] then (nameR l (i + 1)).bind fun s j => postF l p f (.mk 48 s 0 [n]) j
   else if isM l i [91] then (betweenR l [91] [93] (partR l p n) i).bind fun n j => postF l p f n j
   else if isM l i [40] then (listedR l [40] [41] (exprR p false) i).bind fun es j => postF l p f (.mk 51 [] 0 (n :: es)) j
   else .ok n i
def postR (l : List Tk) (p : Ps) (h : Bool) (i : Nat) : Res Tr:=(primR l p h i).bind fun n j => postF l p (l.length + 1) n j
def rankL (s : List UInt8) : Int :=
  if s == [124,124] then 1 else if s == [38,38] then 2
  else if s == [61,61] || s == [33,61] || s == [60] || s == [60,61] || s == [62] || s == [62,61] then 3
  else if s == [43] || s == [45] then 4 else if s == [42] || s == [47] || s == [37] then 5 else 0
def prefixL (s : List UInt8) : Bool:=s == [45] || s == [33] || s == [38] || s == [42]
def unaS (l : List Tk) (p : Ps) (h : Bool) (i : Nat) : Res Tr :=
  if prefixL (markA l i) then (p.una h (i + 1)).bind fun t j => .ok (.mk 52 (markA l i) 0 [t]) j else postR l p h i
def binF (l : List Tk) (p : Ps) (h : Bool) (least : Int) : Nat → Tr → Nat → Res Tr
  | 0,_,i => .bad i
  | f + 1,n,i => if least ≤ rankL (markA l i) then (p.bin h (rankL (markA l i) + 1) (i + 1)).bind fun r j => binF l p h least f (.mk 53 (markA l i) 0 [n,r]) j else .ok n i
def binS (l : List Tk) (p : Ps) (h : Bool) (least : Int) (i : Nat) : Res Tr:=(p.una h i).bind fun n j => binF l p h least (l.length + 1) n j
def condR (p : Ps) (i : Nat) : Res Tr:=exprR p true i
def ifSS (l : List Tk) (p : Ps) (i : Nat) : Res Tr :=
  (condR p i).bind fun c i => (p.blk i).bind fun b i =>
    if isM l i [101,108,115,101] then (if isM l (i + 1) [105,102] then (p.ifS (i + 2)).bind fun e i => .ok (.mk 25 [] 0 [c,b,e]) i else (p.blk (i + 1)).bind fun e i => .ok (.mk 25 [] 0 [c,b,e]) i)
    else .ok (.mk 25 [] 0 [c,b]) i
def forR (l : List Tk) (p : Ps) (i : Nat) : Res Tr :=
  if isM l i [123] then (p.blk i).bind fun b i => .ok (.mk 26 [] 0 [b]) i
  else (condR p i).bind fun c i => (p.blk i).bind fun b i => .ok (.mk 26 [] 0 [c,b]) i
def isNameT (t : Tr) : Bool:=t.kind == 44
def isCallT (t : Tr) : Bool:=t.kind == 51
def isPlaceT (t : Tr) : Bool:=t.kind == 44 || t.kind == 48 || t.kind == 49 || (t.kind == 52 && t.text == [42])
def variableR (l : List Tk) (p : Ps) (h : Bool) (i : Nat) : Res Tr :=
  (nameR l i).bind fun s i => (p.typ i).bind fun t i => if isM l i [61] then (exprR p h (i + 1)).bind fun e i => .ok (.mk 21 s 0 [t,e]) i else .ok (.mk 21 s 0 [t]) i
def assignedR (l : List Tk) (p : Ps) (h : Bool) (kind : Int) (first : List Tr) (i : Nat) : Res Tr:=(exprsR l p h (i + 1)).bind fun es i => .ok (.mk kind [] first.length (first ++ es)) i
def assignmentR (l : List Tk) (p : Ps) (h : Bool) (i : Nat) : Res Tr :=
  (exprsR l p h i).bind fun es i =>
    if isM l i [58,61] && es.all isNameT then assignedR l p h 22 es i
    else if isM l i [61] && es.all isPlaceT then assignedR l p h 23 es i
    else match es with
      | [e] => if isCallT e then .ok (.mk 24 [] 0 [e]) i else .bad i
      | _ => .bad i
def simpleR (l : List Tk) (p : Ps) (h : Bool) (i : Nat) : Res Tr :=
  if isM l i [118,97,114] then variableR l p h (i + 1)
  else if isM l i [98,114,101,97,107] then .ok (.mk 28 [] 0 []) (i + 1)
  else if isM l i [99,111,110,116,105,110,117,101] then .ok (.mk 29 [] 0 []) (i + 1)
  else if isM l i [114,101,116,117,114,110] then (if isM l (i + 1) [59] then .ok (.mk 27 [] 0 []) (i + 1) else (exprsR l p h (i + 1)).bind fun es i => .ok (.mk 27 [] 0 es) i)
  else assignmentR l p h i
def stmtR (l : List Tk) (p : Ps) (h : Bool) (i : Nat) : Res Tr :=
  if isM l i [123] then p.blk i
  else if isM l i [105,102] then p.ifS (i + 1)
  else if isM l i [102,111,114] then forR l p (i + 1)
  else (simpleR l p h i).bind fun n i => (needR l [59] i).bind fun _ i => .ok n i
def blkS (l : List Tk) (p : Ps) (i : Nat) : Res Tr:=(membersR l (stmtR l p false) i).bind fun ks i => .ok (.mk 20 [] 0 ks) i
def ps (l : List Tk) : Nat → Ps
  | 0 => ⟨.bad,fun _ _ => .bad,fun _ => .bad,.bad,.bad⟩
  | n + 1 => ⟨typS l (ps l n),binS l (ps l n),unaS l (ps l n),blkS l (ps l n),ifSS l (ps l n)⟩
def fieldR (l : List Tk) (p : Ps) (i : Nat) : Res Tr:=(nameR l i).bind fun s i => (p.typ i).bind fun t i => (needR l [59] i).bind fun _ i => .ok (.mk 6 s 0 [t]) i
def methodR (l : List Tk) (p : Ps) (i : Nat) : Res Tr:=(nameR l i).bind fun s i => (sigR l p i).bind fun t i => (needR l [59] i).bind fun _ i => .ok (.mk 6 s 0 [t]) i
def receiverR (l : List Tk) (i : Nat) : Res Tr:=(nameR l i).bind fun s i => (needR l [42] i).bind fun _ i => (nameR l i).bind fun t i => .ok (.mk 8 s 0 [.mk 11 [] 0 [.mk 10 t 0 []]]) i
def typeDeclR (l : List Tk) (p : Ps) (i : Nat) : Res Tr :=
  (nameR l i).bind fun s i =>
    if isM l i [115,116,114,117,99,116] then (membersR l (fieldR l p) (i + 1)).bind fun ks i => .ok (.mk 2 s 0 ks) i
    else (needR l [105,110,116,101,114,102,97,99,101] i).bind fun _ i => (membersR l (methodR l p) i).bind fun ks i => .ok (.mk 3 s 0 ks) i
def declR (l : List Tk) (p : Ps) (i : Nat) : Res Tr :=
  if isM l i [116,121,112,101] then typeDeclR l p (i + 1)
  else (needR l [102,117,110,99] i).bind fun _ i =>
   if isM l i [40] then (betweenR l [40] [41] (receiverR l) i).bind fun r i => (nameR l i).bind fun s i => (sigR l p i).bind fun g i => (p.blk i).bind fun b i => .ok (.mk 5 s 0 [r,g,b]) i
   else (nameR l i).bind fun s i => (sigR l p i).bind fun g i => (p.blk i).bind fun b i => .ok (.mk 4 s 0 [g,b]) i
def progR (l : List Tk) (p : Ps) : Res Tr:=(upToR l [] (declR l p) 0).bind fun ks i => .ok (.mk 1 [] 0 ks) i
/-- The tree of tokens, the end's mark among them. -/
def treeR (l : List Tk) : Res Tr:=progR l (ps l (3 * l.length + 3))
end Go.Proofs.YtffnaknidofobaaGreatDoor

namespace Go.Proofs.YtffnaknidofobaaGreatDoor
def Res.idx {α : Type} : Res α → Nat
  | .ok _ i => i
  | .bad i => i
/-- It does not go back behind i. -/
def Ge {α : Type} (i : Nat) (r : Res α) : Prop:=i ≤ r.idx
/-- What it comes to lies behind i. -/
def Gs {α : Type} (i : Nat) : Res α → Prop
  | .ok _ j => i < j
  | .bad j => i ≤ j
section
variable {α β : Type} {i k : Nat} {r a b : Res α} {f : α → Nat → Res β}
theorem Gs.ge (h : Gs i r) : Ge i r:=by cases r <;> simp_all [Gs,Ge,Res.idx]; omega
theorem Ge.ok (x : α) (i : Nat) : Ge i (.ok x i):=Nat.le_refl _
theorem Ge.bad (i : Nat) : Ge i (.bad i : Res α):=Nat.le_refl _
theorem Gs.bad (i : Nat) : Gs i (.bad i : Res α):=Nat.le_refl _
theorem Gs.ok1 (x : α) (i : Nat) : Gs i (.ok x (i + 1)):=Nat.lt_succ_self _
theorem Ge.bind (h : Ge i r) (hf : ∀ a k,Ge k (f a k)) : Ge i (r.bind f):=by
 cases r with
 | bad j => exact h
 | ok x j => exact Nat.le_trans h (hf x j)
theorem Gs.bind (h : Gs i r) (hf : ∀ a k,Ge k (f a k)) : Gs i (r.bind f):=by
 cases r with
 | bad j => exact h
 | ok x j =>
  have h1 : i < j:=h
  have h2:=hf x j
  simp only [Res.bind]
  cases hh : f x j <;> rw [hh] at h2 <;> simp only [Ge,Res.idx] at h2 <;> simp only [Gs] <;> omega
theorem Gs.bind' (h : Ge i r) (hf : ∀ a k,Gs k (f a k)) : Gs i (r.bind f):=by
 cases r with
 | bad j => exact h
 | ok x j =>
  have h1 : i ≤ j:=h
  have h2:=hf x j
  simp only [Res.bind]
  cases hh : f x j <;> rw [hh] at h2 <;> simp only [Gs] at h2 ⊢ <;> omega
theorem Ge.le (h : Ge k r) (hk : i ≤ k) : Ge i r:=Nat.le_trans hk h
theorem Gs.of (h : Ge k r) (hk : i < k) : Gs i r:=by
 cases r <;> simp only [Ge,Res.idx] at h <;> simp only [Gs] <;> omega
theorem Gs.next (h : Ge (i + 1) r) : Gs i r:=Gs.of h (Nat.lt_succ_self _)
theorem Gs.next2 (h : Ge (i + 2) r) : Gs i r:=Gs.of h (by omega)
theorem Ge.ite {c : Prop} [Decidable c] (h1 : Ge i a) (h2 : Ge i b) : Ge i (if c then a else b):=by split <;> assumption
theorem Gs.ite {c : Prop} [Decidable c] (h1 : Gs i a) (h2 : Gs i b) : Gs i (if c then a else b):=by split <;> assumption
end
/-- The parts that come to themselves again go on. -/
structure PsG (p : Ps) : Prop where
  typ : ∀ i,Gs i (p.typ i)
  bin : ∀ h n i,Gs i (p.bin h n i)
  una : ∀ h i,Gs i (p.una h i)
  blk : ∀ i,Gs i (p.blk i)
  ifS : ∀ i,Gs i (p.ifS i)
section
variable (l : List Tk)
theorem nameR_s (i : Nat) : Gs i (nameR l i):=Gs.ite (Gs.ok1 _ _) (Gs.bad _)
theorem needR_s (s : List UInt8) (i : Nat) : Gs i (needR l s i):=Gs.ite (Gs.ok1 _ _) (Gs.bad _)
theorem nameR_g (i : Nat) : Ge i (nameR l i):=(nameR_s l i).ge
theorem needR_g (s : List UInt8) (i : Nat) : Ge i (needR l s i):=(needR_s l s i).ge
variable {item : Nat → Res Tr}
theorem upToF_g (h : ∀ k,Gs k (item k)) (mark : List UInt8) : ∀ f acc i,Ge i (upToF l mark item f acc i)
  | 0,_,_ => Ge.bad _
  | f + 1,_,i => Ge.ite (Ge.ok _ _) (Ge.bind (h i).ge fun _ _ => upToF_g h mark f _ _)
theorem commasF_g (h : ∀ k,Gs k (item k)) : ∀ f acc i,Ge i (commasF l item f acc i)
  | 0,_,_ => Ge.bad _
  | f + 1,_,_ => Ge.ite (Gs.next (Ge.bind (h _).ge fun _ _ => commasF_g h f _ _)).ge (Ge.ok _ _)
theorem upToR_g (h : ∀ k,Gs k (item k)) (mark : List UInt8) (i : Nat) : Ge i (upToR l mark item i):=upToF_g l h mark _ _ _
theorem commasR_s (h : ∀ k,Gs k (item k)) (i : Nat) : Gs i (commasR l item i):=Gs.bind (h i) fun _ _ => commasF_g l h _ _ _
theorem betweenR_s {α : Type} {inner : Nat → Res α} (h : ∀ k,Ge k (inner k)) (o s : List UInt8) (i : Nat) : Gs i (betweenR l o s inner i) :=
  Gs.bind (needR_s l o i) fun _ _ => Ge.bind (h _) fun _ _ => Ge.bind (needR_g l s _) fun _ _ => Ge.ok _ _
theorem innerR_g (h : ∀ k,Gs k (item k)) (s : List UInt8) (i : Nat) : Ge i (innerR l s item i):=Ge.ite (Ge.ok _ _) (commasR_s l h i).ge
theorem listedR_s (h : ∀ k,Gs k (item k)) (o s : List UInt8) (i : Nat) : Gs i (listedR l o s item i):=betweenR_s l (innerR_g l h s) o s i
theorem membersR_s (h : ∀ k,Gs k (item k)) (i : Nat) : Gs i (membersR l item i):=betweenR_s l (upToR_g l h _) _ _ i
variable {p : Ps} (P : PsG p)
include P
theorem typesR_s (i : Nat) : Gs i (typesR l p i):=commasR_s l P.typ i
theorem resultsR_g (i : Nat) : Ge i (resultsR l p i):=Ge.ite (betweenR_s l (fun k => (typesR_s l P k).ge) _ _ i).ge (Ge.ite (Ge.bind (P.typ i).ge fun _ _ => Ge.ok _ _) (Ge.ok _ _))
theorem functionR_s {param : Nat → Res Tr} (h : ∀ k,Gs k (param k)) (kind : Int) (i : Nat) : Gs i (functionR l p kind param i) :=
  Gs.bind (listedR_s l h _ _ i) fun _ _ => Ge.bind (resultsR_g l P _) fun _ _ => Ge.ok _ _
theorem typS_s (i : Nat) : Gs i (typS l p i) :=
  Gs.ite (Gs.ok1 _ _) (Gs.ite (Gs.next (Ge.bind (P.typ _).ge fun _ _ => Ge.ok _ _)) (Gs.ite (Gs.next (Ge.bind (needR_g l _ _) fun _ _ => Ge.bind (P.typ _).ge fun _ _ => Ge.ok _ _)) (Gs.bind (needR_s l _ _) fun _ _ => (functionR_s l P P.typ _ _).ge)))
theorem paramR_s (i : Nat) : Gs i (paramR l p i):=Gs.bind (nameR_s l i) fun _ _ => Ge.bind (P.typ _).ge fun _ _ => Ge.ok _ _
theorem sigR_s (i : Nat) : Gs i (sigR l p i):=functionR_s l P (paramR_s l P) _ i
omit l in
theorem exprR_s (h : Bool) (i : Nat) : Gs i (exprR p h i):=P.bin _ _ _
theorem exprsR_s (h : Bool) (i : Nat) : Gs i (exprsR l p h i):=commasR_s l (exprR_s P h) i
theorem elementsR_s (i : Nat) : Gs i (elementsR l p i):=listedR_s l (exprR_s P false) _ _ i
theorem namedR_s (h : Bool) (i : Nat) : Gs i (namedR l p h i):=Gs.bind (nameR_s l i) fun _ _ => Ge.ite (Ge.bind (elementsR_s l P _).ge fun _ _ => Ge.ok _ _) (Ge.ok _ _)
theorem cutR_s (num : Int) (ks : List Tr) (i : Nat) : Gs i (cutR l p num ks i):=Gs.bind (needR_s l _ i) fun _ _ => Ge.ite (Ge.ok _ _) (Ge.bind (exprR_s P _ _).ge fun _ _ => Ge.ok _ _)
theorem partR_s (t : Tr) (i : Nat) : Gs i (partR l p t i):=Gs.ite (cutR_s l P _ _ _) (Gs.bind (exprR_s P _ _) fun _ _ => Ge.ite (cutR_s l P _ _ _).ge (Ge.ok _ _))
theorem primR_s (h : Bool) (i : Nat) : Gs i (primR l p h i) :=
  Gs.ite (Gs.ok1 _ _) (Gs.ite (Gs.ok1 _ _) (Gs.ite (namedR_s l P _ _) (Gs.ite (Gs.ok1 _ _) (Gs.ite (Gs.ok1 _ _) (Gs.ite (Gs.ok1 _ _) (Gs.ite (betweenR_s l (fun k => (exprR_s P _ k).ge) _ _ _)
    (Gs.ite (Gs.next (Ge.bind (needR_g l _ _) fun _ _ => Ge.bind (P.typ _).ge fun _ _ => Ge.bind (elementsR_s l P _).ge fun _ _ => Ge.ok _ _)) (Gs.bind (needR_s l _ _) fun _ _ => Ge.bind (sigR_s l P _).ge fun _ _ => Ge.bind (P.blk _).ge fun _ _ => Ge.ok _ _))))))))
theorem postF_g : ∀ f t i,Ge i (postF l p f t i)
  | 0,_,_ => Ge.bad _
  | f + 1,_,_ => Ge.ite (Gs.next (Ge.bind (nameR_g l _) fun _ _ => postF_g f _ _)).ge (Ge.ite (Ge.bind (betweenR_s l (fun k => (partR_s l P _ k).ge) _ _ _).ge fun _ _ => postF_g f _ _) (Ge.ite (Ge.bind (listedR_s l (exprR_s P _) _ _ _).ge fun _ _ => postF_g f _ _) (Ge.ok _ _)))
theorem postR_s (h : Bool) (i : Nat) : Gs i (postR l p h i):=Gs.bind (primR_s l P h i) fun _ _ => postF_g l P _ _ _
theorem unaS_s (h : Bool) (i : Nat) : Gs i (unaS l p h i):=Gs.ite (Gs.next (Ge.bind (P.una _ _).ge fun _ _ => Ge.ok _ _)) (postR_s l P _ _)
theorem binF_g (h : Bool) (n : Int) : ∀ f t i,Ge i (binF l p h n f t i)
  | 0,_,_ => Ge.bad _
  | f + 1,_,_ => Ge.ite (Gs.next (Ge.bind (P.bin _ _ _).ge fun _ _ => binF_g h n f _ _)).ge (Ge.ok _ _)
theorem binS_s (h : Bool) (n : Int) (i : Nat) : Gs i (binS l p h n i):=Gs.bind (P.una _ _) fun _ _ => binF_g l P _ _ _ _ _
omit l in
theorem condR_s (i : Nat) : Gs i (condR p i):=exprR_s P _ _
theorem ifSS_s (i : Nat) : Gs i (ifSS l p i):=Gs.bind (condR_s P i) fun _ _ => Ge.bind (P.blk _).ge fun _ _ => Ge.ite (Ge.ite (Gs.next2 (Ge.bind (P.ifS _).ge fun _ _ => Ge.ok _ _)).ge (Gs.next (Ge.bind (P.blk _).ge fun _ _ => Ge.ok _ _)).ge) (Ge.ok _ _)
theorem forR_s (i : Nat) : Gs i (forR l p i):=Gs.ite (Gs.bind (P.blk _) fun _ _ => Ge.ok _ _) (Gs.bind (condR_s P i) fun _ _ => Ge.bind (P.blk _).ge fun _ _ => Ge.ok _ _)
theorem variableR_s (h : Bool) (i : Nat) : Gs i (variableR l p h i):=Gs.bind (nameR_s l i) fun _ _ => Ge.bind (P.typ _).ge fun _ _ => Ge.ite (Gs.next (Ge.bind (exprR_s P _ _).ge fun _ _ => Ge.ok _ _)).ge (Ge.ok _ _)
theorem assignedR_s (h : Bool) (kind : Int) (ts : List Tr) (i : Nat) : Gs i (assignedR l p h kind ts i):=Gs.next (Ge.bind (exprsR_s l P _ _).ge fun _ _ => Ge.ok _ _)
theorem assignmentR_s (h : Bool) (i : Nat) : Gs i (assignmentR l p h i):=Gs.bind (exprsR_s l P h i) fun es _ => Ge.ite (assignedR_s l P _ _ _ _).ge (Ge.ite (assignedR_s l P _ _ _ _).ge (by
  split
  · exact Ge.ite (Ge.ok _ _) (Ge.bad _)
  · exact Ge.bad _))
theorem simpleR_s (h : Bool) (i : Nat) : Gs i (simpleR l p h i) :=
  Gs.ite (Gs.next (variableR_s l P _ _).ge) (Gs.ite (Gs.ok1 _ _) (Gs.ite (Gs.ok1 _ _) (Gs.ite (Gs.ite (Gs.ok1 _ _) (Gs.next (Ge.bind (exprsR_s l P _ _).ge fun _ _ => Ge.ok _ _))) (assignmentR_s l P _ _))))
theorem stmtR_s (h : Bool) (i : Nat) : Gs i (stmtR l p h i) :=
  Gs.ite (P.blk _) (Gs.ite (Gs.next (P.ifS _).ge) (Gs.ite (Gs.next (forR_s l P _).ge) (Gs.bind (simpleR_s l P _ _) fun _ _ => Ge.bind (needR_g l _ _) fun _ _ => Ge.ok _ _)))
theorem blkS_s (i : Nat) : Gs i (blkS l p i):=Gs.bind (membersR_s l (stmtR_s l P false) i) fun _ _ => Ge.ok _ _
theorem fieldR_s (i : Nat) : Gs i (fieldR l p i):=Gs.bind (nameR_s l i) fun _ _ => Ge.bind (P.typ _).ge fun _ _ => Ge.bind (needR_g l _ _) fun _ _ => Ge.ok _ _
theorem methodR_s (i : Nat) : Gs i (methodR l p i):=Gs.bind (nameR_s l i) fun _ _ => Ge.bind (sigR_s l P _).ge fun _ _ => Ge.bind (needR_g l _ _) fun _ _ => Ge.ok _ _
omit P in
theorem receiverR_s (i : Nat) : Gs i (receiverR l i):=Gs.bind (nameR_s l i) fun _ _ => Ge.bind (needR_g l _ _) fun _ _ => Ge.bind (nameR_g l _) fun _ _ => Ge.ok _ _
theorem typeDeclR_s (i : Nat) : Gs i (typeDeclR l p i):=Gs.bind (nameR_s l i) fun _ _ => Ge.ite (Gs.next (Ge.bind (membersR_s l (fieldR_s l P) _).ge fun _ _ => Ge.ok _ _)).ge (Ge.bind (needR_g l _ _) fun _ _ => Ge.bind (membersR_s l (methodR_s l P) _).ge fun _ _ => Ge.ok _ _)
theorem declR_s (i : Nat) : Gs i (declR l p i) :=
  Gs.ite (Gs.next (typeDeclR_s l P _).ge) (Gs.bind (needR_s l _ i) fun _ _ => Ge.ite (Ge.bind (betweenR_s l (fun k => (receiverR_s l k).ge) _ _ _).ge fun _ _ => Ge.bind (nameR_g l _) fun _ _ => Ge.bind (sigR_s l P _).ge fun _ _ => Ge.bind (P.blk _).ge fun _ _ => Ge.ok _ _)
    (Ge.bind (nameR_g l _) fun _ _ => Ge.bind (sigR_s l P _).ge fun _ _ => Ge.bind (P.blk _).ge fun _ _ => Ge.ok _ _))
omit P in
theorem ps_s : ∀ n,PsG (ps l n)
  | 0 => ⟨fun _ => Gs.bad _,fun _ _ _ => Gs.bad _,fun _ _ => Gs.bad _,fun _ => Gs.bad _,fun _ => Gs.bad _⟩
  | n + 1 => ⟨typS_s l (ps_s n),binS_s l (ps_s n),unaS_s l (ps_s n),blkS_s l (ps_s n),ifSS_s l (ps_s n)⟩
end
end Go.Proofs.YtffnaknidofobaaGreatDoor

namespace Go.Proofs.YtffnaknidofobaaGreatDoor
def Bd {α : Type} (L : Nat) (r : Res α) : Prop:=r.idx < L
/-- The last one of the tokens, and none else, is the end. -/
structure Ended (l : List Tk) : Prop where
  nx : ∀ i,i < l.length → ¬ (kindA l i = 4 ∧ textA l i = []) → i + 1 < l.length
section
variable {α β : Type} {L i : Nat} {r a b : Res α} {f : α → Nat → Res β}
theorem Bd.ok (x : α) (h : i < L) : Bd L (.ok x i):=h
theorem Bd.bad (h : i < L) : Bd L (.bad i : Res α):=h
theorem Bd.bind (h : Bd L r) (hf : ∀ a k,k < L → Bd L (f a k)) : Bd L (r.bind f):=by
 cases r with
 | bad j => exact h
 | ok x j => exact hf x j h
theorem Bd.ite {c : Prop} [Decidable c] (h1 : c → Bd L a) (h2 : Bd L b) : Bd L (if c then a else b):=by
 split
 · rename_i h; exact h1 h
 · exact h2
end
structure PsB (L : Nat) (p : Ps) : Prop where
  typ : ∀ i,i < L → Bd L (p.typ i)
  bin : ∀ h n i,1 ≤ n → i < L → Bd L (p.bin h n i)
  una : ∀ h i,i < L → Bd L (p.una h i)
  blk : ∀ i,i < L → Bd L (p.blk i)
  ifS : ∀ i,i < L → Bd L (p.ifS i)
section
variable {l : List Tk} (E : Ended l)
include E
theorem Ended.m {s : List UInt8} (hs : s ≠ []) {i : Nat} (hi : i < l.length) (h : isM l i s = true) : i + 1 < l.length:=E.nx i hi fun hn => by
 simp only [isM,Bool.and_eq_true,beq_iff_eq] at h
 exact hs (h.2.symm.trans hn.2)
theorem Ended.k {k : Int} (hk : k ≠ 4) {i : Nat} (hi : i < l.length) (h : (kindA l i == k) = true) : i + 1 < l.length:=E.nx i hi fun hn => hk ((beq_iff_eq.1 h).symm.trans hn.1)
theorem Ended.p {i : Nat} (hi : i < l.length) (h : prefixL (markA l i) = true) : i + 1 < l.length:=E.nx i hi fun hn => by
 simp [markA,hn.1,hn.2,prefixL] at h
theorem Ended.r {i : Nat} {n : Int} (hn1 : 1 ≤ n) (hi : i < l.length) (h : n ≤ rankL (markA l i)) : i + 1 < l.length:=E.nx i hi fun hn => by
 have e : markA l i = []:=by simp [markA,hn.1,hn.2]
 have e0 : rankL ([] : List UInt8) = 0:=by decide
 rw [e,e0] at h; omega
theorem nameR_b {i : Nat} (hi : i < l.length) : Bd l.length (nameR l i):=Bd.ite (fun h => E.k (by decide) hi h) hi
theorem needR_b {s : List UInt8} (hs : s ≠ []) {i : Nat} (hi : i < l.length) : Bd l.length (needR l s i):=Bd.ite (fun h => E.m hs hi h) hi
variable {item : Nat → Res Tr}
omit E in
theorem upToF_b (h : ∀ k,k < l.length → Bd l.length (item k)) (mark : List UInt8) : ∀ f acc i,i < l.length → Bd l.length (upToF l mark item f acc i)
  | 0,_,_,hi => hi
  | f + 1,_,_,hi => Bd.ite (fun _ => hi) (Bd.bind (h _ hi) fun _ _ hk => upToF_b h mark f _ _ hk)
theorem commasF_b (h : ∀ k,k < l.length → Bd l.length (item k)) : ∀ f acc i,i < l.length → Bd l.length (commasF l item f acc i)
  | 0,_,_,hi => hi
  | f + 1,_,_,hi => Bd.ite (fun hm => Bd.bind (h _ (E.m (by decide) hi hm)) fun _ _ hk => commasF_b h f _ _ hk) hi
omit E in
theorem upToR_b (h : ∀ k,k < l.length → Bd l.length (item k)) (mark : List UInt8) {i : Nat} (hi : i < l.length) : Bd l.length (upToR l mark item i):=upToF_b h mark _ _ _ hi
theorem commasR_b (h : ∀ k,k < l.length → Bd l.length (item k)) {i : Nat} (hi : i < l.length) : Bd l.length (commasR l item i):=Bd.bind (h i hi) fun _ _ hk => commasF_b E h _ _ _ hk
theorem betweenR_b {α : Type} {inner : Nat → Res α} (h : ∀ k,k < l.length → Bd l.length (inner k)) {o s : List UInt8} (ho : o ≠ []) (hs : s ≠ []) {i : Nat} (hi : i < l.length) : Bd l.length (betweenR l o s inner i) :=
  Bd.bind (needR_b E ho hi) fun _ _ hk => Bd.bind (h _ hk) fun _ _ hk => Bd.bind (needR_b E hs hk) fun _ _ hk => hk
theorem innerR_b (h : ∀ k,k < l.length → Bd l.length (item k)) (s : List UInt8) {i : Nat} (hi : i < l.length) : Bd l.length (innerR l s item i):=Bd.ite (fun _ => hi) (commasR_b E h hi)
theorem listedR_b (h : ∀ k,k < l.length → Bd l.length (item k)) {o s : List UInt8} (ho : o ≠ []) (hs : s ≠ []) {i : Nat} (hi : i < l.length) : Bd l.length (listedR l o s item i):=betweenR_b E (fun _ hk => innerR_b E h s hk) ho hs hi
theorem membersR_b (h : ∀ k,k < l.length → Bd l.length (item k)) {i : Nat} (hi : i < l.length) : Bd l.length (membersR l item i):=betweenR_b E (fun _ hk => upToR_b h _ hk) (by decide) (by decide) hi
variable {p : Ps} (P : PsB l.length p)
include P
theorem typesR_b {i : Nat} (hi : i < l.length) : Bd l.length (typesR l p i):=commasR_b E P.typ hi
theorem resultsR_b {i : Nat} (hi : i < l.length) : Bd l.length (resultsR l p i):=Bd.ite (fun _ => betweenR_b E (fun _ hk => typesR_b E P hk) (by decide) (by decide) hi) (Bd.ite (fun _ => Bd.bind (P.typ _ hi) fun _ _ hk => hk) hi)
theorem functionR_b {param : Nat → Res Tr} (h : ∀ k,k < l.length → Bd l.length (param k)) (kind : Int) {i : Nat} (hi : i < l.length) : Bd l.length (functionR l p kind param i) :=
  Bd.bind (listedR_b E h (by decide) (by decide) hi) fun _ _ hk => Bd.bind (resultsR_b E P hk) fun _ _ hk => hk
theorem typS_b {i : Nat} (hi : i < l.length) : Bd l.length (typS l p i) :=
  Bd.ite (fun h => E.k (by decide) hi h) (Bd.ite (fun h => Bd.bind (P.typ _ (E.m (by decide) hi h)) fun _ _ hk => hk) (Bd.ite (fun h => Bd.bind (needR_b E (by decide) (E.m (by decide) hi h)) fun _ _ hk => Bd.bind (P.typ _ hk) fun _ _ hk => hk) (Bd.bind (needR_b E (by decide) hi) fun _ _ hk => functionR_b E P P.typ _ hk)))
theorem paramR_b {i : Nat} (hi : i < l.length) : Bd l.length (paramR l p i):=Bd.bind (nameR_b E hi) fun _ _ hk => Bd.bind (P.typ _ hk) fun _ _ hk => hk
theorem sigR_b {i : Nat} (hi : i < l.length) : Bd l.length (sigR l p i):=functionR_b E P (fun _ hk => paramR_b E P hk) _ hi
omit E in
theorem exprR_b (h : Bool) {i : Nat} (hi : i < l.length) : Bd l.length (exprR p h i):=P.bin _ _ _ (by decide) hi
theorem exprsR_b (h : Bool) {i : Nat} (hi : i < l.length) : Bd l.length (exprsR l p h i):=commasR_b E (fun _ hk => exprR_b P h hk) hi
theorem elementsR_b {i : Nat} (hi : i < l.length) : Bd l.length (elementsR l p i):=listedR_b E (fun _ hk => exprR_b P false hk) (by decide) (by decide) hi
theorem namedR_b (h : Bool) {i : Nat} (hi : i < l.length) : Bd l.length (namedR l p h i):=Bd.bind (nameR_b E hi) fun _ _ hk => Bd.ite (fun _ => Bd.bind (elementsR_b E P hk) fun _ _ hk => hk) hk
theorem cutR_b (num : Int) (ks : List Tr) {i : Nat} (hi : i < l.length) : Bd l.length (cutR l p num ks i):=Bd.bind (needR_b E (by decide) hi) fun _ _ hk => Bd.ite (fun _ => hk) (Bd.bind (exprR_b P _ hk) fun _ _ hk => hk)
theorem partR_b (t : Tr) {i : Nat} (hi : i < l.length) : Bd l.length (partR l p t i):=Bd.ite (fun _ => cutR_b E P _ _ hi) (Bd.bind (exprR_b P _ hi) fun _ _ hk => Bd.ite (fun _ => cutR_b E P _ _ hk) hk)
theorem primR_b (h : Bool) {i : Nat} (hi : i < l.length) : Bd l.length (primR l p h i) :=
  Bd.ite (fun h => E.k (by decide) hi h) (Bd.ite (fun h => E.k (by decide) hi h) (Bd.ite (fun _ => namedR_b E P _ hi) (Bd.ite (fun h => E.m (by decide) hi h) (Bd.ite (fun h => E.m (by decide) hi h) (Bd.ite (fun h => E.m (by decide) hi h) (Bd.ite (fun _ => betweenR_b E (fun _ hk => exprR_b P _ hk) (by decide) (by decide) hi)
    (Bd.ite (fun h => Bd.bind (needR_b E (by decide) (E.m (by decide) hi h)) fun _ _ hk => Bd.bind (P.typ _ hk) fun _ _ hk => Bd.bind (elementsR_b E P hk) fun _ _ hk => hk) (Bd.bind (needR_b E (by decide) hi) fun _ _ hk => Bd.bind (sigR_b E P hk) fun _ _ hk => Bd.bind (P.blk _ hk) fun _ _ hk => hk))))))))
theorem postF_b : ∀ f t i,i < l.length → Bd l.length (postF l p f t i)
  | 0,_,_,hi => hi
  | f + 1,_,_,hi => Bd.ite (fun h => Bd.bind (nameR_b E (E.m (by decide) hi h)) fun _ _ hk => postF_b f _ _ hk) (Bd.ite (fun _ => Bd.bind (betweenR_b E (fun _ hk => partR_b E P _ hk) (by decide) (by decide) hi) fun _ _ hk => postF_b f _ _ hk) (Bd.ite (fun _ => Bd.bind (listedR_b E (fun _ hk => exprR_b P _ hk) (by decide) (by decide) hi) fun _ _ hk => postF_b f _ _ hk) hi))
theorem postR_b (h : Bool) {i : Nat} (hi : i < l.length) : Bd l.length (postR l p h i):=Bd.bind (primR_b E P h hi) fun _ _ hk => postF_b E P _ _ _ hk
theorem unaS_b (h : Bool) {i : Nat} (hi : i < l.length) : Bd l.length (unaS l p h i):=Bd.ite (fun h => Bd.bind (P.una _ _ (E.p hi h)) fun _ _ hk => hk) (postR_b E P _ hi)
theorem binF_b (h : Bool) {n : Int} (hn : 1 ≤ n) : ∀ f t i,i < l.length → Bd l.length (binF l p h n f t i)
  | 0,_,_,hi => hi
  | f + 1,_,_,hi => Bd.ite (fun hr => Bd.bind (P.bin _ _ _ (by omega) (E.r hn hi hr)) fun _ _ hk => binF_b h hn f _ _ hk) hi
theorem binS_b (h : Bool) {n : Int} (hn : 1 ≤ n) {i : Nat} (hi : i < l.length) : Bd l.length (binS l p h n i):=Bd.bind (P.una _ _ hi) fun _ _ hk => binF_b E P _ hn _ _ _ hk
omit E in
theorem condR_b {i : Nat} (hi : i < l.length) : Bd l.length (condR p i):=exprR_b P _ hi
theorem ifSS_b {i : Nat} (hi : i < l.length) : Bd l.length (ifSS l p i):=Bd.bind (condR_b P hi) fun _ _ hk => Bd.bind (P.blk _ hk) fun _ _ hk => Bd.ite (fun h1 => Bd.ite (fun h2 => Bd.bind (P.ifS _ (E.m (by decide) (E.m (by decide) hk h1) h2)) fun _ _ hk => hk) (Bd.bind (P.blk _ (E.m (by decide) hk h1)) fun _ _ hk => hk)) hk
omit E in
theorem forR_b {i : Nat} (hi : i < l.length) : Bd l.length (forR l p i):=Bd.ite (fun _ => Bd.bind (P.blk _ hi) fun _ _ hk => hk) (Bd.bind (condR_b P hi) fun _ _ hk => Bd.bind (P.blk _ hk) fun _ _ hk => hk)
theorem variableR_b (h : Bool) {i : Nat} (hi : i < l.length) : Bd l.length (variableR l p h i):=Bd.bind (nameR_b E hi) fun _ _ hk => Bd.bind (P.typ _ hk) fun _ _ hk => Bd.ite (fun h1 => Bd.bind (exprR_b P _ (E.m (by decide) hk h1)) fun _ _ hk => hk) hk
theorem assignedR_b (h : Bool) (kind : Int) (ts : List Tr) {i : Nat} (hi : i + 1 < l.length) : Bd l.length (assignedR l p h kind ts i):=Bd.bind (exprsR_b E P _ hi) fun _ _ hk => hk
theorem assignmentR_b (h : Bool) {i : Nat} (hi : i < l.length) : Bd l.length (assignmentR l p h i):=Bd.bind (exprsR_b E P h hi) fun es _ hk => Bd.ite (fun h1 => assignedR_b E P _ _ _ (E.m (s:=[58,61]) (by decide) hk (by simp at h1; exact h1.1))) (Bd.ite (fun h1 => assignedR_b E P _ _ _ (E.m (s:=[61]) (by decide) hk (by simp at h1; exact h1.1))) (by
  split
  · exact Bd.ite (fun _ => hk) hk
  · exact hk))
theorem simpleR_b (h : Bool) {i : Nat} (hi : i < l.length) : Bd l.length (simpleR l p h i) :=
  Bd.ite (fun h1 => variableR_b E P _ (E.m (by decide) hi h1)) (Bd.ite (fun h1 => E.m (by decide) hi h1) (Bd.ite (fun h1 => E.m (by decide) hi h1) (Bd.ite (fun h1 => Bd.ite (fun _ => E.m (by decide) hi h1) (Bd.bind (exprsR_b E P _ (E.m (by decide) hi h1)) fun _ _ hk => hk)) (assignmentR_b E P _ hi))))
theorem stmtR_b (h : Bool) {i : Nat} (hi : i < l.length) : Bd l.length (stmtR l p h i) :=
  Bd.ite (fun _ => P.blk _ hi) (Bd.ite (fun h1 => P.ifS _ (E.m (by decide) hi h1)) (Bd.ite (fun h1 => forR_b P (E.m (by decide) hi h1)) (Bd.bind (simpleR_b E P _ hi) fun _ _ hk => Bd.bind (needR_b E (by decide) hk) fun _ _ hk => hk)))
theorem blkS_b {i : Nat} (hi : i < l.length) : Bd l.length (blkS l p i):=Bd.bind (membersR_b E (fun _ hk => stmtR_b E P false hk) hi) fun _ _ hk => hk
theorem fieldR_b {i : Nat} (hi : i < l.length) : Bd l.length (fieldR l p i):=Bd.bind (nameR_b E hi) fun _ _ hk => Bd.bind (P.typ _ hk) fun _ _ hk => Bd.bind (needR_b E (by decide) hk) fun _ _ hk => hk
theorem methodR_b {i : Nat} (hi : i < l.length) : Bd l.length (methodR l p i):=Bd.bind (nameR_b E hi) fun _ _ hk => Bd.bind (sigR_b E P hk) fun _ _ hk => Bd.bind (needR_b E (by decide) hk) fun _ _ hk => hk
omit P in
theorem receiverR_b {i : Nat} (hi : i < l.length) : Bd l.length (receiverR l i):=Bd.bind (nameR_b E hi) fun _ _ hk => Bd.bind (needR_b E (by decide) hk) fun _ _ hk => Bd.bind (nameR_b E hk) fun _ _ hk => hk
theorem typeDeclR_b {i : Nat} (hi : i < l.length) : Bd l.length (typeDeclR l p i):=Bd.bind (nameR_b E hi) fun _ _ hk => Bd.ite (fun h1 => Bd.bind (membersR_b E (fun _ hk => fieldR_b E P hk) (E.m (by decide) hk h1)) fun _ _ hk => hk) (Bd.bind (needR_b E (by decide) hk) fun _ _ hk => Bd.bind (membersR_b E (fun _ hk => methodR_b E P hk) hk) fun _ _ hk => hk)
theorem declR_b {i : Nat} (hi : i < l.length) : Bd l.length (declR l p i) :=
  Bd.ite (fun h1 => typeDeclR_b E P (E.m (by decide) hi h1)) (Bd.bind (needR_b E (by decide) hi) fun _ _ hk => Bd.ite (fun _ => Bd.bind (betweenR_b E (fun _ hk => receiverR_b E hk) (by decide) (by decide) hk) fun _ _ hk => Bd.bind (nameR_b E hk) fun _ _ hk => Bd.bind (sigR_b E P hk) fun _ _ hk => Bd.bind (P.blk _ hk) fun _ _ hk => hk)
    (Bd.bind (nameR_b E hk) fun _ _ hk => Bd.bind (sigR_b E P hk) fun _ _ hk => Bd.bind (P.blk _ hk) fun _ _ hk => hk))
theorem progR_b (h0 : 0 < l.length) : Bd l.length (progR l p):=Bd.bind (upToR_b (fun _ hk => declR_b E P hk) _ h0) fun _ _ hk => hk
omit P in
theorem ps_b : ∀ n,PsB l.length (ps l n)
  | 0 => ⟨fun _ h => h,fun _ _ _ _ h => h,fun _ _ h => h,fun _ h => h,fun _ h => h⟩
  | n + 1 => ⟨fun _ h => typS_b E (ps_b n) h,fun _ _ _ hn h => binS_b E (ps_b n) _ hn h,fun _ _ h => unaS_b E (ps_b n) _ h,fun _ h => blkS_b E (ps_b n) h,fun _ h => ifSS_b E (ps_b n) h⟩
end
end Go.Proofs.YtffnaknidofobaaGreatDoor
