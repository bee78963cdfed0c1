/- The parser as a function on tokens: the plain mathematics. -/
import Derived.WalkKit
namespace Go.Proofs.YtnkphlkjhgngkaaGreatDoor
/-- A token: kind, text, number, place. -/
abbrev Tk:=Int × List UInt8 × Int × Nat
/-- A tree. -/
inductive Tr where
  | mk (k : Int) (s : List UInt8) (n : Int) (ks : List Tr)
def Tr.kind : Tr → Int | .mk k _ _ _ => k
def Tr.text : Tr → List UInt8 | .mk _ s _ _ => s
def Tr.num : Tr → Int | .mk _ _ n _ => n
def Tr.kids : Tr → List Tr | .mk _ _ _ ks => ks
/-- What a part of the parser comes to: a thing and the place behind it, or the place of the fault. -/
inductive Res (α : Type) where
  | ok (a : α) (i : Nat)
  | bad (i : Nat)
def Res.bind {α β : Type} (r : Res α) (f : α → Nat → Res β) : Res β:=match r with
  | .ok a i => f a i
  | .bad i => .bad i
def tkA (l : List Tk) (i : Nat) : Tk:=l.getD i (0,[],0,0)
def kindA (l : List Tk) (i : Nat) : Int:=(tkA l i).1
def textA (l : List Tk) (i : Nat) : List UInt8:=(tkA l i).2.1
def numA (l : List Tk) (i : Nat) : Int:=(tkA l i).2.2.1
def isM (l : List Tk) (i : Nat) (s : List UInt8) : Bool:=(kindA l i == 4 || kindA l i == 5) && textA l i == s
def markA (l : List Tk) (i : Nat) : List UInt8:=if kindA l i == 4 then textA l i else []
def nameR (l : List Tk) (i : Nat) : Res (List UInt8):=if kindA l i == 1 then .ok (textA l i) (i + 1) else .bad i
def needR (l : List Tk) (s : List UInt8) (i : Nat) : Res Unit:=if isM l i s then .ok () (i + 1) else .bad i
def upToF (l : List Tk) (mark : List UInt8) (item : Nat → Res Tr) : Nat → List Tr → Nat → Res (List Tr)
  | 0,_,i => .bad i
  | f + 1,acc,i => if isM l i mark then .ok acc i else (item i).bind fun t j => upToF l mark item f (acc ++ [t]) j
def commasF (l : List Tk) (item : Nat → Res Tr) : Nat → List Tr → Nat → Res (List Tr)
  | 0,_,i => .bad i
  | f + 1,acc,i => if isM l i [44] then (item (i + 1)).bind fun t j => commasF l item f (acc ++ [t]) j else .ok acc i
def upToR (l : List Tk) (mark : List UInt8) (item : Nat → Res Tr) (i : Nat) : Res (List Tr):=upToF l mark item (l.length + 1) [] i
def commasR (l : List Tk) (item : Nat → Res Tr) (i : Nat) : Res (List Tr):=(item i).bind fun t j => commasF l item (l.length + 1) [t] j
def betweenR {α : Type} (l : List Tk) (o s : List UInt8) (inner : Nat → Res α) (i : Nat) : Res α :=
  (needR l o i).bind fun _ i => (inner i).bind fun a i => (needR l s i).bind fun _ i => .ok a i
def innerR (l : List Tk) (s : List UInt8) (item : Nat → Res Tr) (i : Nat) : Res (List Tr):=if isM l i s then .ok [] i else commasR l item i
def listedR (l : List Tk) (o s : List UInt8) (item : Nat → Res Tr) (i : Nat) : Res (List Tr):=betweenR l o s (innerR l s item) i
def membersR (l : List Tk) (item : Nat → Res Tr) (i : Nat) : Res (List Tr):=betweenR l [123] [125] (upToR l [125] item) i
/-- The parts that come to themselves again. -/
structure Ps where
  typ : Nat → Res Tr
  bin : Bool → Int → Nat → Res Tr
  una : Bool → Nat → Res Tr
  blk : Nat → Res Tr
  ifS : Nat → Res Tr
def atTypeR (l : List Tk) (i : Nat) : Bool:=kindA l i == 1 || isM l i [42] || isM l i [91] || isM l i [102,117,110,99]
def typesR (l : List Tk) (p : Ps) (i : Nat) : Res (List Tr):=commasR l p.typ i
def resultsR (l : List Tk) (p : Ps) (i : Nat) : Res (List Tr) :=
  if isM l i [40] then betweenR l [40] [41] (typesR l p) i
  else if atTypeR l i then (p.typ i).bind fun t i => .ok [t] i
  else .ok [] i
def functionR (l : List Tk) (p : Ps) (kind : Int) (param : Nat → Res Tr) (i : Nat) : Res Tr :=
  (listedR l [40] [41] param i).bind fun ps i => (resultsR l p i).bind fun rs i => .ok (.mk kind [] ps.length (ps ++ rs)) i
def typS (l : List Tk) (p : Ps) (i : Nat) : Res Tr :=
  if kindA l i == 1 then .ok (.mk 10 (textA l i) 0 []) (i + 1)
  else if isM l i [42] then (p.typ (i + 1)).bind fun t i => .ok (.mk 11 [] 0 [t]) i
  else if isM l i [91] then (needR l [93] (i + 1)).bind fun _ i => (p.typ i).bind fun t i => .ok (.mk 12 [] 0 [t]) i
  else (needR l [102,117,110,99] i).bind fun _ i => functionR l p 13 p.typ i
def paramR (l : List Tk) (p : Ps) (i : Nat) : Res Tr:=(nameR l i).bind fun s i => (p.typ i).bind fun t i => .ok (.mk 8 s 0 [t]) i
def sigR (l : List Tk) (p : Ps) (i : Nat) : Res Tr:=functionR l p 7 (paramR l p) i
def exprR (p : Ps) (h : Bool) (i : Nat) : Res Tr:=p.bin h 1 i
def exprsR (l : List Tk) (p : Ps) (h : Bool) (i : Nat) : Res (List Tr):=commasR l (exprR p h) i
def elementsR (l : List Tk) (p : Ps) (i : Nat) : Res (List Tr):=listedR l [123] [125] (exprR p false) i
def namedR (l : List Tk) (p : Ps) (h : Bool) (i : Nat) : Res Tr :=
  (nameR l i).bind fun s i => if isM l i [123] && !h then (elementsR l p i).bind fun es i => .ok (.mk 45 s 0 es) i else .ok (.mk 44 s 0 []) i
def cutR (l : List Tk) (p : Ps) (num : Int) (ks : List Tr) (i : Nat) : Res Tr :=
  (needR l [58] i).bind fun _ i => if isM l i [93] then .ok (.mk 50 [] num ks) i else (exprR p false i).bind fun e i => .ok (.mk 50 [] (num + 2) (ks ++ [e])) i
def partR (l : List Tk) (p : Ps) (whole : Tr) (i : Nat) : Res Tr :=
  if isM l i [58] then cutR l p 0 [whole] i
  else (exprR p false i).bind fun b i => if isM l i [58] then cutR l p 1 [whole,b] i else .ok (.mk 49 [] 0 [whole,b]) i
def primR (l : List Tk) (p : Ps) (h : Bool) (i : Nat) : Res Tr :=
  if kindA l i == 2 then .ok (.mk 40 [] (numA l i) []) (i + 1)
  else if kindA l i == 3 then .ok (.mk 41 (textA l i) 0 []) (i + 1)
  else if kindA l i == 1 then namedR l p h i
  else if isM l i [116,114,117,101] then .ok (.mk 42 [] 1 []) (i + 1)
  else if isM l i [102,97,108,115,101] then .ok (.mk 42 [] 0 []) (i + 1)
  else if isM l i [110,105,108] then .ok (.mk 43 [] 0 []) (i + 1)
  else if isM l i [40] then betweenR l [40] [41] (exprR p false) i
  else if isM l i [91] then (needR l [93] (i + 1)).bind fun _ i => (p.typ i).bind fun t i => (elementsR l p i).bind fun es i => .ok (.mk 46 [] 0 (t :: es)) i
  else (needR l [102,117,110,99] i).bind fun _ i => (sigR l p i).bind fun s i => (p.blk i).bind fun b i => .ok (.mk 47 [] 0 [s,b]) i
def postF (l : List Tk) (p : Ps) : Nat → Tr → Nat → Res Tr
  | 0,_,i => .bad i
  | f + 1,n,i =>
   if isM l i [46] then (nameR l (i + 1)).bind fun s j => postF l p f (.mk 48 s 0 [n]) j
   else if isM l i [91] then (betweenR l [91] [93] (partR l p n) i).bind fun n j => postF l p f n j
   else if isM l i [40] then (listedR l [40] [41] (exprR p false) i).bind fun es j => postF l p f (.mk 51 [] 0 (n :: es)) j
   else .ok n i
def postR (l : List Tk) (p : Ps) (h : Bool) (i : Nat) : Res Tr:=(primR l p h i).bind fun n j => postF l p (l.length + 1) n j
def rankL (s : List UInt8) : Int :=
  if s == [124,124] then 1 else if s == [38,38] then 2
  else if s == [61,61] || s == [33,61] || s == [60] || s == [60,61] || s == [62] || s == [62,61] then 3
  else if s == [43] || s == [45] then 4 else if s == [42] || s == [47] || s == [37] then 5 else 0
def prefixL (s : List UInt8) : Bool:=s == [45] || s == [33] || s == [38] || s == [42]
def unaS (l : List Tk) (p : Ps) (h : Bool) (i : Nat) : Res Tr :=
  if prefixL (markA l i) then (p.una h (i + 1)).bind fun t j => .ok (.mk 52 (markA l i) 0 [t]) j else postR l p h i
def binF (l : List Tk) (p : Ps) (h : Bool) (least : Int) : Nat → Tr → Nat → Res Tr
  | 0,_,i => .bad i
  | f + 1,n,i => if least ≤ rankL (markA l i) then (p.bin h (rankL (markA l i) + 1) (i + 1)).bind fun r j => binF l p h least f (.mk 53 (markA l i) 0 [n,r]) j else .ok n i
def binS (l : List Tk) (p : Ps) (h : Bool) (least : Int) (i : Nat) : Res Tr:=(p.una h i).bind fun n j => binF l p h least (l.length + 1) n j
def condR (p : Ps) (i : Nat) : Res Tr:=exprR p true i
def ifSS (l : List Tk) (p : Ps) (i : Nat) : Res Tr :=
  (condR p i).bind fun c i => (p.blk i).bind fun b i =>
    if isM l i [101,108,115,101] then (if isM l (i + 1) [105,102] then (p.ifS (i + 2)).bind fun e i => .ok (.mk 25 [] 0 [c,b,e]) i else (p.blk (i + 1)).bind fun e i => .ok (.mk 25 [] 0 [c,b,e]) i)
    else .ok (.mk 25 [] 0 [c,b]) i
def forR (l : List Tk) (p : Ps) (i : Nat) : Res Tr :=
  if isM l i [123] then (p.blk i).bind fun b i => .ok (.mk 26 [] 0 [b]) i
  else (condR p i).bind fun c i => (p.blk i).bind fun b i => .ok (.mk 26 [] 0 [c,b]) i
def isNameT (t : Tr) : Bool:=t.kind == 44
def isCallT (t : Tr) : Bool:=t.kind == 51
def isPlaceT (t : Tr) : Bool:=t.kind == 44 || t.kind == 48 || t.kind == 49 || (t.kind == 52 && t.text == [42])
def variableR (l : List Tk) (p : Ps) (h : Bool) (i : Nat) : Res Tr :=
  (nameR l i).bind fun s i => (p.typ i).bind fun t i => if isM l i [61] then (exprR p h (i + 1)).bind fun e i => .ok (.mk 21 s 0 [t,e]) i else .ok (.mk 21 s 0 [t]) i
def assignedR (l : List Tk) (p : Ps) (h : Bool) (kind : Int) (first : List Tr) (i : Nat) : Res Tr:=(exprsR l p h (i + 1)).bind fun es i => .ok (.mk kind [] first.length (first ++ es)) i
def assignmentR (l : List Tk) (p : Ps) (h : Bool) (i : Nat) : Res Tr :=
  (exprsR l p h i).bind fun es i =>
    if isM l i [58,61] && es.all isNameT then assignedR l p h 22 es i
    else if isM l i [61] && es.all isPlaceT then assignedR l p h 23 es i
    else match es with
      | [e] => if isCallT e then .ok (.mk 24 [] 0 [e]) i else .bad i
      | _ => .bad i
def simpleR (l : List Tk) (p : Ps) (h : Bool) (i : Nat) : Res Tr :=
  if isM l i [118,97,114] then variableR l p h (i + 1)
  else if isM l i [98,114,101,97,107] then .ok (.mk 28 [] 0 []) (i + 1)
  else if isM l i [99,111,110,116,105,110,117,101] then .ok (.mk 29 [] 0 []) (i + 1)
  else if isM l i [114,101,116,117,114,110] then (if isM l (i + 1) [59] then .ok (.mk 27 [] 0 []) (i + 1) else (exprsR l p h (i + 1)).bind fun es i => .ok (.mk 27 [] 0 es) i)
  else assignmentR l p h i
def stmtR (l : List Tk) (p : Ps) (h : Bool) (i : Nat) : Res Tr :=
  if isM l i [123] then p.blk i
  else if isM l i [105,102] then p.ifS (i + 1)
  else if isM l i [102,111,114] then forR l p (i + 1)
  else (simpleR l p h i).bind fun n i => (needR l [59] i).bind fun _ i => .ok n i
def blkS (l : List Tk) (p : Ps) (i : Nat) : Res Tr:=(membersR l (stmtR l p false) i).bind fun ks i => .ok (.mk 20 [] 0 ks) i
def ps (l : List Tk) : Nat → Ps
  | 0 => ⟨.bad,fun _ _ => .bad,fun _ => .bad,.bad,.bad⟩
  | n + 1 => ⟨typS l (ps l n),binS l (ps l n),unaS l (ps l n),blkS l (ps l n),ifSS l (ps l n)⟩
def fieldR (l : List Tk) (p : Ps) (i : Nat) : Res Tr:=(nameR l i).bind fun s i => (p.typ i).bind fun t i => (needR l [59] i).bind fun _ i => .ok (.mk 6 s 0 [t]) i
def methodR (l : List Tk) (p : Ps) (i : Nat) : Res Tr:=(nameR l i).bind fun s i => (sigR l p i).bind fun t i => (needR l [59] i).bind fun _ i => .ok (.mk 6 s 0 [t]) i
def receiverR (l : List Tk) (i : Nat) : Res Tr:=(nameR l i).bind fun s i => (needR l [42] i).bind fun _ i => (nameR l i).bind fun t i => .ok (.mk 8 s 0 [.mk 11 [] 0 [.mk 10 t 0 []]]) i
def typeDeclR (l : List Tk) (p : Ps) (i : Nat) : Res Tr :=
  (nameR l i).bind fun s i =>
    if isM l i [115,116,114,117,99,116] then (membersR l (fieldR l p) (i + 1)).bind fun ks i => .ok (.mk 2 s 0 ks) i
    else (needR l [105,110,116,101,114,102,97,99,101] i).bind fun _ i => (membersR l (methodR l p) i).bind fun ks i => .ok (.mk 3 s 0 ks) i
def declR (l : List Tk) (p : Ps) (i : Nat) : Res Tr :=
  if isM l i [116,121,112,101] then typeDeclR l p (i + 1)
  else (needR l [102,117,110,99] i).bind fun _ i =>
   if isM l i [40] then (betweenR l [40] [41] (receiverR l) i).bind fun r i => (nameR l i).bind fun s i => (sigR l p i).bind fun g i => (p.blk i).bind fun b i => .ok (.mk 5 s 0 [r,g,b]) i
   else (nameR l i).bind fun s i => (sigR l p i).bind fun g i => (p.blk i).bind fun b i => .ok (.mk 4 s 0 [g,b]) i
def progR (l : List Tk) (p : Ps) : Res Tr:=(upToR l [] (declR l p) 0).bind fun ks i => .ok (.mk 1 [] 0 ks) i
/-- The tree of tokens, the end's mark among them. -/
def treeR (l : List Tk) : Res Tr:=progR l (ps l (3 * l.length + 3))
end Go.Proofs.YtnkphlkjhgngkaaGreatDoor
