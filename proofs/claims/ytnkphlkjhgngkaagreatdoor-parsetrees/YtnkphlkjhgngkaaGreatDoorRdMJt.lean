/- The document's reader as a plain function, and that it comes to what the parser comes to. -/
import Derived.Test.YtnkphlkjhgngkaaGreatDoorParMJt
namespace Go.Proofs.YtnkphlkjhgngkaaGreatDoor
/-- Where the reader stands, and whether it met a fault. -/
abbrev Sg:=Nat × Bool
def zT : Tr:=.mk 0 [] 0 []
def bindV {α β : Type} (q : α × Sg) (f : α → Sg → β) : β:=f q.1 q.2
def nowV (l : List Tk) (s : Sg) : List UInt8:=if s.2 then [] else if kindA l s.1 == 4 || kindA l s.1 == 5 then textA l s.1 else []
def kindV (l : List Tk) (s : Sg) : Int:=if s.2 then 0 else kindA l s.1
def stepV (s : Sg) : Sg:=(s.1 + 1,s.2)
def badV (s : Sg) : Sg:=(s.1,true)
def isV (l : List Tk) (s : Sg) (m : List UInt8) : Bool:=nowV l s == m
def takeV (l : List Tk) (m : List UInt8) (s : Sg) : Bool × Sg:=if isV l s m then (true,stepV s) else (false,s)
def needV (l : List Tk) (m : List UInt8) (s : Sg) : Sg:=if isV l s m then stepV s else badV s
def nameV (l : List Tk) (s : Sg) : List UInt8 × Sg:=if kindV l s == 1 then (textA l s.1,stepV s) else ([],badV s)
structure Vs where
  typ : Sg → Tr × Sg
  bin : Bool → Int → Sg → Tr × Sg
  una : Bool → Sg → Tr × Sg
  blk : Sg → Tr × Sg
  ifS : Sg → Tr × Sg
/-- One more, as long as there is a comma. -/
def commaV (l : List Tk) (item : Sg → Tr × Sg) : Nat → List Tr → Sg → List Tr × Sg
  | 0,acc,s => (acc,badV s)
  | f + 1,acc,s => bindV (takeV l [44] s) fun b s => if b then bindV (item s) fun t s => commaV l item f (acc ++ [t]) s else (acc,s)
def commasV (l : List Tk) (item : Sg → Tr × Sg) (s : Sg) : List Tr × Sg:=bindV (item s) fun t s => commaV l item (l.length + 1) [t] s
def resultsV (l : List Tk) (p : Vs) (s : Sg) : List Tr × Sg :=
  bindV (takeV l [40] s) fun b s => if b then bindV (commasV l p.typ s) fun ks s => (ks,needV l [41] s)
    else if kindV l s == 1 || isV l s [42] || isV l s [91] || isV l s [102,117,110,99] then bindV (p.typ s) fun t s => ([t],s) else ([],s)
def typV (l : List Tk) (p : Vs) (s : Sg) : Tr × Sg :=
  if s.2 then (zT,s)
  else if isV l s [42] then bindV (p.typ (stepV s)) fun t s => (.mk 11 [] 0 [t],s)
  else if isV l s [91] then bindV (p.typ (needV l [93] (stepV s))) fun t s => (.mk 12 [] 0 [t],s)
  else if isV l s [102,117,110,99] then
    bindV (takeV l [41] (needV l [40] (stepV s))) fun b s =>
     bindV (if b then ([],s) else bindV (commasV l p.typ s) fun ks s => (ks,needV l [41] s)) fun ks s =>
      bindV (resultsV l p s) fun rs s => (.mk 13 [] ks.length (ks ++ rs),s)
  else bindV (nameV l s) fun n s => (.mk 10 n 0 [],s)
def parV (l : List Tk) (p : Vs) (s : Sg) : Tr × Sg:=bindV (nameV l s) fun n s => bindV (p.typ s) fun t s => (.mk 8 n 0 [t],s)
def sigV (l : List Tk) (p : Vs) (s : Sg) : Tr × Sg :=
  bindV (takeV l [41] (needV l [40] s)) fun b s =>
   bindV (if b then ([],s) else bindV (if s.2 then ([],s) else commasV l (parV l p) s) fun ks s => (ks,needV l [41] s)) fun ks s =>
    bindV (resultsV l p s) fun rs s => (.mk 7 [] ks.length (ks ++ rs),s)
def exprV (p : Vs) (h : Bool) (s : Sg) : Tr × Sg:=p.bin h 1 s
def exprsV (l : List Tk) (p : Vs) (h : Bool) (s : Sg) : List Tr × Sg:=commasV l (exprV p h) s
def untilV (l : List Tk) (p : Vs) (m : List UInt8) (s : Sg) : List Tr × Sg :=
  bindV (takeV l m s) fun b s => if b then ([],s) else bindV (exprsV l p false s) fun ks s => (ks,needV l m s)
def cutV (l : List Tk) (p : Vs) (num : Int) (ks : List Tr) (s : Sg) : Tr × Sg :=
  bindV (takeV l [93] (needV l [58] s)) fun b s => if b then (.mk 50 [] num ks,s) else bindV (exprV p false s) fun e s => (.mk 50 [] (num + 2) (ks ++ [e]),needV l [93] s)
def indexV (l : List Tk) (p : Vs) (n : Tr) (s : Sg) : Tr × Sg :=
  if isV l s [58] then cutV l p 0 [n] s
  else bindV (exprV p false s) fun e s => bindV (takeV l [93] s) fun b s => if b then (.mk 49 [] 0 [n,e],s) else cutV l p 1 [n,e] s
def primV (l : List Tk) (p : Vs) (h : Bool) (s : Sg) : Tr × Sg :=
  if kindV l s == 2 then (.mk 40 [] (numA l s.1) [],stepV s)
  else if kindV l s == 3 then (.mk 41 (textA l s.1) 0 [],stepV s)
  else if kindV l s == 1 then bindV (nameV l s) fun n s =>
   if h then (.mk 44 n 0 [],s) else bindV (takeV l [123] s) fun b s => if b then bindV (untilV l p [125] s) fun ks s => (.mk 45 n 0 ks,s) else (.mk 44 n 0 [],s)
  else if isV l s [116,114,117,101] then (.mk 42 [] 1 [],stepV s)
  else if isV l s [102,97,108,115,101] then (.mk 42 [] 0 [],stepV s)
  else if isV l s [110,105,108] then (.mk 43 [] 0 [],stepV s)
  else if isV l s [40] then bindV (exprV p false (stepV s)) fun n s => (n,needV l [41] s)
  else if isV l s [91] then bindV (p.typ (needV l [93] (stepV s))) fun t s => bindV (untilV l p [125] (needV l [123] s)) fun ks s => (.mk 46 [] 0 (t :: ks),s)
  else if isV l s [102,117,110,99] then bindV (sigV l p (stepV s)) fun g s => bindV (p.blk s) fun b s => (.mk 47 [] 0 [g,b],s)
  else (zT,badV s)
def postV (l : List Tk) (p : Vs) : Nat → Tr → Sg → Tr × Sg
  | 0,n,s => (n,badV s)
  | f + 1,n,s =>
   if s.2 then (n,s)
   else if isV l s [46] then bindV (nameV l (stepV s)) fun x s => postV l p f (.mk 48 x 0 [n]) s
   else if isV l s [91] then bindV (indexV l p n (stepV s)) fun n s => postV l p f n s
   else if isV l s [40] then bindV (untilV l p [41] (stepV s)) fun ks s => postV l p f (.mk 51 [] 0 (n :: ks)) s
   else (n,s)
def unaV (l : List Tk) (p : Vs) (h : Bool) (s : Sg) : Tr × Sg :=
  if prefixL (nowV l s) then bindV (p.una h (stepV s)) fun t s' => (.mk 52 (nowV l s) 0 [t],s')
  else bindV (primV l p h s) fun n s => postV l p (l.length + 1) n s
def climbV (l : List Tk) (p : Vs) (h : Bool) (least : Int) : Nat → Tr → Sg → Tr × Sg
  | 0,n,s => (n,badV s)
  | f + 1,n,s => if s.2 then (n,s) else if least ≤ rankL (nowV l s) then bindV (p.bin h (rankL (nowV l s) + 1) (stepV s)) fun r s' => climbV l p h least f (.mk 53 (nowV l s) 0 [n,r]) s' else (n,s)
def binV (l : List Tk) (p : Vs) (h : Bool) (least : Int) (s : Sg) : Tr × Sg:=bindV (p.una h s) fun n s => climbV l p h least (l.length + 1) n s
def elseV (l : List Tk) (p : Vs) (s : Sg) : Tr × Sg:=if isV l s [105,102] then p.ifS (stepV s) else p.blk s
def ifV (l : List Tk) (p : Vs) (s : Sg) : Tr × Sg :=
  bindV (exprV p true s) fun c s => bindV (p.blk s) fun b s => bindV (takeV l [101,108,115,101] s) fun e s =>
   if e then (if isV l s [105,102] || isV l s [123] then bindV (elseV l p s) fun x s => (.mk 25 [] 0 [c,b,x],s) else (.mk 25 [] 0 [c,b],badV s)) else (.mk 25 [] 0 [c,b],s)
def forV (l : List Tk) (p : Vs) (s : Sg) : Tr × Sg :=
  if isV l s [123] then bindV (p.blk s) fun b s => (.mk 26 [] 0 [b],s)
  else bindV (exprV p true s) fun c s => bindV (p.blk s) fun b s => (.mk 26 [] 0 [c,b],s)
def lineV (l : List Tk) (p : Vs) (s : Sg) : Tr × Sg :=
  if isV l s [118,97,114] then bindV (nameV l (stepV s)) fun n s => bindV (p.typ s) fun t s => bindV (takeV l [61] s) fun b s => if b then bindV (exprV p false s) fun e s => (.mk 21 n 0 [t,e],s) else (.mk 21 n 0 [t],s)
  else if isV l s [114,101,116,117,114,110] then (if isV l (stepV s) [59] then (.mk 27 [] 0 [],stepV s) else bindV (exprsV l p false (stepV s)) fun ks s => (.mk 27 [] 0 ks,s))
  else if isV l s [98,114,101,97,107] then (.mk 28 [] 0 [],stepV s)
  else if isV l s [99,111,110,116,105,110,117,101] then (.mk 29 [] 0 [],stepV s)
  else bindV (exprsV l p false s) fun es s =>
   if isV l s [58,61] && es.all isNameT then bindV (exprsV l p false (stepV s)) fun fs s => (.mk 22 [] es.length (es ++ fs),s)
   else if isV l s [61] && es.all isPlaceT then bindV (exprsV l p false (stepV s)) fun fs s => (.mk 23 [] es.length (es ++ fs),s)
   else if isV l s [59] && (match es with | [e] => isCallT e | _ => false) then (.mk 24 [] 0 es,s)
   else (.mk 23 [] 0 [],badV s)
def stmV (l : List Tk) (p : Vs) (s : Sg) : Tr × Sg :=
  if isV l s [123] then p.blk s
  else if isV l s [105,102] then p.ifS (stepV s)
  else if isV l s [102,111,114] then forV l p (stepV s)
  else bindV (lineV l p s) fun n s => (n,needV l [59] s)
def stmsV (l : List Tk) (p : Vs) : Nat → List Tr → Sg → List Tr × Sg
  | 0,acc,s => (acc,badV s)
  | f + 1,acc,s => if s.2 then (acc,s) else bindV (takeV l [125] s) fun b s => if b then (acc,s) else bindV (stmV l p s) fun t s => stmsV l p f (acc ++ [t]) s
def blkV (l : List Tk) (p : Vs) (s : Sg) : Tr × Sg:=bindV (stmsV l p (l.length + 1) [] (needV l [123] s)) fun ks s => (.mk 20 [] 0 ks,s)
def vs (l : List Tk) : Nat → Vs
  | 0 => ⟨fun s => (zT,badV s),fun _ _ s => (zT,badV s),fun _ s => (zT,badV s),fun s => (zT,badV s),fun s => (zT,badV s)⟩
  | n + 1 => ⟨typV l (vs l n),binV l (vs l n),unaV l (vs l n),blkV l (vs l n),ifV l (vs l n)⟩
def memV (l : List Tk) (p : Vs) (iface : Bool) (s : Sg) : Tr × Sg :=
  bindV (nameV l s) fun n s => bindV (if iface then sigV l p s else p.typ s) fun t s => (.mk 6 n 0 [t],needV l [59] s)
def memsV (l : List Tk) (p : Vs) (iface : Bool) : Nat → List Tr → Sg → List Tr × Sg
  | 0,acc,s => (acc,badV s)
  | f + 1,acc,s => if s.2 then (acc,s) else bindV (takeV l [125] s) fun b s => if b then (acc,s) else bindV (memV l p iface s) fun t s => memsV l p iface f (acc ++ [t]) s
def declV (l : List Tk) (p : Vs) (s : Sg) : Tr × Sg :=
  bindV (takeV l [116,121,112,101] s) fun b s =>
   if b then bindV (nameV l s) fun n s => bindV (takeV l [105,110,116,101,114,102,97,99,101] s) fun i s =>
    bindV (memsV l p i (l.length + 1) [] (needV l [123] (if i then s else needV l [115,116,114,117,99,116] s))) fun ks s => (.mk (if i then 3 else 2) n 0 ks,s)
   else bindV (takeV l [40] (needV l [102,117,110,99] s)) fun m s =>
    if m then bindV (nameV l s) fun r s => bindV (nameV l (needV l [42] s)) fun o s => bindV (nameV l (needV l [41] s)) fun n s => bindV (sigV l p s) fun g s => bindV (p.blk s) fun b s =>
     (.mk 5 n 0 [.mk 8 r 0 [.mk 11 [] 0 [.mk 10 o 0 []]],g,b],s)
    else bindV (nameV l s) fun n s => bindV (sigV l p s) fun g s => bindV (p.blk s) fun b s => (.mk 4 n 0 [g,b],s)
def declsV (l : List Tk) (p : Vs) (len : Nat) : Nat → List Tr → Sg → List Tr × Sg
  | 0,acc,s => (acc,badV s)
  | f + 1,acc,s => if s.2 then (acc,s) else if s.1 < len then bindV (declV l p s) fun t s => declsV l p len f (acc ++ [t]) s else (acc,s)
end Go.Proofs.YtnkphlkjhgngkaaGreatDoor
