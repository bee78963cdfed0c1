/- Sound: its parts. -/
import Derived.Test.YtkdojpnihinpbaaGreatDoorCdMJo
namespace Go.Proofs.YtkdojpnihinpbaaGreatDoor
open Go.RowKit
def eachB {α:Type} (most:Nat) (s:α→Bool) (l:List α):Bool:=decide (l.length≤most) && l.all s
def sndI (i:In3):Bool:=decide (1≤i.o) && decide (i.o≤29)
def sndL (l:List Int):Bool:=decide (l.length≤4096)
def sndS (l:By):Bool:=decide (l.length≤1024)
def sndF (f:Fd):Bool:=decide (f.lo.length≤4096) && (decide (0≤f.pa) && (decide (f.pa≤(f.lo.length:Int)) && (decide (f.re.length≤4096) && (decide (f.ar.length≤4096) && eachB 65536 sndI f.co))))
def sndP (p:Pg):Bool:=eachB 1024 sndL p.ty && (eachB 4096 sndF p.fu && (eachB 1024 sndL p.ta && eachB 1024 sndS p.st))
theorem eachB_le {α:Type} {most:Nat} {s:α→Bool} {l:List α} (h:eachB most s l=true):l.length≤most∧∀ x∈l,s x=true:=by
 simp only [eachB,Bool.and_eq_true,decide_eq_true_eq,List.all_eq_true] at h
 exact h
theorem all_next {α:Type} {s:α→Bool} {l:List α} {j:Nat} {x:α} (hx:l[j]?=some x) (h:(l.take j).all s=true) (hs:s x=true):(l.take (j+1)).all s=true:=by
 rw [List.take_add_one,hx,Option.toList_some,List.all_append,h]
 simp [hs]
theorem all_bad {α:Type} {s:α→Bool} {l:List α} {j:Nat} {x:α} (hx:l[j]?=some x) (hs:s x=false):l.all s=false:=by
 rw [← Bool.not_eq_true,List.all_eq_true]
 intro h
 have:=h x (List.mem_of_getElem? hx)
 rw [hs] at this
 cases this
section
variable {w:World}
theorem sndI_any (i:In3) (w:World):Calls Tryz.prog 79 #[.agg #[.int .i64 i.o,.int .i64 i.a,.int .i64 i.b]] w fun e w'=>e=.returned (.bool (sndI i))∧Below w.heap.size w w':=by
 have BB:=hide (show Below w.heap.size w (w.alloc (.cells #[.int .i64 i.o,.int .i64 i.a,.int .i64 i.b] 46)) from (Below.refl _ _).alloc (Nat.le_refl _) _)
 unfold sndI
 generalize i.o=o at *
 by_cases h:1≤o
 · have d1:decide (1≤o)=true:=by simpa using h
   rw [d1,Bool.true_and]
   generalize hd:decide (o≤29)=d at *
   go_enter Tryz.func79,Tryz.ntmps79
   go_wp2
   go_ret
   exact ⟨rfl,BB.out⟩
 · have d1:decide (1≤o)=false:=by simpa using h
   rw [d1,Bool.false_and]
   go_enter Tryz.func79,Tryz.ntmps79
   go_wp2
   go_ret
   exact ⟨rfl,BB.out⟩
theorem sndL_any {v:Value} {l:List Int} {a:Option Addr} {c:Nat} (hv:v=.slice a l.length c) (w:World):Calls Tryz.prog 60 #[.agg #[v]] w fun e w'=>e=.returned (.bool (sndL l))∧Below w.heap.size w w':=by
 have BB:=hide (show Below w.heap.size w (w.alloc (.cells #[v] 59)) from (Below.refl _ _).alloc (Nat.le_refl _) _)
 subst hv
 have hd:decide ((l.length:Int)≤4096)=sndL l:=by unfold sndL;apply decide_eq_decide.mpr;omega
 generalize sndL l=d at *
 go_enter Tryz.func60,Tryz.ntmps60
 go_wp2
 go_ret
 exact ⟨rfl,BB.out⟩
theorem sndT_any {v:Value} {l:List Int} {a:Option Addr} {c:Nat} (hv:v=.slice a l.length c) (w:World):Calls Tryz.prog 64 #[v] w fun e w'=>e=.returned (.bool (sndL l))∧Below w.heap.size w w':=by
 subst hv
 have hd:decide ((l.length:Int)≤4096)=sndL l:=by unfold sndL;apply decide_eq_decide.mpr;omega
 generalize sndL l=d at *
 go_enter Tryz.func64,Tryz.ntmps64
 go_wp2
 go_ret
 exact ⟨rfl,Below.refl _ _⟩
theorem sndS_any (s:By) (w:World):Calls Tryz.prog 66 #[.string ⟨s.toArray⟩] w fun e w'=>e=.returned (.bool (sndS s))∧Below w.heap.size w w':=by
 have hsz:(⟨s.toArray⟩ : ByteArray).size=s.length:=by simp [ByteArray.size]
 have hd:decide ((s.length:Int)≤1024)=sndS s:=by unfold sndS;apply decide_eq_decide.mpr;omega
 generalize sndS s=d at *
 go_enter Tryz.func66,Tryz.ntmps66
 go_wp2
 go_ret
 exact ⟨rfl,Below.refl _ _⟩
end
end Go.Proofs.YtkdojpnihinpbaaGreatDoor

namespace Go.Proofs.YtkdojpnihinpbaaGreatDoor
def bareK (k:Int):Int:=if 1048576≤k then k - 1048576 else k
def isKB (n:Nat) (k:Int):Bool:=decide (k=0∨k=1∨(2≤bareK k∧bareK k<2+2*(n:Int)))
def fitB (k o:Int):Bool:=decide (k=o∨k=bareK o)
def inB (x:Int) (m:Nat):Bool:=decide (0≤x∧x<(m:Int))
def ptrB (k:Int):Bool:=decide (2≤bareK k∧bareK k % 2=0)
def arrB (k:Int):Bool:=decide (2≤bareK k∧bareK k % 2=1)
def boxB (k:Int):Bool:=decide (2≤bareK k∧bareK k % 2=0∧k<1048576)
def freeB (n:Nat) (k:Int):Bool:=isKB n k && decide (k<1048576)
def parK (f:Fd):List Int:=f.lo.take f.pa.toNat
def onlyB (p:Pg) (t k:Int):Bool:=decide (p.ty[t.toNat]?=some [k])
def fu0:Fd:=⟨0,[],[],[],[]⟩
def itemP (p:Pg) (t:Int):Fd:=(p.fu[(((p.ta[t.toNat]?).getD [])[0]?.getD 0).toNat]?).getD fu0
def callP (p:Pg) (x:Int):Fd:=(p.fu[x.toNat]?).getD fu0
def namesB (p:Pg) (f:Fd) (i:In3):Bool :=
  if i.o=2 then decide (i.a≠0) && isKB p.ty.length i.a
  else if i.o=3∨i.o=4 then inB i.a f.lo.length
  else if i.o=7 then decide (0≤i.a∧i.a≤9)
  else if i.o=11∨i.o=12∨i.o=21 then inB i.a p.ty.length
  else if i.o=13 then inB i.a f.ar.length
  else if i.o=16 then inB i.b p.ty.length
  else if i.o=22 then inB i.a p.fu.length
  else if i.o=23 then inB i.a p.ta.length
  else if i.o=29 then inB i.a p.st.length && inB i.b p.ty.length && onlyB p i.b 0
  else true
inductive Must where
  | fit (ks:List Int)
  | each (ps:List (Int→Bool))
  | alike
def anyB (_:Int):Bool:=true
def exB (k:Int) (x:Int):Bool:=decide (x=k)
def takesP (p:Pg) (f:Fd) (i:In3):Must :=
  if i.o=4 then .fit [(f.lo[i.a.toNat]?).getD 0]
  else if i.o=5∨i.o=6 then .each [anyB]
  else if i.o=7 then .fit [0,0]
  else if i.o=8 then .alike
  else if i.o=10∨i.o=12∨i.o=25∨i.o=26∨i.o=27 then .fit [0]
  else if i.o=14∨i.o=16 then .each [ptrB]
  else if i.o=15 then .each [ptrB,anyB]
  else if i.o=17 then .each [arrB,exB 0]
  else if i.o=18 then .each [arrB]
  else if i.o=19 then .each [boxB]
  else if i.o=20∨i.o=21 then .fit [1]
  else if i.o=22 then .fit (parK (callP p i.a))
  else if i.o=23 then .fit (parK (itemP p i.a)++[0])
  else if i.o=24 then .fit f.re
  else .each []
def Must.n:Must→Nat
  | .fit ks=>ks.length
  | .each ps=>ps.length
  | .alike=>2
def Must.at (m:Must) (i:Nat) (up k:Int):Bool:=match m with
  | .fit ks=>fitB k ((ks[i]?).getD 0)
  | .each ps=>((ps[i]?).getD anyB) k
  | .alike=>if i=1 then decide (k≠0) else decide (k≠0) && (fitB k up || fitB up k)
def Must.fine (m:Must) (ks:List Int):Bool:=(List.range ks.length).all fun i=>m.at i ((ks[1]?).getD 0) ((ks[i]?).getD 0)
def fieldP (p:Pg) (k x:Int):Option Int :=
  let fs:=(p.ty[((bareK k - 2) / 2).toNat]?).getD []
  if inB x fs.length then fs[x.toNat]? else none
def locK (k:Int):Int:=if 1048576≤k then 1048576 else 0
def putsP (p:Pg) (f:Fd) (i:In3) (top low:Int):Except Int (List Int) :=
  if i.o=1∨i.o=7∨i.o=8∨i.o=18∨i.o=20 then .ok [0]
  else if i.o=2 then .ok [i.a]
  else if i.o=3 then .ok [(f.lo[i.a.toNat]?).getD 0]
  else if i.o=6 then .ok [low,low]
  else if i.o=11∨i.o=21 then .ok [2+2*i.a]
  else if i.o=12 then .ok [3+2*i.a]
  else if i.o=13 then .ok [1048576+2+2*(f.ar[i.a.toNat]?).getD 0]
  else if i.o=14 then match fieldP p low i.a with
    | some k=>.ok [k]
    | none=>.error 11
  else if i.o=15 then match fieldP p low i.a with
    | some k=>if k=top then .ok [] else .error 8
    | none=>.error 11
  else if i.o=16 then match fieldP p low i.a with
    | some k=>if onlyB p i.b k then .ok [locK low+2+2*i.b] else .error 11
    | none=>.error 11
  else if i.o=17 then .ok [low - 1]
  else if i.o=19 then .ok [1]
  else if i.o=22 then .ok (callP p i.a).re
  else if i.o=23 then .ok (itemP p i.a).re
  else if i.o=29 then .ok [3+2*i.b]
  else .ok []
def nextsP (i:In3) (at_:Nat):List Int :=
  if i.o=9 then [i.a]
  else if i.o=10 then [(at_:Int)+1,i.a]
  else if i.o=24∨i.o=27∨i.o=28 then []
  else [(at_:Int)+1]
def lookP (p:Pg) (f:Fd) (at_:Nat) (i:In3) (s:List Int):Except Int (List Int × List Int) :=
  let m:=takesP p f i
  let ks:=s.drop (s.length - m.n)
  if namesB p f i=false then .error 11
  else if s.length<m.n∨(i.o=24∧s.length≠m.n) then .error 9
  else if m.fine ks=false then .error 8
  else match putsP p f i (ks.getLast?.getD 0) (ks.head?.getD 0) with
    | .error e=>.error e
    | .ok l=>if (nextsP i at_).all (fun x=>inB x f.co.length) then .ok (s.take (s.length - m.n)++l,nextsP i at_) else .error 10
structure Fl where
  ah:List (Option (List Int))
  wt:List Bool
  mo:Nat
def comeP (F:Fl) (x:Nat) (s:List Int):Except Int Fl:=match (F.ah[x]?).getD none with
  | none=>.ok { F with ah:=F.ah.set x (some s),wt:=F.wt.set x true }
  | some t=>if t=s then .ok F else .error 9
def comesP (s:List Int):List Int→Fl→Except Int Fl
  | [],F=>.ok F
  | x :: r,F=>match comeP F x.toNat s with
    | .ok G=>comesP s r G
    | .error e=>.error e
def in0:In3:=⟨0,0,0⟩
def stepP (p:Pg) (f:Fd) (x:Nat) (F:Fl):Except Int Fl :=
  match lookP p f x ((f.co[x]?).getD in0) (((F.ah[x]?).getD none).getD []) with
  | .error e=>.error e
  | .ok (b,ns)=>comesP b ns { F with wt:=F.wt.set x false,mo:=max F.mo b.length }
def leastP:List Bool→Option Nat
  | []=>none
  | true :: _=>some 0
  | false :: r=>(leastP r).map (· + 1)
def runP (p:Pg) (f:Fd):Nat→Fl→Except (Nat × Int) Fl
  | 0,F=>.ok F
  | n+1,F=>match leastP F.wt with
    | none=>.ok F
    | some x=>match stepP p f x F with
      | .error e=>.error (x,e)
      | .ok G=>runP p f n G
def fl0 (n:Nat):Fl:=⟨(List.replicate n none).set 0 (some []),(List.replicate n false).set 0 true,0⟩
def followP (p:Pg) (f:Fd):Except (Nat × Int) Fl:=runP p f (f.co.length+1) (fl0 f.co.length)
def headB (n:Nat) (f:Fd):Bool:=f.lo.all (isKB n) && f.ar.all (fun t=>inB t n) && f.re.all (freeB n) && decide (0<f.co.length)
def tableB (p:Pg) (t:List Int):Bool:=decide (0<t.length) && t.all fun x=>inB x p.fu.length && decide (parK (callP p ((t[0]?).getD 0))=parK (callP p x)) && decide ((callP p ((t[0]?).getD 0)).re=(callP p x).re)
def firstBad (p:Pg):Nat→List Fd→Option Nat
  | _,[]=>none
  | i,f :: r=>if headB p.ty.length f=true∧(0<i∨(f.pa=0∧f.re=[])) then firstBad p (i+1) r else some i
def headsP (p:Pg):Option Nat :=
  if (p.ty.all fun l=>decide (0<l.length) && l.all (freeB p.ty.length))=false then some 0
  else match firstBad p 0 p.fu with
    | some i=>some i
    | none=>if p.ta.all (tableB p) && decide (0<p.fu.length) then none else some 0
def funcsP (p:Pg):Nat→List Fd→Int × Int × Int
  | _,[]=>(0,0,0)
  | i,f :: r=>match followP p f with
    | .error (x,e)=>((i:Int),(x:Int),e)
    | .ok _=>funcsP p (i+1) r
def checkP (p:Pg):Int × Int × Int :=
  if sndP p=false then (0,0,2)
  else match headsP p with
    | some i=>((i:Int),0,12)
    | none=>funcsP p 0 p.fu
end Go.Proofs.YtkdojpnihinpbaaGreatDoor

namespace Go.Proofs.YtkdojpnihinpbaaGreatDoor
open Go.RowKit
def EaRI (w:World) (l:List (In3)) (a:Value) (wr:World):Prop:=∃ j:Nat,a=.int .i64 j∧j≤l.length∧(l.take j).all sndI=true∧Below w.heap.size w wr
section
variable {w:World} {B:Nat}
set_option maxHeartbeats 1000000 in
theorem eachI_any {v:Value} {l:List (In3)} (R:SlAt 3 InsP B w v l) (hB:B≤w.heap.size) :
    Calls Tryz.prog 78 #[v,.int .i64 65536,.func (.func 79) #[] #[]] w fun e w'=>e=.returned (.bool (eachB 65536 sndI l))∧Below w.heap.size w w':=by
  obtain ⟨ao,cap,rfl,hlen,hel⟩:=R
  unfold eachB
  by_cases hm:l.length≤65536
  · rw [decide_eq_true hm,Bool.true_and]
    have HEL:=hide hel
    have b1:(l.length:Int)≤65536:=by omega
    have d0:decide (65536<(l.length:Int))=false:=by simp;omega
    have HB:=hide hB
    clear hel hlen hm hB
    go_enter Tryz.func78,Tryz.ntmps78
    go_wp2
    go_loopw [15] (fun a wr=>EaRI w l a wr) (fun a _=>l.length - (intOf a).toNat)
    case atStart=>exact ⟨0,rfl,Nat.zero_le _,by simp,Below.refl _ _⟩
    case round =>
     obtain ⟨j,rfl,hj,hall,hb⟩:=hrel
     have HALL:=hide hall
     have HBW:=hide hb
     clear hall hb
     by_cases hlt:j<l.length
     · obtain ⟨x,hx⟩ : ∃ x,l[j]?=some x:=⟨l[j],by simp [hlt]⟩
       obtain ⟨g,o,cs,hao,hgB,hcs,hP⟩:=HEL.out j x hx
       subst hao
       have hk:∀ r u,cs[r]?=some u→wr.cell? ⟨g,o+j*3+r,none⟩=some u:=fun r u hu=>by
        rw [World.cell?_of_block (a:=⟨g,o+j*3+r,none⟩) (HBW.out.block g (Nat.lt_of_lt_of_le hgB HB.out))];exact hcs r u hu
       have hgw:g<wr.heap.size:=Nat.lt_of_lt_of_le hgB (Nat.le_trans HB.out HBW.out.size)
       obtain ⟨rfl,_⟩:=hP
       have c10:wr.cell? ⟨g,o+j*3,none⟩=some (.int .i64 x.o):=by have:=hk 0 _ rfl;simpa using this
       have c11:wr.cell? ⟨g,o+j*3+1,none⟩=some (.int .i64 x.a):=by have:=hk 1 _ rfl;simpa using this
       have c12:wr.cell? ⟨g,o+j*3+2,none⟩=some (.int .i64 x.b):=by have:=hk 2 _ rfl;simpa using this
       have d1:decide (j<l.length)=true:=by simpa using hlt
       have d2:decide ((j:Int)<(l.length:Int))=true:=by simp;omega
       have bj:(j:Int)<(l.length:Int):=by omega
       have HX:=hide hx
       clear hcs hk hx hgB
       generalize hn:l.length=n at *
       have HNl:=hide hn
       clear hn
       obtain ⟨W3,hW3⟩ : ∃ W3,wr.alloc (.cells #[.int .i64 x.o,.int .i64 x.a,.int .i64 x.b] 46)=W3:=⟨_,rfl⟩
       have HW3:=hide (show Below w.heap.size w W3 from hW3 ▸ HBW.out.alloc HBW.out.size _)
       have wc0:W3.cell? ⟨wr.heap.size,0,none⟩=some (.int .i64 x.o):=hW3 ▸ cell_of (heap_new _ _ rfl) rfl
       have wc1:W3.cell? ⟨wr.heap.size,1,none⟩=some (.int .i64 x.a):=hW3 ▸ cell_of (heap_new _ _ rfl) rfl
       have wc2:W3.cell? ⟨wr.heap.size,2,none⟩=some (.int .i64 x.b):=hW3 ▸ cell_of (heap_new _ _ rfl) rfl
       have HIT:=hide (sndI_any x W3)
       generalize hs:sndI x=d at *
       have HSx:=hide hs
       clear hs
       go_wp2_with fail
       refine HIT.out.mono ?_
       rintro e w3 ⟨rfl,hb3⟩
       have HB3:=hide (HW3.out.trans (hb3.mono HW3.out.size))
       clear hb3 HIT hW3
       cases d with
       | true =>
        go_wp2
        go_roundw
        case rel=>exact ⟨j+1,by go_num,by rw [HNl.out];exact hlt,all_next HX.out HALL.out HSx.out,HB3.out⟩
        case measure=>rw [intOf_int];simp [intOf];omega
       | false =>
        go_wp2
        go_ret
        refine ⟨?_,HB3.out⟩
        rw [all_bad HX.out HSx.out]
        rfl
     · obtain rfl:j=l.length:=by omega
       have d1:decide (l.length<l.length)=false:=by simp
       have d2:decide ((l.length:Int)<(l.length:Int))=false:=by simp
       have HA2:=hide (show l.all sndI=true by have:=HALL.out;rwa [List.take_length] at this)
       generalize hn:l.length=n at *
       clear hn
       go_wp2
       go_ret
       refine ⟨?_,HBW.out⟩
       rw [HA2.out]
       rfl
  · rw [decide_eq_false hm,Bool.false_and]
    have d0:decide (65536<(l.length:Int))=true:=by simp;omega
    clear hel hlen hm hB
    generalize l.length=n at *
    go_enter Tryz.func78,Tryz.ntmps78
    go_wp2
    go_ret
    exact ⟨rfl,Below.refl _ _⟩
end
end Go.Proofs.YtkdojpnihinpbaaGreatDoor

namespace Go.Proofs.YtkdojpnihinpbaaGreatDoor
open Go.RowKit
section
variable {w:World} {B:Nat}
set_option maxHeartbeats 1000000 in
theorem sndF_any (f:Fd) {a4:Option Addr} {c4:Nat} (R:SlAt 3 InsP B w (.slice a4 f.co.length c4) f.co) (hB:B≤w.heap.size) (a1 a2 a3:Option Addr) (c1 c2 c3:Nat) :
    Calls Tryz.prog 62 #[.agg #[.int .i64 f.pa,.slice a1 f.lo.length c1,.slice a2 f.re.length c2,.slice a3 f.ar.length c3,.slice a4 f.co.length c4]] w fun e w'=>e=.returned (.bool (sndF f))∧Below w.heap.size w w':=by
  obtain ⟨W1,hW1⟩ : ∃ W1,w.alloc (.cells #[.int .i64 f.pa,.slice a1 f.lo.length c1,.slice a2 f.re.length c2,.slice a3 f.ar.length c3,.slice a4 f.co.length c4] 40)=W1:=⟨_,rfl⟩
  have BB:=hide (show Below w.heap.size w W1 from hW1 ▸ (Below.refl _ _).alloc (Nat.le_refl _) _)
  have HC:=hide (eachI_any (w:=W1) (ins_keep (Nat.le_refl _) (fun j hj=>BB.out.block j (Nat.lt_of_lt_of_le hj hB)) R) (Nat.le_trans hB BB.out.size))
  have k0:W1.cell? ⟨w.heap.size,0,none⟩=some (.int .i64 f.pa):=hW1 ▸ cell_of (heap_new _ _ rfl) rfl
  have k1:W1.cell? ⟨w.heap.size,1,none⟩=some (.slice a1 f.lo.length c1):=hW1 ▸ cell_of (heap_new _ _ rfl) rfl
  have k2:W1.cell? ⟨w.heap.size,2,none⟩=some (.slice a2 f.re.length c2):=hW1 ▸ cell_of (heap_new _ _ rfl) rfl
  have k3:W1.cell? ⟨w.heap.size,3,none⟩=some (.slice a3 f.ar.length c3):=hW1 ▸ cell_of (heap_new _ _ rfl) rfl
  have k4:W1.cell? ⟨w.heap.size,4,none⟩=some (.slice a4 f.co.length c4):=hW1 ▸ cell_of (heap_new _ _ rfl) rfl
  unfold sndF
  have e1:decide ((f.lo.length:Int)≤4096)=decide (f.lo.length≤4096):=by apply decide_eq_decide.mpr;omega
  have e2:decide ((f.re.length:Int)≤4096)=decide (f.re.length≤4096):=by apply decide_eq_decide.mpr;omega
  have e3:decide ((f.ar.length:Int)≤4096)=decide (f.ar.length≤4096):=by apply decide_eq_decide.mpr;omega
  generalize eachB 65536 sndI f.co=d6 at *
  generalize f.lo.length=n1 at *
  generalize f.re.length=n2 at *
  generalize f.ar.length=n3 at *
  generalize f.co.length=n4 at *
  generalize f.pa=pa at *
  generalize decide (n1≤4096)=d1 at *
  generalize decide (n2≤4096)=d4 at *
  generalize decide (n3≤4096)=d5 at *
  generalize hd2:decide (0≤pa)=d2 at *
  generalize hd3:decide (pa≤(n1:Int))=d3 at *
  clear R hB
  cases d1 with
  | false =>
   go_enter Tryz.func62,Tryz.ntmps62
   go_wp2
   go_ret
   exact ⟨by simp,BB.out⟩
  | true =>
   cases d2 with
   | false =>
    go_enter Tryz.func62,Tryz.ntmps62
    go_wp2
    go_ret
    exact ⟨by simp,BB.out⟩
   | true =>
    cases d3 with
    | false =>
     go_enter Tryz.func62,Tryz.ntmps62
     go_wp2
     go_ret
     exact ⟨by simp,BB.out⟩
    | true =>
     cases d4 with
     | false =>
      go_enter Tryz.func62,Tryz.ntmps62
      go_wp2
      go_ret
      exact ⟨by simp,BB.out⟩
     | true =>
      cases d5 with
      | false =>
       go_enter Tryz.func62,Tryz.ntmps62
       go_wp2
       go_ret
       exact ⟨by simp,BB.out⟩
      | true =>
       go_enter Tryz.func62,Tryz.ntmps62
       go_wp2_with fail
       refine HC.out.mono ?_
       rintro e w2 ⟨rfl,hb⟩
       have HB2:=hide (BB.out.trans (hb.mono BB.out.size))
       clear hb HC hW1
       go_wp2
       go_ret
       exact ⟨by simp,HB2.out⟩
end
end Go.Proofs.YtkdojpnihinpbaaGreatDoor

namespace Go.Proofs.YtkdojpnihinpbaaGreatDoor
open Go.RowKit
def EaRF (w:World) (l:List (Fd)) (a:Value) (wr:World):Prop:=∃ j:Nat,a=.int .i64 j∧j≤l.length∧(l.take j).all sndF=true∧Below w.heap.size w wr
section
variable {w:World} {B:Nat}
set_option maxHeartbeats 1000000 in
theorem eachF_any {v:Value} {l:List (Fd)} (R:SlAt 5 (FdP B) B w v l) (hB:B≤w.heap.size) :
    Calls Tryz.prog 61 #[v,.int .i64 4096,.func (.func 62) #[] #[]] w fun e w'=>e=.returned (.bool (eachB 4096 sndF l))∧Below w.heap.size w w':=by
  obtain ⟨ao,cap,rfl,hlen,hel⟩:=R
  unfold eachB
  by_cases hm:l.length≤4096
  · rw [decide_eq_true hm,Bool.true_and]
    have HEL:=hide hel
    have b1:(l.length:Int)≤4096:=by omega
    have d0:decide (4096<(l.length:Int))=false:=by simp;omega
    have HB:=hide hB
    clear hel hlen hm hB
    go_enter Tryz.func61,Tryz.ntmps61
    go_wp2
    go_loopw [15] (fun a wr=>EaRF w l a wr) (fun a _=>l.length - (intOf a).toNat)
    case atStart=>exact ⟨0,rfl,Nat.zero_le _,by simp,Below.refl _ _⟩
    case round =>
     obtain ⟨j,rfl,hj,hall,hb⟩:=hrel
     have HALL:=hide hall
     have HBW:=hide hb
     clear hall hb
     by_cases hlt:j<l.length
     · obtain ⟨x,hx⟩ : ∃ x,l[j]?=some x:=⟨l[j],by simp [hlt]⟩
       obtain ⟨g,o,cs,hao,hgB,hcs,hP⟩:=HEL.out j x hx
       subst hao
       have hk:∀ r u,cs[r]?=some u→wr.cell? ⟨g,o+j*5+r,none⟩=some u:=fun r u hu=>by
        rw [World.cell?_of_block (a:=⟨g,o+j*5+r,none⟩) (HBW.out.block g (Nat.lt_of_lt_of_le hgB HB.out))];exact hcs r u hu
       have hgw:g<wr.heap.size:=Nat.lt_of_lt_of_le hgB (Nat.le_trans HB.out HBW.out.size)
       obtain ⟨v1,v2,v3,v4,rfl,_,r1,r2,r3,r4⟩:=hP
       obtain ⟨a1,c1,hv1,_⟩:=id r1
       obtain ⟨a2,c2,hv2,_⟩:=id r2
       obtain ⟨a3,c3,hv3,_⟩:=id r3
       obtain ⟨a4,c4,hv4,_⟩:=id r4
       subst hv1 hv2 hv3 hv4
       have c10:wr.cell? ⟨g,o+j*5,none⟩=some (.int .i64 x.pa):=by have:=hk 0 _ rfl;simpa using this
       have c11:wr.cell? ⟨g,o+j*5+1,none⟩=some (.slice a1 x.lo.length c1):=by have:=hk 1 _ rfl;simpa using this
       have c12:wr.cell? ⟨g,o+j*5+2,none⟩=some (.slice a2 x.re.length c2):=by have:=hk 2 _ rfl;simpa using this
       have c13:wr.cell? ⟨g,o+j*5+3,none⟩=some (.slice a3 x.ar.length c3):=by have:=hk 3 _ rfl;simpa using this
       have c14:wr.cell? ⟨g,o+j*5+4,none⟩=some (.slice a4 x.co.length c4):=by have:=hk 4 _ rfl;simpa using this
       have d1:decide (j<l.length)=true:=by simpa using hlt
       have d2:decide ((j:Int)<(l.length:Int))=true:=by simp;omega
       have bj:(j:Int)<(l.length:Int):=by omega
       have HX:=hide hx
       clear hcs hk hx hgB
       generalize hn:l.length=n at *
       have HNl:=hide hn
       clear hn
       obtain ⟨W3,hW3⟩ : ∃ W3,wr.alloc (.cells #[.int .i64 x.pa,.slice a1 x.lo.length c1,.slice a2 x.re.length c2,.slice a3 x.ar.length c3,.slice a4 x.co.length c4] 40)=W3:=⟨_,rfl⟩
       have HKP:=hide (show ∀ i,i<B→W3.heap[i]?=w.heap[i]? from fun i hi=>(hW3 ▸ HBW.out.alloc HBW.out.size _:Below w.heap.size w W3).block i (Nat.lt_of_lt_of_le hi HB.out))
       have HW3:=hide (show Below w.heap.size w W3 from hW3 ▸ HBW.out.alloc HBW.out.size _)
       have wc0:W3.cell? ⟨wr.heap.size,0,none⟩=some (.int .i64 x.pa):=hW3 ▸ cell_of (heap_new _ _ rfl) rfl
       have wc1:W3.cell? ⟨wr.heap.size,1,none⟩=some (.slice a1 x.lo.length c1):=hW3 ▸ cell_of (heap_new _ _ rfl) rfl
       have wc2:W3.cell? ⟨wr.heap.size,2,none⟩=some (.slice a2 x.re.length c2):=hW3 ▸ cell_of (heap_new _ _ rfl) rfl
       have wc3:W3.cell? ⟨wr.heap.size,3,none⟩=some (.slice a3 x.ar.length c3):=hW3 ▸ cell_of (heap_new _ _ rfl) rfl
       have wc4:W3.cell? ⟨wr.heap.size,4,none⟩=some (.slice a4 x.co.length c4):=hW3 ▸ cell_of (heap_new _ _ rfl) rfl
       have HIT:=hide (sndF_any x (ins_keep (Nat.le_refl _) HKP.out r4) (Nat.le_trans HB.out HW3.out.size) a1 a2 a3 c1 c2 c3)
       generalize hs:sndF x=d at *
       have HSx:=hide hs
       clear hs
       go_wp2_with fail
       refine HIT.out.mono ?_
       rintro e w3 ⟨rfl,hb3⟩
       have HB3:=hide (HW3.out.trans (hb3.mono HW3.out.size))
       clear hb3 HIT hW3
       cases d with
       | true =>
        go_wp2
        go_roundw
        case rel=>exact ⟨j+1,by go_num,by rw [HNl.out];exact hlt,all_next HX.out HALL.out HSx.out,HB3.out⟩
        case measure=>rw [intOf_int];simp [intOf];omega
       | false =>
        go_wp2
        go_ret
        refine ⟨?_,HB3.out⟩
        rw [all_bad HX.out HSx.out]
        rfl
     · obtain rfl:j=l.length:=by omega
       have d1:decide (l.length<l.length)=false:=by simp
       have d2:decide ((l.length:Int)<(l.length:Int))=false:=by simp
       have HA2:=hide (show l.all sndF=true by have:=HALL.out;rwa [List.take_length] at this)
       generalize hn:l.length=n at *
       clear hn
       go_wp2
       go_ret
       refine ⟨?_,HBW.out⟩
       rw [HA2.out]
       rfl
  · rw [decide_eq_false hm,Bool.false_and]
    have d0:decide (4096<(l.length:Int))=true:=by simp;omega
    clear hel hlen hm hB
    generalize l.length=n at *
    go_enter Tryz.func61,Tryz.ntmps61
    go_wp2
    go_ret
    exact ⟨rfl,Below.refl _ _⟩
end
end Go.Proofs.YtkdojpnihinpbaaGreatDoor

namespace Go.Proofs.YtkdojpnihinpbaaGreatDoor
open Go.RowKit
def EaRL (w:World) (l:List (List Int)) (a:Value) (wr:World):Prop:=∃ j:Nat,a=.int .i64 j∧j≤l.length∧(l.take j).all sndL=true∧Below w.heap.size w wr
section
variable {w:World} {B:Nat}
set_option maxHeartbeats 1000000 in
theorem eachL_any {v:Value} {l:List (List Int)} (R:SlAt 1 (LstP B) B w v l) (hB:B≤w.heap.size) :
    Calls Tryz.prog 59 #[v,.int .i64 1024,.func (.func 60) #[] #[]] w fun e w'=>e=.returned (.bool (eachB 1024 sndL l))∧Below w.heap.size w w':=by
  obtain ⟨ao,cap,rfl,hlen,hel⟩:=R
  unfold eachB
  by_cases hm:l.length≤1024
  · rw [decide_eq_true hm,Bool.true_and]
    have HEL:=hide hel
    have b1:(l.length:Int)≤1024:=by omega
    have d0:decide (1024<(l.length:Int))=false:=by simp;omega
    have HB:=hide hB
    clear hel hlen hm hB
    go_enter Tryz.func59,Tryz.ntmps59
    go_wp2
    go_loopw [15] (fun a wr=>EaRL w l a wr) (fun a _=>l.length - (intOf a).toNat)
    case atStart=>exact ⟨0,rfl,Nat.zero_le _,by simp,Below.refl _ _⟩
    case round =>
     obtain ⟨j,rfl,hj,hall,hb⟩:=hrel
     have HALL:=hide hall
     have HBW:=hide hb
     clear hall hb
     by_cases hlt:j<l.length
     · obtain ⟨x,hx⟩ : ∃ x,l[j]?=some x:=⟨l[j],by simp [hlt]⟩
       obtain ⟨g,o,cs,hao,hgB,hcs,hP⟩:=HEL.out j x hx
       subst hao
       have hk:∀ r u,cs[r]?=some u→wr.cell? ⟨g,o+j*1+r,none⟩=some u:=fun r u hu=>by
        rw [World.cell?_of_block (a:=⟨g,o+j*1+r,none⟩) (HBW.out.block g (Nat.lt_of_lt_of_le hgB HB.out))];exact hcs r u hu
       have hgw:g<wr.heap.size:=Nat.lt_of_lt_of_le hgB (Nat.le_trans HB.out HBW.out.size)
       obtain ⟨v1,rfl,a1,c1,rfl,_⟩:=hP
       have c10:wr.cell? ⟨g,o+j,none⟩=some (.slice a1 x.length c1):=by have:=hk 0 _ rfl;simpa using this
       have d1:decide (j<l.length)=true:=by simpa using hlt
       have d2:decide ((j:Int)<(l.length:Int))=true:=by simp;omega
       have bj:(j:Int)<(l.length:Int):=by omega
       have HX:=hide hx
       clear hcs hk hx hgB
       generalize hn:l.length=n at *
       have HNl:=hide hn
       clear hn
       obtain ⟨W3,hW3⟩ : ∃ W3,wr.alloc (.cells #[.slice a1 x.length c1] 59)=W3:=⟨_,rfl⟩
       have HW3:=hide (show Below w.heap.size w W3 from hW3 ▸ HBW.out.alloc HBW.out.size _)
       have wc0:W3.cell? ⟨wr.heap.size,0,none⟩=some (.slice a1 x.length c1):=hW3 ▸ cell_of (heap_new _ _ rfl) rfl
       have HIT:=hide (sndL_any (l:=x) (a:=a1) (c:=c1) rfl W3)
       generalize hs:sndL x=d at *
       have HSx:=hide hs
       clear hs
       go_wp2_with fail
       refine HIT.out.mono ?_
       rintro e w3 ⟨rfl,hb3⟩
       have HB3:=hide (HW3.out.trans (hb3.mono HW3.out.size))
       clear hb3 HIT hW3
       cases d with
       | true =>
        go_wp2
        go_roundw
        case rel=>exact ⟨j+1,by go_num,by rw [HNl.out];exact hlt,all_next HX.out HALL.out HSx.out,HB3.out⟩
        case measure=>rw [intOf_int];simp [intOf];omega
       | false =>
        go_wp2
        go_ret
        refine ⟨?_,HB3.out⟩
        rw [all_bad HX.out HSx.out]
        rfl
     · obtain rfl:j=l.length:=by omega
       have d1:decide (l.length<l.length)=false:=by simp
       have d2:decide ((l.length:Int)<(l.length:Int))=false:=by simp
       have HA2:=hide (show l.all sndL=true by have:=HALL.out;rwa [List.take_length] at this)
       generalize hn:l.length=n at *
       clear hn
       go_wp2
       go_ret
       refine ⟨?_,HBW.out⟩
       rw [HA2.out]
       rfl
  · rw [decide_eq_false hm,Bool.false_and]
    have d0:decide (1024<(l.length:Int))=true:=by simp;omega
    clear hel hlen hm hB
    generalize l.length=n at *
    go_enter Tryz.func59,Tryz.ntmps59
    go_wp2
    go_ret
    exact ⟨rfl,Below.refl _ _⟩
end
end Go.Proofs.YtkdojpnihinpbaaGreatDoor

namespace Go.Proofs.YtkdojpnihinpbaaGreatDoor
open Go.RowKit
def EaRS (w:World) (l:List (By)) (a:Value) (wr:World):Prop:=∃ j:Nat,a=.int .i64 j∧j≤l.length∧(l.take j).all sndS=true∧Below w.heap.size w wr
section
variable {w:World} {B:Nat}
set_option maxHeartbeats 1000000 in
theorem eachS_any {v:Value} {l:List (By)} (R:SlAt 1 StrP B w v l) (hB:B≤w.heap.size) :
    Calls Tryz.prog 65 #[v,.int .i64 1024,.func (.func 66) #[] #[]] w fun e w'=>e=.returned (.bool (eachB 1024 sndS l))∧Below w.heap.size w w':=by
  obtain ⟨ao,cap,rfl,hlen,hel⟩:=R
  unfold eachB
  by_cases hm:l.length≤1024
  · rw [decide_eq_true hm,Bool.true_and]
    have HEL:=hide hel
    have b1:(l.length:Int)≤1024:=by omega
    have d0:decide (1024<(l.length:Int))=false:=by simp;omega
    have HB:=hide hB
    clear hel hlen hm hB
    go_enter Tryz.func65,Tryz.ntmps65
    go_wp2
    go_loopw [15] (fun a wr=>EaRS w l a wr) (fun a _=>l.length - (intOf a).toNat)
    case atStart=>exact ⟨0,rfl,Nat.zero_le _,by simp,Below.refl _ _⟩
    case round =>
     obtain ⟨j,rfl,hj,hall,hb⟩:=hrel
     have HALL:=hide hall
     have HBW:=hide hb
     clear hall hb
     by_cases hlt:j<l.length
     · obtain ⟨x,hx⟩ : ∃ x,l[j]?=some x:=⟨l[j],by simp [hlt]⟩
       obtain ⟨g,o,cs,hao,hgB,hcs,hP⟩:=HEL.out j x hx
       subst hao
       have hk:∀ r u,cs[r]?=some u→wr.cell? ⟨g,o+j*1+r,none⟩=some u:=fun r u hu=>by
        rw [World.cell?_of_block (a:=⟨g,o+j*1+r,none⟩) (HBW.out.block g (Nat.lt_of_lt_of_le hgB HB.out))];exact hcs r u hu
       have hgw:g<wr.heap.size:=Nat.lt_of_lt_of_le hgB (Nat.le_trans HB.out HBW.out.size)
       obtain rfl:=hP
       have c10:wr.cell? ⟨g,o+j,none⟩=some (.string ⟨x.toArray⟩):=by have:=hk 0 _ rfl;simpa using this
       have d1:decide (j<l.length)=true:=by simpa using hlt
       have d2:decide ((j:Int)<(l.length:Int))=true:=by simp;omega
       have bj:(j:Int)<(l.length:Int):=by omega
       have HX:=hide hx
       clear hcs hk hx hgB
       generalize hn:l.length=n at *
       have HNl:=hide hn
       clear hn
       have HIT:=hide (sndS_any x wr)
       generalize hs:sndS x=d at *
       have HSx:=hide hs
       clear hs
       go_wp2_with fail
       refine HIT.out.mono ?_
       rintro e w3 ⟨rfl,hb3⟩
       have HB3:=hide (HBW.out.trans (hb3.mono HBW.out.size))
       clear hb3 HIT
       cases d with
       | true =>
        go_wp2
        go_roundw
        case rel=>exact ⟨j+1,by go_num,by rw [HNl.out];exact hlt,all_next HX.out HALL.out HSx.out,HB3.out⟩
        case measure=>rw [intOf_int];simp [intOf];omega
       | false =>
        go_wp2
        go_ret
        refine ⟨?_,HB3.out⟩
        rw [all_bad HX.out HSx.out]
        rfl
     · obtain rfl:j=l.length:=by omega
       have d1:decide (l.length<l.length)=false:=by simp
       have d2:decide ((l.length:Int)<(l.length:Int))=false:=by simp
       have HA2:=hide (show l.all sndS=true by have:=HALL.out;rwa [List.take_length] at this)
       generalize hn:l.length=n at *
       clear hn
       go_wp2
       go_ret
       refine ⟨?_,HBW.out⟩
       rw [HA2.out]
       rfl
  · rw [decide_eq_false hm,Bool.false_and]
    have d0:decide (1024<(l.length:Int))=true:=by simp;omega
    clear hel hlen hm hB
    generalize l.length=n at *
    go_enter Tryz.func65,Tryz.ntmps65
    go_wp2
    go_ret
    exact ⟨rfl,Below.refl _ _⟩
end
end Go.Proofs.YtkdojpnihinpbaaGreatDoor
