/- The state of a walk that writes a node; the tokens of each form of node, plain. -/
import Derived.Test.YtffnaknidofobaaGreatDoorSndEJt
namespace Go.Proofs.YtffnaknidofobaaGreatDoor
open Go.RowKit
structure Sw (B b m : Nat) (t : Tr) (sl : Value) (w0 : World) (s : PS) (w : World) : Prop where
  pn : Pn B b s w
  gw : Gw B w
  le : B ≤ w.heap.size
  box : w.heap[m]? = some (.cells #[.int .i64 t.kind,.string ⟨t.text.toArray⟩,.int .i64 t.num,sl] 24 (0,0))
  ne : m ≠ b
  fp : Fp B b w0 w
  kt : KT w (· < B) t sl
section
variable {B b m : Nat} {t : Tr} {sl : Value} {w0 w W : World} {s : PS}
theorem Sw.start (hG : Gw B w) (h : Pn B b s w) (hB : B ≤ w.heap.size) (hk : KT w (· < B) t sl) : Sw B b w.heap.size t sl w s (w.alloc (nbx t sl)):=by
 have hb:=h.lt
 have f : Fp B b w (w.alloc (nbx t sl)):=Fp.new hB _
 exact ⟨h.alloc _,hG.later f.below,by simp; omega,heap_alloc_new w _,by omega,f,kt_below hk f.below⟩
theorem Sw.step {ts : List Wd} (h : Sw B b m t sl w0 s w) (p : Pn B b (puts s ts) W) (f : Fp B b w W) : Sw B b m t sl w0 (puts s ts) W :=
  ⟨p,h.gw.later f.below,Nat.le_trans h.le f.below.size,f.box h.box h.ne,h.ne,h.fp.trans f,kt_below h.kt f.below⟩
theorem Sw.c0 (h : Sw B b m t sl w0 s w) : w.cell? ⟨m,0,none⟩ = some (.int .i64 t.kind):=by rw [Lib.cell_of_heap h.box]; rfl
theorem Sw.c1 (h : Sw B b m t sl w0 s w) : w.cell? ⟨m,1,none⟩ = some (.string ⟨t.text.toArray⟩):=by rw [Lib.cell_of_heap h.box]; rfl
theorem Sw.c2 (h : Sw B b m t sl w0 s w) : w.cell? ⟨m,2,none⟩ = some (.int .i64 t.num):=by rw [Lib.cell_of_heap h.box]; rfl
theorem Sw.c3 (h : Sw B b m t sl w0 s w) : w.cell? ⟨m,3,none⟩ = some sl:=by rw [Lib.cell_of_heap h.box]; rfl
theorem Sw.bl (h : Sw B b m t sl w0 s w) : b < w.heap.size:=h.pn.lt
theorem Sw.ml (h : Sw B b m t sl w0 s w) : m < w.heap.size:=by
 have:=h.box
 rcases Nat.lt_or_ge m w.heap.size with h' | h'
 · exact h'
 · simp [Array.getElem?_eq_none h'] at this
theorem Sw.lst (h : Sw B b m t sl w0 s w) : Lst w (· < B) t.kids sl:=Lst.kids h.kt
theorem Sw.kid {g o n c : Nat} {a : Tr} (h : Sw B b m t (.slice (some ⟨g,o,none⟩) n c) w0 s w) (i : Nat) (ha : t.kids[i]? = some a) :
    ∃ a0 n0 q0,w.cell? ⟨g,o + i * 4,none⟩ = some (.int .i64 a.kind) ∧ w.cell? ⟨g,o + i * 4 + 1,none⟩ = some (.string ⟨a.text.toArray⟩) ∧ w.cell? ⟨g,o + i * 4 + 2,none⟩ = some (.int .i64 a.num) ∧ w.cell? ⟨g,o + i * 4 + 3,none⟩ = some (.slice a0 n0 q0) ∧ g < w.heap.size ∧ KT w (· < B) a (.slice a0 n0 q0):=by
  obtain ⟨sls,h1,h2⟩:=h.lst
  rcases h1 with ⟨h0,ao',cap,e⟩ | ⟨g',o',cap,e,_,hg,hc⟩
  · rw [List.eq_nil_of_length_eq_zero h0] at ha; cases ha
  · injection e with e1 e2 e3
    injection e1 with e1
    injection e1 with e4 e5
    subst e4 e5
    have hl : i < t.kids.length:=by
     rcases Nat.lt_or_ge i t.kids.length with h | h
     · exact h
     · rw [List.getElem?_eq_none h] at ha; cases ha
    obtain ⟨sl,hs⟩ : ∃ sl,sls[i]? = some sl:=⟨_,List.getElem?_eq_getElem (by rw [h2.length]; exact hl)⟩
    have hk:=h2.get ha hs
    obtain ⟨a0,n0,q0,rfl⟩:=hk.slice
    obtain ⟨q0',q1,q2,q3⟩:=cellsOf_get ha hs
    exact ⟨a0,n0,q0,hc _ _ q0',hc _ _ q1,hc _ _ q2,hc _ _ q3,Nat.lt_of_lt_of_le hg h.le,hk⟩
theorem Sw.addr {ao : Option Addr} {n c : Nat} {a : Tr} (h : Sw B b m t (.slice ao n c) w0 s w) (i : Nat) (ha : t.kids[i]? = some a) : ∃ g o,ao = some ⟨g,o,none⟩ ∧ n = t.kids.length ∧ n ≤ c:=by
 obtain ⟨sls,h1,h2⟩:=h.lst
 rcases h1 with ⟨h0,ao',cap,e⟩ | ⟨g',o',cap,e,hcp,hg,hc⟩
 · rw [List.eq_nil_of_length_eq_zero h0] at ha; cases ha
 · injection e with e1 e2 e3
   exact ⟨g',o',e1,e2,by omega⟩
end
theorem len1 {a : Wd} (h : a.length ≤ 1000000) : ∀ t ∈ [a],t.length ≤ 1000000:=by simpa using h
theorem len2 {a b : Wd} (h : a.length ≤ 1000000) (k : b.length ≤ 1000000) : ∀ t ∈ [a,b],t.length ≤ 1000000:=by simpa using ⟨h,k⟩
theorem len3 {a b c : Wd} (h : a.length ≤ 1000000) (k : b.length ≤ 1000000) (l : c.length ≤ 1000000) : ∀ t ∈ [a,b,c],t.length ≤ 1000000:=by simpa using ⟨h,k,l⟩
/-- A kid; none: an empty node. -/
def kidT (t : Tr) (i : Nat) : Tr:=t.kids.getD i (.mk 0 [] 0 [])
theorem kidT_get {t : Tr} {i : Nat} (h : i < t.kids.length) : t.kids[i]? = some (kidT t i):=by simp [kidT,List.getD_eq_getElem?_getD,List.getElem?_eq_getElem h]
def funcT (p q : Tr → List Wd) (t : Tr) : List Wd :=
  listedT [40] [41] p (t.kids.take t.num.toNat) ++ (if 1 < (t.kids.drop t.num.toNat).length then listedT [40] [41] q (t.kids.drop t.num.toNat) else (t.kids.drop t.num.toNat).flatMap q)
abbrev Rt:=Q → Tr → List Wd
def typT (r : Rt) (t : Tr) : List Wd :=
  if t.kind == 10 then [t.text]
  else if t.kind == 11 then [[42]] ++ r .typ (kidT t 0)
  else if t.kind == 12 then [[91],[93]] ++ r .typ (kidT t 0)
  else if t.kind == 13 then [[102,117,110,99]] ++ funcT (r .typ) (r .typ) t
  else []
def parT (r : Rt) (t : Tr) : List Wd:=[t.text] ++ r .typ (kidT t 0)
def sigT (r : Rt) (t : Tr) : List Wd:=funcT (r .par) (r .typ) t
def blkT (r : Rt) (t : Tr) : List Wd:=membersT (r .stm) t.kids
def ifT (r : Rt) (t : Tr) : List Wd:=[[105,102]] ++ (r .exp (kidT t 0) ++ (r .blk (kidT t 1) ++ (if 2 < t.kids.length then [[101,108,115,101]] ++ r .els (kidT t 2) else [])))
def elsT (r : Rt) (t : Tr) : List Wd:=if t.kind == 20 then blkT r t else ifT r t
def asgT (r : Rt) (mark : Wd) (t : Tr) : List Wd:=commasT (r .exp) (t.kids.take t.num.toNat) ++ ([mark] ++ commasT (r .exp) (t.kids.drop t.num.toNat))
def varT (r : Rt) (t : Tr) : List Wd:=[[118,97,114],t.text] ++ (r .typ (kidT t 0) ++ (if 1 < t.kids.length then [[61]] ++ r .exp (kidT t 1) else []))
def simT (r : Rt) (t : Tr) : List Wd :=
  if t.kind == 21 then varT r t
  else if t.kind == 22 then asgT r [58,61] t
  else if t.kind == 23 then asgT r [61] t
  else if t.kind == 24 then r .exp (kidT t 0)
  else if t.kind == 27 then [[114,101,116,117,114,110]] ++ commasT (r .exp) t.kids
  else if t.kind == 28 then [[98,114,101,97,107]]
  else if t.kind == 29 then [[99,111,110,116,105,110,117,101]]
  else []
def forT (r : Rt) (t : Tr) : List Wd:=[[102,111,114]] ++ ((t.kids.take (t.kids.length - 1)).flatMap (r .exp) ++ r .blk (kidT t (t.kids.length - 1)))
def stmT (r : Rt) (t : Tr) : List Wd :=
  if t.kind == 20 then blkT r t
  else if t.kind == 25 then ifT r t
  else if t.kind == 26 then forT r t
  else simT r t ++ [[59]]
/-- The one token of a leaf (q: a text as a string's token). -/
def leafT (q : List UInt8 → Wd) (t : Tr) : Wd :=
  if t.kind == 40 then Lib.itoa t.num
  else if t.kind == 41 then q t.text
  else if t.kind == 42 then (if t.num == 1 then [116,114,117,101] else [102,97,108,115,101])
  else if t.kind == 43 then [110,105,108]
  else t.text
def behT (r : Rt) (t : Tr) : List Wd :=
  if t.kind == 48 then [[46],t.text]
  else if t.kind == 49 then listedT [91] [93] (r .exp) (t.kids.drop 1)
  else if t.kind == 50 then [[91]] ++ (((t.kids.drop 1).take (t.num.toNat % 2)).flatMap (r .exp) ++ ([[58]] ++ (((t.kids.drop 1).drop (t.num.toNat % 2)).flatMap (r .exp) ++ [[93]])))
  else if t.kind == 51 then listedT [40] [41] (r .exp) (t.kids.drop 1)
  else []
def expT (q : List UInt8 → Wd) (r : Rt) (t : Tr) : List Wd :=
  if t.kind == 40 || t.kind == 41 || t.kind == 42 || t.kind == 43 || t.kind == 44 then [leafT q t]
  else if t.kind == 45 then [[40],t.text] ++ (listedT [123] [125] (r .exp) t.kids ++ [[41]])
  else if t.kind == 46 then [[91],[93]] ++ (r .typ (kidT t 0) ++ listedT [123] [125] (r .exp) (t.kids.drop 1))
  else if t.kind == 47 then [[102,117,110,99]] ++ (r .sig (kidT t 0) ++ r .blk (kidT t 1))
  else if t.kind == 52 then [[40],t.text] ++ (r .exp (kidT t 0) ++ [[41]])
  else if t.kind == 53 then [[40]] ++ (r .exp (kidT t 0) ++ ([t.text] ++ (r .exp (kidT t 1) ++ [[41]])))
  else r .exp (kidT t 0) ++ behT r t
/-- The tokens of a tree of that form, down to so many nodes. -/
def tks (q : List UInt8 → Wd) : Nat → Rt
  | 0,_,_ => []
  | n + 1,.typ,t => typT (tks q n) t
  | n + 1,.par,t => parT (tks q n) t
  | n + 1,.sig,t => sigT (tks q n) t
  | n + 1,.blk,t => blkT (tks q n) t
  | n + 1,.ifS,t => ifT (tks q n) t
  | n + 1,.els,t => elsT (tks q n) t
  | n + 1,.stm,t => stmT (tks q n) t
  | n + 1,.exp,t => expT q (tks q n) t
def fldT (r : Rt) (t : Tr) : List Wd:=[t.text] ++ (r .typ (kidT t 0) ++ [[59]])
def metT (r : Rt) (t : Tr) : List Wd:=[t.text] ++ (r .sig (kidT t 0) ++ [[59]])
def decT (q : List UInt8 → Wd) (n : Nat) (t : Tr) : List Wd :=
  if t.kind == 2 then [[116,121,112,101],t.text,[115,116,114,117,99,116]] ++ membersT (fldT (tks q n)) t.kids
  else if t.kind == 3 then [[116,121,112,101],t.text,[105,110,116,101,114,102,97,99,101]] ++ membersT (metT (tks q n)) t.kids
  else if t.kind == 4 then [[102,117,110,99],t.text] ++ (tks q (n + 1) .sig (kidT t 0) ++ tks q (n + 1) .blk (kidT t 1))
  else if t.kind == 5 then [[102,117,110,99]] ++ (listedT [40] [41] (parT (tks q n)) (t.kids.take 1) ++ ([t.text] ++ (tks q (n + 1) .sig (kidT t 1) ++ tks q (n + 1) .blk (kidT t 2))))
  else []
def prgT (q : List UInt8 → Wd) (t : Tr) : List Wd:=t.kids.flatMap (decT q 97)
end Go.Proofs.YtffnaknidofobaaGreatDoor

namespace Go.Proofs.YtffnaknidofobaaGreatDoor
open Go.RowKit
set_option maxRecDepth 20000 in
set_option maxHeartbeats 4000000 in
theorem parameter_w {t a : Tr} {tk0 : List Wd} (ha : t.kids[0]? = some a) (htx : t.text.length ≤ 1000000) (hI : Wr 47 a tk0) {tk : List Wd} (hT : tk = [t.text] ++ tk0) : Wr 66 t tk:=fun B b s w sl hG h hB hk => by
 obtain ⟨ao,c,rfl⟩ : ∃ ao c,sl = .slice ao t.kids.length c:=(Lst.kids hk).slice
 have HT:=Lib.hid hT
 clear hT
 have S0:=Lib.hid (Sw.start hG h hB hk)
 obtain ⟨g,o,rfl,hn,hc⟩:=S0.out.addr 0 ha
 clear hn
 obtain ⟨W0,hW⟩ : ∃ W,w.alloc (nbx t (.slice (some ⟨g,o,none⟩) t.kids.length c)) = W:=⟨_,rfl⟩
 rw [hW] at S0
 have hW' : w.alloc (.cells #[.int .i64 t.kind,.string ⟨t.text.toArray⟩,.int .i64 t.num,(.slice (some ⟨g,o,none⟩) t.kids.length c)] 24) = W0:=hW
 clear hW h hG hk
 generalize hm : w.heap.size = m at *
 have y0:=S0.out.c0
 have y1:=S0.out.c1
 have y2:=S0.out.c2
 have y3:=S0.out.c3
 have hle:=S0.out.le
 have hbl:=S0.out.bl
 have hml:=S0.out.ml
 go_enter Tryz.func66,Tryz.ntmps66
 have cc:=putAt S0.out.pn S0.out.le [t.text] (by simp) (len1 htx) #[.string ⟨t.text.toArray⟩] rfl
 go_wp2_with fail
 refine cc.mono ?_
 rintro e w1 ⟨rfl,hp,hf⟩
 have S1:=Lib.hid (S0.out.step hp hf)
 clear cc hp hf y0 y1 y2 y3 hle hbl hml
 have y0:=S1.out.c0
 have y1:=S1.out.c1
 have y2:=S1.out.c2
 have y3:=S1.out.c3
 have hle:=S1.out.le
 have hbl:=S1.out.bl
 have hml:=S1.out.ml
 obtain ⟨a0,n0,q0,z0,z1,z2,z3,hgl,hka⟩:=S1.out.kid 0 ha
 have hil : 0 < t.kids.length:=(List.getElem?_eq_some_iff.1 ha).1
 replace z0 : w1.cell? ⟨g,o,none⟩ = _:=z0
 replace z1 : w1.cell? ⟨g,o + 1,none⟩ = _:=z1
 replace z2 : w1.cell? ⟨g,o + 2,none⟩ = _:=z2
 replace z3 : w1.cell? ⟨g,o + 3,none⟩ = _:=z3
 have cc:=hI B b _ _ _ S1.out.gw S1.out.pn S1.out.le hka
 go_wp2_with fail
 refine cc.mono ?_
 rintro e w2 ⟨rfl,hp,hf⟩
 have S2:=Lib.hid (S1.out.step hp hf)
 clear cc hp hf y0 y1 y2 y3 hle hbl hml z0 z1 z2 z3 hgl hka hil
 have y0:=S2.out.c0
 have y1:=S2.out.c1
 have y2:=S2.out.c2
 have y3:=S2.out.c3
 have hle:=S2.out.le
 have hbl:=S2.out.bl
 have hml:=S2.out.ml
 go_wp2
 go_end0
 exact ⟨rfl,by rw [HT.out,puts_append]; exact S2.out.pn,S2.out.fp⟩
set_option maxRecDepth 20000 in
set_option maxHeartbeats 4000000 in
theorem field_w {t a : Tr} {tk0 : List Wd} (ha : t.kids[0]? = some a) (htx : t.text.length ≤ 1000000) (hI : Wr 47 a tk0) {tk : List Wd} (hT : tk = [t.text] ++ (tk0 ++ [[59]])) : Wr 63 t tk:=fun B b s w sl hG h hB hk => by
 obtain ⟨ao,c,rfl⟩ : ∃ ao c,sl = .slice ao t.kids.length c:=(Lst.kids hk).slice
 have HT:=Lib.hid hT
 clear hT
 have S0:=Lib.hid (Sw.start hG h hB hk)
 obtain ⟨g,o,rfl,hn,hc⟩:=S0.out.addr 0 ha
 clear hn
 obtain ⟨W0,hW⟩ : ∃ W,w.alloc (nbx t (.slice (some ⟨g,o,none⟩) t.kids.length c)) = W:=⟨_,rfl⟩
 rw [hW] at S0
 have hW' : w.alloc (.cells #[.int .i64 t.kind,.string ⟨t.text.toArray⟩,.int .i64 t.num,(.slice (some ⟨g,o,none⟩) t.kids.length c)] 24) = W0:=hW
 clear hW h hG hk
 generalize hm : w.heap.size = m at *
 have y0:=S0.out.c0
 have y1:=S0.out.c1
 have y2:=S0.out.c2
 have y3:=S0.out.c3
 have hle:=S0.out.le
 have hbl:=S0.out.bl
 have hml:=S0.out.ml
 go_enter Tryz.func63,Tryz.ntmps63
 have cc:=putAt S0.out.pn S0.out.le [t.text] (by simp) (len1 htx) #[.string ⟨t.text.toArray⟩] rfl
 go_wp2_with fail
 refine cc.mono ?_
 rintro e w1 ⟨rfl,hp,hf⟩
 have S1:=Lib.hid (S0.out.step hp hf)
 clear cc hp hf y0 y1 y2 y3 hle hbl hml
 have y0:=S1.out.c0
 have y1:=S1.out.c1
 have y2:=S1.out.c2
 have y3:=S1.out.c3
 have hle:=S1.out.le
 have hbl:=S1.out.bl
 have hml:=S1.out.ml
 obtain ⟨a0,n0,q0,z0,z1,z2,z3,hgl,hka⟩:=S1.out.kid 0 ha
 have hil : 0 < t.kids.length:=(List.getElem?_eq_some_iff.1 ha).1
 replace z0 : w1.cell? ⟨g,o,none⟩ = _:=z0
 replace z1 : w1.cell? ⟨g,o + 1,none⟩ = _:=z1
 replace z2 : w1.cell? ⟨g,o + 2,none⟩ = _:=z2
 replace z3 : w1.cell? ⟨g,o + 3,none⟩ = _:=z3
 have cc:=hI B b _ _ _ S1.out.gw S1.out.pn S1.out.le hka
 go_wp2_with fail
 refine cc.mono ?_
 rintro e w2 ⟨rfl,hp,hf⟩
 have S2:=Lib.hid (S1.out.step hp hf)
 clear cc hp hf y0 y1 y2 y3 hle hbl hml z0 z1 z2 z3 hgl hka hil
 have y0:=S2.out.c0
 have y1:=S2.out.c1
 have y2:=S2.out.c2
 have y3:=S2.out.c3
 have hle:=S2.out.le
 have hbl:=S2.out.bl
 have hml:=S2.out.ml
 have cc:=putAt S2.out.pn S2.out.le [[59]] (by simp) (len1 (by decide)) #[.string ⟨#[59]⟩] rfl
 go_wp2_with fail
 refine cc.mono ?_
 rintro e w3 ⟨rfl,hp,hf⟩
 have S3:=Lib.hid (S2.out.step hp hf)
 clear cc hp hf y0 y1 y2 y3 hle hbl hml
 have y0:=S3.out.c0
 have y1:=S3.out.c1
 have y2:=S3.out.c2
 have y3:=S3.out.c3
 have hle:=S3.out.le
 have hbl:=S3.out.bl
 have hml:=S3.out.ml
 go_wp2
 go_end0
 exact ⟨rfl,by rw [HT.out,puts_append,puts_append]; exact S3.out.pn,S3.out.fp⟩
set_option maxRecDepth 20000 in
set_option maxHeartbeats 4000000 in
theorem method_w {t a : Tr} {tk0 : List Wd} (ha : t.kids[0]? = some a) (htx : t.text.length ≤ 1000000) (hI : Wr 48 a tk0) {tk : List Wd} (hT : tk = [t.text] ++ (tk0 ++ [[59]])) : Wr 64 t tk:=fun B b s w sl hG h hB hk => by
 obtain ⟨ao,c,rfl⟩ : ∃ ao c,sl = .slice ao t.kids.length c:=(Lst.kids hk).slice
 have HT:=Lib.hid hT
 clear hT
 have S0:=Lib.hid (Sw.start hG h hB hk)
 obtain ⟨g,o,rfl,hn,hc⟩:=S0.out.addr 0 ha
 clear hn
 obtain ⟨W0,hW⟩ : ∃ W,w.alloc (nbx t (.slice (some ⟨g,o,none⟩) t.kids.length c)) = W:=⟨_,rfl⟩
 rw [hW] at S0
 have hW' : w.alloc (.cells #[.int .i64 t.kind,.string ⟨t.text.toArray⟩,.int .i64 t.num,(.slice (some ⟨g,o,none⟩) t.kids.length c)] 24) = W0:=hW
 clear hW h hG hk
 generalize hm : w.heap.size = m at *
 have y0:=S0.out.c0
 have y1:=S0.out.c1
 have y2:=S0.out.c2
 have y3:=S0.out.c3
 have hle:=S0.out.le
 have hbl:=S0.out.bl
 have hml:=S0.out.ml
 go_enter Tryz.func64,Tryz.ntmps64
 have cc:=putAt S0.out.pn S0.out.le [t.text] (by simp) (len1 htx) #[.string ⟨t.text.toArray⟩] rfl
 go_wp2_with fail
 refine cc.mono ?_
 rintro e w1 ⟨rfl,hp,hf⟩
 have S1:=Lib.hid (S0.out.step hp hf)
 clear cc hp hf y0 y1 y2 y3 hle hbl hml
 have y0:=S1.out.c0
 have y1:=S1.out.c1
 have y2:=S1.out.c2
 have y3:=S1.out.c3
 have hle:=S1.out.le
 have hbl:=S1.out.bl
 have hml:=S1.out.ml
 obtain ⟨a0,n0,q0,z0,z1,z2,z3,hgl,hka⟩:=S1.out.kid 0 ha
 have hil : 0 < t.kids.length:=(List.getElem?_eq_some_iff.1 ha).1
 replace z0 : w1.cell? ⟨g,o,none⟩ = _:=z0
 replace z1 : w1.cell? ⟨g,o + 1,none⟩ = _:=z1
 replace z2 : w1.cell? ⟨g,o + 2,none⟩ = _:=z2
 replace z3 : w1.cell? ⟨g,o + 3,none⟩ = _:=z3
 have cc:=hI B b _ _ _ S1.out.gw S1.out.pn S1.out.le hka
 go_wp2_with fail
 refine cc.mono ?_
 rintro e w2 ⟨rfl,hp,hf⟩
 have S2:=Lib.hid (S1.out.step hp hf)
 clear cc hp hf y0 y1 y2 y3 hle hbl hml z0 z1 z2 z3 hgl hka hil
 have y0:=S2.out.c0
 have y1:=S2.out.c1
 have y2:=S2.out.c2
 have y3:=S2.out.c3
 have hle:=S2.out.le
 have hbl:=S2.out.bl
 have hml:=S2.out.ml
 have cc:=putAt S2.out.pn S2.out.le [[59]] (by simp) (len1 (by decide)) #[.string ⟨#[59]⟩] rfl
 go_wp2_with fail
 refine cc.mono ?_
 rintro e w3 ⟨rfl,hp,hf⟩
 have S3:=Lib.hid (S2.out.step hp hf)
 clear cc hp hf y0 y1 y2 y3 hle hbl hml
 have y0:=S3.out.c0
 have y1:=S3.out.c1
 have y2:=S3.out.c2
 have y3:=S3.out.c3
 have hle:=S3.out.le
 have hbl:=S3.out.bl
 have hml:=S3.out.ml
 go_wp2
 go_end0
 exact ⟨rfl,by rw [HT.out,puts_append,puts_append]; exact S3.out.pn,S3.out.fp⟩
end Go.Proofs.YtffnaknidofobaaGreatDoor

namespace Go.Proofs.YtffnaknidofobaaGreatDoor
open Go.RowKit
set_option maxRecDepth 20000 in
theorem enP_typ : Enters Tryz.prog 47:=enters_of Tryz.func47 (by kernel_rfl) rfl
set_option maxRecDepth 20000 in
theorem enP_parameter : Enters Tryz.prog 66:=enters_of Tryz.func66 (by kernel_rfl) rfl
set_option maxRecDepth 20000 in
theorem enP_expression : Enters Tryz.prog 22:=enters_of Tryz.func22 (by kernel_rfl) rfl
set_option maxRecDepth 20000 in
theorem enP_statement : Enters Tryz.prog 79:=enters_of Tryz.func79 (by kernel_rfl) rfl
set_option maxRecDepth 20000 in
theorem enP_declaration : Enters Tryz.prog 31:=enters_of Tryz.func31 (by kernel_rfl) rfl
set_option maxRecDepth 20000 in
theorem enP_field : Enters Tryz.prog 63:=enters_of Tryz.func63 (by kernel_rfl) rfl
set_option maxRecDepth 20000 in
theorem enP_method : Enters Tryz.prog 64:=enters_of Tryz.func64 (by kernel_rfl) rfl
/-- A list that lies, cut in two. -/
theorem Lst.cut {w : World} {S : Nat → Prop} {ts : List Tr} {ao : Option Addr} {c k : Nat} (h : Lst w S ts (.slice ao ts.length c)) (hk : k ≤ ts.length) :
    (ts = [] ∧ k = 0) ∨ (∃ g o,ao = some ⟨g,o,none⟩ ∧ k < c ∧ ts.length ≤ c ∧ Lst w S (ts.take k) (.slice (some ⟨g,o,none⟩) k c) ∧ Lst w S (ts.drop k) (.slice (some ⟨g,o + k * 4,none⟩) (ts.length - k) (c - k))) ∨
    (∃ g o,ao = some ⟨g,o,none⟩ ∧ k = ts.length ∧ c = ts.length ∧ Lst w S (ts.take k) (.slice (some ⟨g,o,none⟩) k c)):=by
  obtain ⟨sls,hr,hkl⟩:=h
  rcases hr with ⟨e0,ao',cap,e⟩ | ⟨gb,o,cap,e,hcp,hg,hc⟩
  · exact .inl ⟨List.eq_nil_of_length_eq_zero e0,by omega⟩
  · injection e with e1 e2 e3
    subst e1 e3
    have hl1 : (ts.take k).length = k:=by simp [hk]
    have hl2 : (ts.drop k).length = ts.length - k:=by simp
    obtain ⟨L1,L2⟩:=Lst.parts (w:=w) (ts:=ts.take k) (us:=ts.drop k) hg (by rwa [List.take_append_drop]) (by rwa [List.take_append_drop]) c (c - k) (by omega) (by omega)
    rw [hl1] at L1 L2
    rw [hl2] at L2
    by_cases hck : k < c
    · exact .inr (.inl ⟨gb,o,rfl,hck,hcp,L1,L2⟩)
    · exact .inr (.inr ⟨gb,o,rfl,by omega,by omega,L1⟩)
set_option maxRecDepth 20000 in
set_option maxHeartbeats 8000000 in
theorem function_w {f : Nat} (he : Enters Tryz.prog f) {prP prT : Tr → List Wd} {t : Tr} {k : Nat} (hnum : t.num = k) (hkl : k ≤ t.kids.length) (hn : t.kids.length ≤ 20000) (hP : ∀ a ∈ t.kids.take k,Wr f a (prP a)) (hQ : ∀ a ∈ t.kids.drop k,Wr 47 a (prT a)) {tk : List Wd}
    (hT : tk = listedT [40] [41] prP (t.kids.take k) ++ (if 1 < (t.kids.drop k).length then listedT [40] [41] prT (t.kids.drop k) else (t.kids.drop k).flatMap prT)) (B b : Nat) (s : PS) (w : World) (sl : Value) (hG : Gw B w) (h : Pn B b s w) (hB : B ≤ w.heap.size) (hk : KT w (· < B) t sl) :
    Calls Tryz.prog 78 #[.pointer (some ⟨b,0,none⟩),tv t sl,.func (.func f) #[.pointer (some ⟨b,0,none⟩)] #[]] w (OutW B b s tk w):=by
  obtain ⟨ao,c,rfl⟩ : ∃ ao c,sl = .slice ao t.kids.length c:=(Lst.kids hk).slice
  have HT:=Lib.hid hT
  have HP:=Lib.hid hP
  have HQ:=Lib.hid hQ
  have hd : (t.kids.drop k).length = t.kids.length - k:=by simp
  have hn1 : (t.kids.take k).length ≤ 20000:=by simp; omega
  have hn2 : (t.kids.drop k).length ≤ 20000:=by simp; omega
  have hL:=Lst.kids hk
  clear hT hP hQ
  rcases hL.cut hkl with ⟨hks,rfl⟩ | ⟨g,o,rfl,hck,hcc,L1,L2⟩ | ⟨g,o,rfl,rfl,rfl,L1⟩
  · have hlen : t.kids.length = 0:=by rw [hks]; rfl
    have hnum0 : t.num = 0:=by simpa using hnum
    have HX : Hid (tk = listedT [40] [41] prP (t.kids.take 0) ++ (t.kids.drop 0).flatMap prT):=HT.out.trans (by rw [if_neg (by omega)])
    clear HT hd
    have L1 : Lst w (· < B) (t.kids.take 0) (.slice ao 0 c):=by rw [hks]; exact Lst.nil _ _
    have L2 : Lst w (· < B) (t.kids.drop 0) (.slice ao 0 c):=by rw [hks]; exact Lst.nil _ _
    have HL1:=Lib.hid L1
    have HL2:=Lib.hid L2
    clear L1 L2 hL
    have S0:=Lib.hid (Sw.start hG h hB hk)
    obtain ⟨W0,hW⟩ : ∃ W,w.alloc (nbx t (.slice ao t.kids.length c)) = W:=⟨_,rfl⟩
    rw [hW] at S0
    have hW' : w.alloc (.cells #[.int .i64 t.kind,.string ⟨t.text.toArray⟩,.int .i64 t.num,.slice ao t.kids.length c] 24) = W0:=hW
    clear hW h hG hk
    generalize hm : w.heap.size = m at *
    rw [hlen] at hW'
    rw [hnum0] at hW'
    have y0:=S0.out.c0
    have y1:=S0.out.c1
    have y3:=S0.out.c3
    have y2:=S0.out.c2
    rw [hnum0] at y2
    rw [hlen] at y3
    have hle:=S0.out.le
    have hbl:=S0.out.bl
    have hml:=S0.out.ml
    go_enter Tryz.func78,Tryz.ntmps78
    have cc:=listedW he prP [40] [41] (by decide) (by decide) B b _ _ (t.kids.take 0) (.slice ao 0 c) S0.out.gw S0.out.pn S0.out.le (lst_below HL1.out S0.out.fp.below) hn1 HP.out
    go_wp2_with fail
    refine cc.mono ?_
    rintro e w1 ⟨rfl,hp,hf⟩
    have S1:=Lib.hid (S0.out.step hp hf)
    clear cc hp hf y0 y1 y2 y3 hle hbl hml
    have y0:=S1.out.c0
    have y1:=S1.out.c1
    have y3:=S1.out.c3
    have y2:=S1.out.c2
    rw [hnum0] at y2
    rw [hlen] at y3
    have hle:=S1.out.le
    have hbl:=S1.out.bl
    have hml:=S1.out.ml
    have cc:=eachW enP_typ prT B b _ _ (t.kids.drop 0) (.slice ao 0 c) S1.out.gw S1.out.pn S1.out.le (lst_below HL2.out S1.out.fp.below) hn2 HQ.out
    go_wp2_with fail
    refine cc.mono ?_
    rintro e w2 ⟨rfl,hp,hf⟩
    have S2:=Lib.hid (S1.out.step hp hf)
    clear cc hp hf y0 y1 y2 y3 hle hbl hml
    have y0:=S2.out.c0
    have y1:=S2.out.c1
    have y3:=S2.out.c3
    have y2:=S2.out.c2
    rw [hnum0] at y2
    rw [hlen] at y3
    have hle:=S2.out.le
    have hbl:=S2.out.bl
    have hml:=S2.out.ml
    go_wp2
    go_end0
    exact ⟨rfl,by rw [HX.out,puts_append]; exact S2.out.pn,S2.out.fp⟩
  · have hck0 : (c - k == 0) = false:=by simp; omega
    by_cases hmany : 1 < t.kids.length - k
    · have hmd : decide (1 < t.kids.length - k) = true:=by simp; omega
      have HX : Hid (tk = listedT [40] [41] prP (t.kids.take k) ++ listedT [40] [41] prT (t.kids.drop k)):=HT.out.trans (by rw [if_pos (by omega)])
      clear HT hd
      have HL1:=Lib.hid L1
      have HL2:=Lib.hid L2
      clear L1 L2 hL
      have S0:=Lib.hid (Sw.start hG h hB hk)
      obtain ⟨W0,hW⟩ : ∃ W,w.alloc (nbx t (.slice (some ⟨g,o,none⟩) t.kids.length c)) = W:=⟨_,rfl⟩
      rw [hW] at S0
      have hW' : w.alloc (.cells #[.int .i64 t.kind,.string ⟨t.text.toArray⟩,.int .i64 t.num,.slice (some ⟨g,o,none⟩) t.kids.length c] 24) = W0:=hW
      clear hW h hG hk
      generalize hm : w.heap.size = m at *
      rw [hnum] at hW'
      have y0:=S0.out.c0
      have y1:=S0.out.c1
      have y3:=S0.out.c3
      have y2:=S0.out.c2
      rw [hnum] at y2
      have hle:=S0.out.le
      have hbl:=S0.out.bl
      have hml:=S0.out.ml
      go_enter Tryz.func78,Tryz.ntmps78
      have cc:=listedW he prP [40] [41] (by decide) (by decide) B b _ _ (t.kids.take k) (.slice (some ⟨g,o,none⟩) k c) S0.out.gw S0.out.pn S0.out.le (lst_below HL1.out S0.out.fp.below) hn1 HP.out
      go_wp2_with fail
      refine cc.mono ?_
      rintro e w1 ⟨rfl,hp,hf⟩
      have S1:=Lib.hid (S0.out.step hp hf)
      clear cc hp hf y0 y1 y2 y3 hle hbl hml
      have y0:=S1.out.c0
      have y1:=S1.out.c1
      have y3:=S1.out.c3
      have y2:=S1.out.c2
      rw [hnum] at y2
      have hle:=S1.out.le
      have hbl:=S1.out.bl
      have hml:=S1.out.ml
      have cc:=listedW enP_typ prT [40] [41] (by decide) (by decide) B b _ _ (t.kids.drop k) (.slice (some ⟨g,o + k * 4,none⟩) (t.kids.length - k) (c - k)) S1.out.gw S1.out.pn S1.out.le (lst_below HL2.out S1.out.fp.below) hn2 HQ.out
      go_wp2_with fail
      refine cc.mono ?_
      rintro e w2 ⟨rfl,hp,hf⟩
      have S2:=Lib.hid (S1.out.step hp hf)
      clear cc hp hf y0 y1 y2 y3 hle hbl hml
      have y0:=S2.out.c0
      have y1:=S2.out.c1
      have y3:=S2.out.c3
      have y2:=S2.out.c2
      rw [hnum] at y2
      have hle:=S2.out.le
      have hbl:=S2.out.bl
      have hml:=S2.out.ml
      go_wp2
      go_end0
      exact ⟨rfl,by rw [HX.out,puts_append]; exact S2.out.pn,S2.out.fp⟩
    · have hmd : decide (1 < t.kids.length - k) = false:=by simp; omega
      have HX : Hid (tk = listedT [40] [41] prP (t.kids.take k) ++ (t.kids.drop k).flatMap prT):=HT.out.trans (by rw [if_neg (by omega)])
      clear HT hd
      have HL1:=Lib.hid L1
      have HL2:=Lib.hid L2
      clear L1 L2 hL
      have S0:=Lib.hid (Sw.start hG h hB hk)
      obtain ⟨W0,hW⟩ : ∃ W,w.alloc (nbx t (.slice (some ⟨g,o,none⟩) t.kids.length c)) = W:=⟨_,rfl⟩
      rw [hW] at S0
      have hW' : w.alloc (.cells #[.int .i64 t.kind,.string ⟨t.text.toArray⟩,.int .i64 t.num,.slice (some ⟨g,o,none⟩) t.kids.length c] 24) = W0:=hW
      clear hW h hG hk
      generalize hm : w.heap.size = m at *
      rw [hnum] at hW'
      have y0:=S0.out.c0
      have y1:=S0.out.c1
      have y3:=S0.out.c3
      have y2:=S0.out.c2
      rw [hnum] at y2
      have hle:=S0.out.le
      have hbl:=S0.out.bl
      have hml:=S0.out.ml
      go_enter Tryz.func78,Tryz.ntmps78
      have cc:=listedW he prP [40] [41] (by decide) (by decide) B b _ _ (t.kids.take k) (.slice (some ⟨g,o,none⟩) k c) S0.out.gw S0.out.pn S0.out.le (lst_below HL1.out S0.out.fp.below) hn1 HP.out
      go_wp2_with fail
      refine cc.mono ?_
      rintro e w1 ⟨rfl,hp,hf⟩
      have S1:=Lib.hid (S0.out.step hp hf)
      clear cc hp hf y0 y1 y2 y3 hle hbl hml
      have y0:=S1.out.c0
      have y1:=S1.out.c1
      have y3:=S1.out.c3
      have y2:=S1.out.c2
      rw [hnum] at y2
      have hle:=S1.out.le
      have hbl:=S1.out.bl
      have hml:=S1.out.ml
      have cc:=eachW enP_typ prT B b _ _ (t.kids.drop k) (.slice (some ⟨g,o + k * 4,none⟩) (t.kids.length - k) (c - k)) S1.out.gw S1.out.pn S1.out.le (lst_below HL2.out S1.out.fp.below) hn2 HQ.out
      go_wp2_with fail
      refine cc.mono ?_
      rintro e w2 ⟨rfl,hp,hf⟩
      have S2:=Lib.hid (S1.out.step hp hf)
      clear cc hp hf y0 y1 y2 y3 hle hbl hml
      have y0:=S2.out.c0
      have y1:=S2.out.c1
      have y3:=S2.out.c3
      have y2:=S2.out.c2
      rw [hnum] at y2
      have hle:=S2.out.le
      have hbl:=S2.out.bl
      have hml:=S2.out.ml
      go_wp2
      go_end0
      exact ⟨rfl,by rw [HX.out,puts_append]; exact S2.out.pn,S2.out.fp⟩
  · have HX : Hid (tk = listedT [40] [41] prP (t.kids.take t.kids.length) ++ (t.kids.drop t.kids.length).flatMap prT):=HT.out.trans (by rw [if_neg (by omega)])
    clear HT hd
    have L2 : Lst w (· < B) (t.kids.drop t.kids.length) (.slice (some ⟨g,o,none⟩) 0 0):=by rw [List.drop_length]; exact Lst.nil _ _
    have HL1:=Lib.hid L1
    have HL2:=Lib.hid L2
    clear L1 L2 hL
    have S0:=Lib.hid (Sw.start hG h hB hk)
    obtain ⟨W0,hW⟩ : ∃ W,w.alloc (nbx t (.slice (some ⟨g,o,none⟩) t.kids.length t.kids.length)) = W:=⟨_,rfl⟩
    rw [hW] at S0
    have hW' : w.alloc (.cells #[.int .i64 t.kind,.string ⟨t.text.toArray⟩,.int .i64 t.num,.slice (some ⟨g,o,none⟩) t.kids.length t.kids.length] 24) = W0:=hW
    clear hW h hG hk
    generalize hm : w.heap.size = m at *
    rw [hnum] at hW'
    have y0:=S0.out.c0
    have y1:=S0.out.c1
    have y3:=S0.out.c3
    have y2:=S0.out.c2
    rw [hnum] at y2
    have hle:=S0.out.le
    have hbl:=S0.out.bl
    have hml:=S0.out.ml
    go_enter Tryz.func78,Tryz.ntmps78
    have cc:=listedW he prP [40] [41] (by decide) (by decide) B b _ _ (t.kids.take t.kids.length) (.slice (some ⟨g,o,none⟩) t.kids.length t.kids.length) S0.out.gw S0.out.pn S0.out.le (lst_below HL1.out S0.out.fp.below) hn1 HP.out
    go_wp2_with fail
    refine cc.mono ?_
    rintro e w1 ⟨rfl,hp,hf⟩
    have S1:=Lib.hid (S0.out.step hp hf)
    clear cc hp hf y0 y1 y2 y3 hle hbl hml
    have y0:=S1.out.c0
    have y1:=S1.out.c1
    have y3:=S1.out.c3
    have y2:=S1.out.c2
    rw [hnum] at y2
    have hle:=S1.out.le
    have hbl:=S1.out.bl
    have hml:=S1.out.ml
    have cc:=eachW enP_typ prT B b _ _ (t.kids.drop t.kids.length) (.slice (some ⟨g,o,none⟩) 0 0) S1.out.gw S1.out.pn S1.out.le (lst_below HL2.out S1.out.fp.below) hn2 HQ.out
    go_wp2_with fail
    refine cc.mono ?_
    rintro e w2 ⟨rfl,hp,hf⟩
    have S2:=Lib.hid (S1.out.step hp hf)
    clear cc hp hf y0 y1 y2 y3 hle hbl hml
    have y0:=S2.out.c0
    have y1:=S2.out.c1
    have y3:=S2.out.c3
    have y2:=S2.out.c2
    rw [hnum] at y2
    have hle:=S2.out.le
    have hbl:=S2.out.bl
    have hml:=S2.out.ml
    go_wp2
    go_end0
    exact ⟨rfl,by rw [HX.out,puts_append]; exact S2.out.pn,S2.out.fp⟩
end Go.Proofs.YtffnaknidofobaaGreatDoor
