/- The way through a function in memory: come. -/
import Derived.Test.YtkdojpnihinpbaaGreatDoorVfHkJo
import Derived.Test.YtkdojpnihinpbaaGreatDoorVfTkJo
namespace Go.Proofs.YtkdojpnihinpbaaGreatDoor
set_option maxRecDepth 100000
set_option maxHeartbeats 1000000
open Go.RowKit
def Xf (A ahb wtb:Nat) (j:Nat):Prop:=j=A∨j=ahb∨j=wtb
def AhC (X:Nat→Prop) (E:Nat) (w:World) (o:Option (List Int)) (c:Value):Prop:=match o with
  | none=>c=.pointer none
  | some s=>∃ b,c=pp b∧PileAt X w E b s
def AhAt (X:Nat→Prop) (E:Nat) (w:World) (ahb n:Nat) (ah:List (Option (List Int))):Prop:=ah.length=n∧∃ cs:List Value,cs.length=n∧w.heap[ahb]?=some (.cells cs.toArray 43 (0,0))∧∀ (x:Nat) (o:Option (List Int)),ah[x]?=some o→∃ c,cs[x]?=some c∧AhC X E w o c
structure FlM (B E A ahb wtb:Nat) (w:World) (p:Pg) (f:Fd) (V:Fv) (fi at_:Int) (F:Fl):Prop where
  fl:FlAt B w A p f V fi at_ (F.mo:Int)
  va:V.ah=.slice (some ⟨ahb,0,none⟩) f.co.length f.co.length
  vw:V.wt=qv wtb f.co.length
  ah:AhAt (Xf A ahb wtb) E w ahb f.co.length F.ah
  qu:QuAt w wtb f.co.length F.wt
  d1:A≠ahb
  d2:A≠wtb
  d3:ahb≠wtb
  bA:B≤A
  bh:B≤ahb
  bw:B≤wtb
  b0:0<B
  tb:Tb w
  nc:f.co.length≤65536
section
variable {B E A ahb wtb:Nat} {w w' : World} {p:Pg} {f:Fd} {V:Fv} {fi at_:Int} {F:Fl}
theorem AhC.keep {X:Nat→Prop} {o:Option (List Int)} {c:Value} (h:AhC X E w o c) (hk:Kp X w w'):AhC X E w' o c:=by
 cases o with
 | none=>exact h
 | some s =>
  obtain ⟨b,h1,h2⟩:=h
  exact ⟨b,h1,h2.keep hk⟩
theorem AhAt.keep {X:Nat→Prop} {n:Nat} {ah:List (Option (List Int))} (h:AhAt X E w ahb n ah) (hk:Kp X w w') (hb:w'.heap[ahb]?=w.heap[ahb]?):AhAt X E w' ahb n ah:=by
 obtain ⟨h1,cs,h2,h3,h4⟩:=h
 refine ⟨h1,cs,h2,hb.trans h3,fun x o ho=>?_⟩
 obtain ⟨c,c1,c2⟩:=h4 x o ho
 exact ⟨c,c1,c2.keep hk⟩
theorem FlM.lt (M:FlM B E A ahb wtb w p f V fi at_ F) {j:Nat} (h:Xf A ahb wtb j):B≤j∧j<w.heap.size:=by
 obtain ⟨_,cs,_,h3,_⟩:=M.ah
 obtain ⟨_,ws,_,q3,_⟩:=M.qu
 rcases h with rfl | rfl | rfl
 · exact ⟨M.bA,lt_of_block M.fl.box⟩
 · exact ⟨M.bh,lt_of_block h3⟩
 · exact ⟨M.bw,lt_of_block q3⟩
theorem FlM.below (M:FlM B E A ahb wtb w p f V fi at_ F) (h:Below w.heap.size w w'):FlM B E A ahb wtb w' p f V fi at_ F:=by
 have hl:=fun {j}=>M.lt (j:=j)
 exact ⟨M.fl.below h,M.va,M.vw,M.ah.keep (Kp.of_below h) (h.block _ (hl (.inr (.inl rfl))).2),M.qu.keep (h.block _ (hl (.inr (.inr rfl))).2),M.d1,M.d2,M.d3,M.bA,M.bh,M.bw,M.b0,M.tb.keep (h.block 0 (Nat.lt_of_lt_of_le M.b0 M.fl.hB)),M.nc⟩
def CoO (B E A ahb wtb:Nat) (p:Pg) (f:Fd) (V:Fv) (fi at_:Int) (r:Except Int Fl) (w:World) (e:Ending) (W:World):Prop:=(match r with
  | .ok G=>(∃ v,e=.returned v)∧FlM B E A ahb wtb W p f V fi at_ G
  | .error x=>e=.panicked (fch fi at_ x))∧Kp (Xf A ahb wtb) w W
theorem FlM.cell (M:FlM B E A ahb wtb w p f V fi at_ F) {x:Nat} {o:Option (List Int)} (ho:F.ah[x]?=some o):∃ c,w.cell? ⟨ahb,x,none⟩=some c∧AhC (Xf A ahb wtb) E w o c:=by
 obtain ⟨_,cs,h2,h3,h4⟩:=M.ah
 obtain ⟨c,c1,c2⟩:=h4 x o ho
 exact ⟨c,cell_of h3 (by simpa using c1),c2⟩
theorem come_again (M:FlM B E A ahb wtb w p f V fi at_ F) {x b:Nat} {s t:List Int} (hx:x<f.co.length) (P:PileAt (Xf A ahb wtb) w E b s) (ht:F.ah[x]?=some (some t)) (hl:t.length≤4000000000000) {r:Except Int Fl} (hr1:t=s→r=.ok F) (hr2:t≠s→r=.error 9) :
    Calls Tryz.prog 50 #[.pointer (some ⟨A,0,none⟩),.int .i64 x,pp b] w (CoO B E A ahb wtb p f V fi at_ r w):=by
  obtain ⟨c,hc,b2,rfl,P2⟩:=M.cell ht
  have a0:w.cell? ⟨A,0,none⟩=some (.int .i64 fi):=cell_of M.fl.box rfl
  have a1:w.cell? ⟨A,1,none⟩=some (.int .i64 at_):=cell_of M.fl.box rfl
  have a11:w.cell? ⟨A,11,none⟩=some V.ah:=cell_of M.fl.box rfl
  rw [M.va] at a11
  have HM:=hide M
  have hlA:=(M.lt (.inl rfl)).2
  have hlh:=(M.lt (.inr (.inl rfl))).2
  have HSA:=hide (show Calls Tryz.prog 71 #[pp b2,pp b] w.drew fun e w'=>e=.returned (.bool (decide (t=s)))∧Below w.drew.heap.size w.drew w' from same_any (w:=w.drew) (P2.keep (Kp.drew _ _)) (P.keep (Kp.drew _ _)) (fun j hj=>(M.lt hj).2) hl)
  have HO:=hide (show ∀ (W:World) v,Below w.heap.size w W→decide (t=s)=true→CoO B E A ahb wtb p f V fi at_ r w (.returned v) W from fun W v h e=>by
   rw [hr1 (of_decide_eq_true e)]
   exact ⟨⟨⟨v,rfl⟩,M.below h⟩,Kp.of_below h⟩)
  have HE:=hide (show ∀ W:World,Below w.heap.size w W→decide (t=s)=false→CoO B E A ahb wtb p f V fi at_ r w (.panicked (fch fi at_ 9)) W from fun W h e=>by
   rw [hr2 (of_decide_eq_false e)]
   exact ⟨rfl,Kp.of_below h⟩)
  have HCL:=hide (show ∀ W:World,Below w.heap.size w W→W.cell? ⟨A,0,none⟩=some (.int .i64 fi)∧W.cell? ⟨A,1,none⟩=some (.int .i64 at_)∧W.cell? ⟨A,11,none⟩=some (.slice (some ⟨ahb,0,none⟩) f.co.length f.co.length)∧W.cell? ⟨ahb,x,none⟩=some (pp b2) from fun W h=>⟨(h.cell (p:=⟨A,0,none⟩) hlA).trans a0,(h.cell (p:=⟨A,1,none⟩) hlA).trans a1,(h.cell (p:=⟨A,11,none⟩) hlA).trans a11,(h.cell (p:=⟨ahb,x,none⟩) hlh).trans hc⟩)
  have hx1:decide (x<f.co.length)=true:=by simpa using hx
  clear M P2 P ht hl hr1 hr2
  generalize f.co.length=n at *
  generalize decide (t=s)=bb at *
  go_enter Tryz.func50,Tryz.ntmps50
  go_wp2_with fail
  refine wp_region_held_drew (S:=(fun W=>W.cell? ⟨A,0,none⟩=some (.int .i64 fi)∧W.cell? ⟨A,1,none⟩=some (.int .i64 at_)∧W.cell? ⟨A,11,none⟩=some (.slice (some ⟨ahb,0,none⟩) n n)∧W.cell? ⟨ahb,x,none⟩=some (pp b2))) (by kernel_rfl) ⟨a0,a1,a11,hc⟩ (fun hHeld1=>?_)
  refine tk 0 ?_;simp only [sp]
  refine tk 1 ?_;simp only [sp]
  refine tk 2 ?_;simp only [sp]
  refine tk 3 ?_;simp only [sp]
  refine tk 4 ?_;simp only [sp]
  refine tk 5 ?_;simp only [sp]
  refine tk 6 ?_;simp only [sp]
  refine tk 7 ?_;simp only [sp]
  refine tk 8 ?_;simp only [sp]
  refine tk 9 ?_;simp only [sp]
  refine tk 10 ?_;simp only [sp]
  refine tk 11 ?_;simp only [sp]
  refine rd 12 (fun K hK=>?_)
  go_simp
  go_at_call 71
  refine HSA.out.mono ?_
  rintro e w2 ⟨rfl,hb2⟩
  have HB2:=hide (show Below w.heap.size w w2 from bel_tr (below_drew (Below.refl _ _)) hb2)
  clear hb2
  go_wp2_with fail
  refine hK.out _ _ (HCL.out w2 HB2.out) (fun hHeld14=>?_)
  clear hK K
  try simp only [sp]
  refine rd 13 (fun K hK=>?_)
  go_simp
  go_at_call 70
  refine (require_any _ fi at_ 9 bb).mono ?_
  rintro e w3 ⟨(⟨hk3,rfl⟩ | ⟨hk3,rfl⟩),hb3⟩
  rotate_left
  · exact ⟨rfl,HE.out w3 (bel_tr HB2.out hb3) hk3⟩
  have HB3:=hide (bel_tr HB2.out hb3)
  have HK3:=hide hk3
  clear hb3 hk3
  go_wp2_with fail
  refine hK.out _ _ (HCL.out w3 HB3.out) (fun hHeld15=>?_)
  clear hK K
  try simp only [sp]
  refine wpAnyH_done (by kernel_rfl) ?_ _
  go_wp2
  go_returns
  exact HO.out _ _ HB3.out HK3.out
theorem AhAt.put {X:Nat→Prop} {n x b:Nat} {s:List Int} {ah:List (Option (List Int))} (h:AhAt X E w ahb n ah) (hX:X ahb) (hx:x<n) (P:PileAt X w E b s) {W:World} (hW:w.setCell ⟨ahb,x,none⟩ (pp b)=W):AhAt X E W ahb n (ah.set x (some s)):=by
 obtain ⟨h1,cs,h2,h3,h4⟩:=h
 have hk:Kp X w W:=by rw [← hW];exact ⟨rfl,rfl,rfl,by simp,fun j _ hj=>Below.heap_setCell _ _ _ j (fun e=>hj (by have h:j=ahb:=e;rw [h];exact hX))⟩
 refine ⟨by rw [List.length_set];exact h1,cs.set x (pp b),by rw [List.length_set];exact h2,?_,fun y o ho=>?_⟩
 · rw [← hW,heap_setCell_same _ _ _ _ h3]
   simp
 · by_cases hy:x=y
   · subst hy
     rw [List.getElem?_set_self (by omega)] at ho
     cases ho
     exact ⟨pp b,by rw [List.getElem?_set_self (by omega)],b,rfl,P.keep hk⟩
   · rw [List.getElem?_set_ne hy] at ho
     obtain ⟨c,c1,c2⟩:=h4 y o ho
     exact ⟨c,by rw [List.getElem?_set_ne hy];exact c1,c2.keep hk⟩
theorem Kp.set {X:Nat→Prop} {b o:Nat} {u:Value} (hX:X b) {W:World} (hW:w.setCell ⟨b,o,none⟩ u=W):Kp X w W:=by
 rw [← hW]
 exact ⟨rfl,rfl,rfl,by simp,fun j _ hj=>Below.heap_setCell _ _ _ j (fun e=>hj (by have h:j=b:=e;rw [h];exact hX))⟩
theorem come_first (M:FlM B E A ahb wtb w p f V fi at_ F) {x b:Nat} {s:List Int} (hx:x<f.co.length) (P:PileAt (Xf A ahb wtb) w E b s) (ht:F.ah[x]?=some none) (hl:s.length≤4000000000000) :
    Calls Tryz.prog 50 #[.pointer (some ⟨A,0,none⟩),.int .i64 x,pp b] w (CoO B E A ahb wtb p f V fi at_ (.ok { F with ah:=F.ah.set x (some s),wt:=F.wt.set x true }) w):=by
  obtain ⟨c,hc,hcn⟩:=M.cell ht
  have hcn' : c=.pointer none:=hcn
  subst hcn'
  obtain ⟨W2,hW2⟩ : ∃ W2,w.setCell ⟨ahb,x,none⟩ (pp b)=W2:=⟨_,rfl⟩
  have K2:Kp (Xf A ahb wtb) w W2:=Kp.set (.inr (.inl rfl)) hW2
  have hbk:∀ j,j≠ahb→W2.heap[j]?=w.heap[j]?:=fun j hj=>by rw [← hW2];exact Below.heap_setCell _ _ _ j hj
  have Q2:QuAt W2 wtb f.co.length F.wt:=M.qu.keep (hbk wtb (Ne.symm M.d3))
  have A2:=M.ah.put (.inr (.inl rfl)) hx P hW2
  have P2:=P.keep K2
  have a0:w.cell? ⟨A,0,none⟩=some (.int .i64 fi):=cell_of M.fl.box rfl
  have a1:w.cell? ⟨A,1,none⟩=some (.int .i64 at_):=cell_of M.fl.box rfl
  have a11:w.cell? ⟨A,11,none⟩=some V.ah:=cell_of M.fl.box rfl
  have a12:w.cell? ⟨A,12,none⟩=some V.wt:=cell_of M.fl.box rfl
  rw [M.va] at a11
  rw [M.vw] at a12
  have hA2:W2.heap[A]?=w.heap[A]?:=hbk A M.d1
  have e12:W2.cell? ⟨A,12,none⟩=some (qv wtb f.co.length):=(World.cell?_of_block (a:=⟨A,12,none⟩) hA2).trans a12
  have hlA:=(M.lt (.inl rfl)).2
  have hlh:=(M.lt (.inr (.inl rfl))).2
  have hfz:w.frozen? ⟨ahb,x,none⟩=false:=by
   obtain ⟨_,cs,_,h3,_⟩:=M.ah
   simp [World.frozen?,h3]
  have HAD:=hide (add_any Q2 hx M.nc)
  have HM:=hide M
  have HK2:=hide K2
  have HA2:=hide A2
  have HP2:=hide P2
  have HW2c:=hide (show W2.cell? ⟨ahb,x,none⟩=some (pp b) from by
   obtain ⟨_,cs,h2,h3,_⟩:=M.ah
   rw [← hW2]
   exact cell_of (heap_setCell_same _ _ _ _ h3) (by simp [h2,hx]))
  have HBK:=hide hbk
  have HHL:=hide hl
  have hx1:decide (x<f.co.length)=true:=by simpa using hx
  clear M P2 P ht hl K2 A2 Q2 hbk hA2
  unfold qv at a12 e12
  have HN:=hide (show f.co.length≤65536 from HM.out.nc)
  generalize hn:f.co.length=n at *
  have HNN:=hide hn
  clear hn
  go_enter Tryz.func50,Tryz.ntmps50
  go_wp2_with fail
  refine HAD.out.mono ?_
  rintro e w3 ⟨⟨v3,rfl⟩,q3,k3⟩
  have HQ3:=hide q3
  have HK3:=hide (show Kp (Xf A ahb wtb) W2 w3 from k3.mono fun j hj=>.inr (.inr hj))
  have h3A:w3.heap[A]?=w.heap[A]?:=(k3.block A (by rw [← hW2];simpa using hlA) HM.out.d2).trans (HBK.out A HM.out.d1)
  have h3h:w3.heap[ahb]?=W2.heap[ahb]?:=k3.block ahb (by rw [← hW2];simpa using hlh) HM.out.d3
  have z3:w.heap.size≤w3.heap.size:=by have:=k3.size;rw [← hW2] at this;simpa using this
  have b0:w3.cell? ⟨A,0,none⟩=some (.int .i64 fi):=(World.cell?_of_block (a:=⟨A,0,none⟩) h3A).trans a0
  have b1:w3.cell? ⟨A,1,none⟩=some (.int .i64 at_):=(World.cell?_of_block (a:=⟨A,1,none⟩) h3A).trans a1
  have b11:w3.cell? ⟨A,11,none⟩=some (.slice (some ⟨ahb,0,none⟩) n n):=(World.cell?_of_block (a:=⟨A,11,none⟩) h3A).trans a11
  have bc:w3.cell? ⟨ahb,x,none⟩=some (pp b):=(World.cell?_of_block (a:=⟨ahb,x,none⟩) h3h).trans HW2c.out
  have M3:FlM B E A ahb wtb w3 p f V fi at_ { F with ah:=F.ah.set x (some s),wt:=F.wt.set x true }:=by
   have hB0:0≠ahb:=by have:=HM.out.b0;have:=HM.out.bh;omega
   have hB1:0≠wtb:=by have:=HM.out.b0;have:=HM.out.bw;omega
   have hl0:0<W2.heap.size:=by rw [← hW2];simpa using Nat.lt_of_lt_of_le HM.out.b0 HM.out.fl.hB
   have hk3:∀ j,j<B→w3.heap[j]?=w.heap[j]?:=fun j hj=>(k3.block j (by have:=HM.out.fl.hB;rw [← hW2];simp;omega) (by have:=HM.out.bw;show j≠wtb;omega)).trans (HBK.out j (by have:=HM.out.bh;omega))
   exact ⟨HM.out.fl.keep hk3 h3A z3,HM.out.va,HM.out.vw,HNN.out.symm ▸ HA2.out.keep HK3.out h3h,HNN.out.symm ▸ HQ3.out,HM.out.d1,HM.out.d2,HM.out.d3,HM.out.bA,HM.out.bh,HM.out.bw,HM.out.b0,HM.out.tb.keep (hk3 0 HM.out.b0),HM.out.nc⟩
  have HM3:=hide M3
  have l3A:=(M3.lt (.inl rfl)).2
  have l3h:=(M3.lt (.inr (.inl rfl))).2
  have HSA:=hide (show Calls Tryz.prog 71 #[pp b,pp b] w3.drew fun e w'=>e=.returned (.bool true)∧Below w3.drew.heap.size w3.drew w' from by
   have h1:=same_any (w:=w3.drew) ((HP2.out.keep HK3.out).keep (Kp.drew _ _)) ((HP2.out.keep HK3.out).keep (Kp.drew _ _)) (fun j hj=>(M3.lt hj).2) HHL.out
   rw [show decide (s=s)=true by simp] at h1
   exact h1)
  have HCL:=hide (show ∀ W:World,Below w3.heap.size w3 W→W.cell? ⟨A,0,none⟩=some (.int .i64 fi)∧W.cell? ⟨A,1,none⟩=some (.int .i64 at_)∧W.cell? ⟨A,11,none⟩=some (.slice (some ⟨ahb,0,none⟩) n n)∧W.cell? ⟨ahb,x,none⟩=some (pp b) from fun W h=>⟨(h.cell (p:=⟨A,0,none⟩) l3A).trans b0,(h.cell (p:=⟨A,1,none⟩) l3A).trans b1,(h.cell (p:=⟨A,11,none⟩) l3A).trans b11,(h.cell (p:=⟨ahb,x,none⟩) l3h).trans bc⟩)
  clear M3 q3 k3 h3A h3h z3 a0 a1 a11 a12 e12 hc hW2 hfz hlA hlh
  go_wp2_with fail
  refine wp_region_held_drew (S:=(fun W=>W.cell? ⟨A,0,none⟩=some (.int .i64 fi)∧W.cell? ⟨A,1,none⟩=some (.int .i64 at_)∧W.cell? ⟨A,11,none⟩=some (.slice (some ⟨ahb,0,none⟩) n n)∧W.cell? ⟨ahb,x,none⟩=some (pp b))) (by kernel_rfl) ⟨b0,b1,b11,bc⟩ (fun hHeld16=>?_)
  refine tk 0 ?_;simp only [sp]
  refine tk 1 ?_;simp only [sp]
  refine tk 2 ?_;simp only [sp]
  refine tk 3 ?_;simp only [sp]
  refine tk 4 ?_;simp only [sp]
  refine tk 5 ?_;simp only [sp]
  refine tk 6 ?_;simp only [sp]
  refine tk 7 ?_;simp only [sp]
  refine tk 8 ?_;simp only [sp]
  refine tk 9 ?_;simp only [sp]
  refine tk 10 ?_;simp only [sp]
  refine tk 11 ?_;simp only [sp]
  refine rd 12 (fun K hK=>?_)
  go_simp
  go_at_call 71
  refine HSA.out.mono ?_
  rintro e w4 ⟨rfl,hb4⟩
  have HB4:=hide (show Below w3.heap.size w3 w4 from bel_tr (below_drew (Below.refl _ _)) hb4)
  clear hb4
  go_wp2_with fail
  refine hK.out _ _ (HCL.out w4 HB4.out) (fun hHeld29=>?_)
  clear hK K
  try simp only [sp]
  refine rd 13 (fun K hK=>?_)
  go_simp
  go_at_call 70
  refine (require_ok _ fi at_ 9).mono ?_
  rintro e w5 ⟨rfl,hb5⟩
  have HB5:=hide (bel_tr HB4.out hb5)
  clear hb5
  go_wp2_with fail
  refine hK.out _ _ (HCL.out w5 HB5.out) (fun hHeld30=>?_)
  clear hK K
  try simp only [sp]
  refine wpAnyH_done (by kernel_rfl) ?_ _
  go_wp2
  go_returns
  exact ⟨⟨⟨_,rfl⟩,HM3.out.below HB5.out⟩,(HK2.out.trans HK3.out).trans (Kp.of_below HB5.out)⟩
end
end Go.Proofs.YtkdojpnihinpbaaGreatDoor

namespace Go.Proofs.YtkdojpnihinpbaaGreatDoor
def lkR (p:Pg) (f:Fd) (x:Nat) (i:In3) (s:List Int) (F:Fl):Except Int Fl:=match lookP p f x i s with
  | .error e=>.error e
  | .ok (b,ns)=>comesP b ns { F with mo:=max F.mo b.length }
section
variable {p:Pg} {f:Fd} {x:Nat} {i:In3} {s:List Int} {F:Fl}
theorem lk1 (h:namesB p f i=false):lkR p f x i s F=.error 11:=by unfold lkR lookP;simp [h]
theorem lk2 (h:namesB p f i=true) (h2:s.length<(takesP p f i).n∨(i.o=24∧s.length≠(takesP p f i).n)):lkR p f x i s F=.error 9:=by
 unfold lkR lookP
 dsimp only
 rw [if_neg (by rw [h];simp),if_pos h2]
theorem lk3 (h:namesB p f i=true) (h2:¬ (s.length<(takesP p f i).n∨(i.o=24∧s.length≠(takesP p f i).n))) (h3:(takesP p f i).fine (s.drop (s.length - (takesP p f i).n))=false):lkR p f x i s F=.error 8:=by
 unfold lkR lookP
 dsimp only
 rw [if_neg (by rw [h];simp),if_neg h2,if_pos h3]
theorem lk4 (h:namesB p f i=true) (h2:¬ (s.length<(takesP p f i).n∨(i.o=24∧s.length≠(takesP p f i).n))) (h3:(takesP p f i).fine (s.drop (s.length - (takesP p f i).n))=true) {e:Int} (h4:putsP p f i ((s.drop (s.length - (takesP p f i).n)).getLast?.getD 0) ((s.drop (s.length - (takesP p f i).n)).head?.getD 0)=.error e):lkR p f x i s F=.error e:=by
 unfold lkR lookP
 dsimp only
 rw [if_neg (by rw [h];simp),if_neg h2,if_neg (by rw [h3];simp),h4]
theorem lk5 (h:namesB p f i=true) (h2:¬ (s.length<(takesP p f i).n∨(i.o=24∧s.length≠(takesP p f i).n))) (h3:(takesP p f i).fine (s.drop (s.length - (takesP p f i).n))=true) {l:List Int} (h4:putsP p f i ((s.drop (s.length - (takesP p f i).n)).getLast?.getD 0) ((s.drop (s.length - (takesP p f i).n)).head?.getD 0)=.ok l) (h5:(nextsP i x).all (fun y=>inB y f.co.length)=false):lkR p f x i s F=.error 10:=by
 unfold lkR lookP
 dsimp only
 rw [if_neg (by rw [h];simp),if_neg h2,if_neg (by rw [h3];simp),h4]
 dsimp only
 rw [if_neg (by rw [h5];simp)]
theorem lk6 (h:namesB p f i=true) (h2:¬ (s.length<(takesP p f i).n∨(i.o=24∧s.length≠(takesP p f i).n))) (h3:(takesP p f i).fine (s.drop (s.length - (takesP p f i).n))=true) {l:List Int} (h4:putsP p f i ((s.drop (s.length - (takesP p f i).n)).getLast?.getD 0) ((s.drop (s.length - (takesP p f i).n)).head?.getD 0)=.ok l) (h5:(nextsP i x).all (fun y=>inB y f.co.length)=true):lkR p f x i s F=comesP (s.take (s.length - (takesP p f i).n)++l) (nextsP i x) { F with mo:=max F.mo (s.take (s.length - (takesP p f i).n)++l).length }:=by
 unfold lkR lookP
 dsimp only
 rw [if_neg (by rw [h];simp),if_neg h2,if_neg (by rw [h3];simp),h4]
 dsimp only
 rw [if_pos h5]
theorem fine_at {m:Must} {ks:List Int} (h:m.fine ks=true) {j:Nat} (hj:j<ks.length):m.at j ((ks[1]?).getD 0) ((ks[j]?).getD 0)=true:=by
 unfold Must.fine at h
 rw [List.all_eq_true] at h
 exact h j (List.mem_range.mpr hj)
theorem takes_14 (h:i.o=14∨i.o=16):takesP p f i=.each [ptrB]:=by unfold takesP;rw [if_neg (by omega),if_neg (by omega),if_neg (by omega),if_neg (by omega),if_neg (by omega),if_pos h]
theorem takes_15 (h:i.o=15):takesP p f i=.each [ptrB,anyB]:=by unfold takesP;rw [if_neg (by omega),if_neg (by omega),if_neg (by omega),if_neg (by omega),if_neg (by omega),if_neg (by omega),if_pos h]
theorem takes_17 (h:i.o=17):takesP p f i=.each [arrB,exB 0]:=by unfold takesP;rw [if_neg (by omega),if_neg (by omega),if_neg (by omega),if_neg (by omega),if_neg (by omega),if_neg (by omega),if_neg (by omega),if_pos h]
theorem takes_6 (h:i.o=6):takesP p f i=.each [anyB]:=by unfold takesP;rw [if_neg (by omega),if_pos (by omega)]
theorem low_ok {ks:List Int} (hl:ks.length=(takesP p f i).n) (hk:∀ k∈ks,isKB p.ty.length k=true) (hf:(takesP p f i).fine ks=true):LowOk p.ty.length i (ks.head?.getD 0):=by
 have hh:0<ks.length→ks.head?.getD 0=(ks[0]?).getD 0∧isKB p.ty.length (ks.head?.getD 0)=true:=fun h=>by
  cases ks with
  | nil=>simp at h
  | cons k r=>exact ⟨rfl,hk k (by simp)⟩
 refine ⟨fun h=>?_,fun h=>?_,fun h=>?_⟩
 · rcases Classical.em (i.o=15) with h15 | h15
   · rw [takes_15 h15] at hl hf
     have h0:0<ks.length:=by have:ks.length=2:=hl;omega
     obtain ⟨e1,e2⟩:=hh h0
     refine ⟨e2,?_⟩
     rw [e1]
     exact fine_at hf h0
   · have h14:i.o=14∨i.o=16:=by omega
     rw [takes_14 h14] at hl hf
     have h0:0<ks.length:=by have:ks.length=1:=hl;omega
     obtain ⟨e1,e2⟩:=hh h0
     refine ⟨e2,?_⟩
     rw [e1]
     exact fine_at hf h0
 · rw [takes_17 h] at hl hf
   have h0:0<ks.length:=by have:ks.length=2:=hl;omega
   obtain ⟨e1,e2⟩:=hh h0
   refine ⟨e2,?_⟩
   rw [e1]
   exact fine_at hf h0
 · rw [takes_6 h] at hl
   have h0:0<ks.length:=by have:ks.length=1:=hl;omega
   exact (hh h0).2
theorem field_free (H:Hok p) {k y v:Int} (hf:fieldP p k y=some v):freeB p.ty.length v=true:=by
 unfold fieldP at hf
 dsimp only at hf
 split at hf
 · cases ht:p.ty[((bareK k - 2) / 2).toNat]? with
   | none=>rw [ht] at hf;simp at hf
   | some l =>
    rw [ht] at hf
    exact (H.ty l (List.mem_of_getElem? ht)).2.2 v (List.mem_of_getElem? hf)
 · cases hf
theorem kb_loc {n t:Nat} (h:t<n) (hn:n≤1024) (c:Int) (hc:c=0∨c=1048576):isKB n (c+2+2*(t:Int))=true:=by
 unfold isKB
 rw [decide_eq_true_eq]
 right;right
 unfold bareK
 rcases hc with rfl | rfl
 · rw [if_neg (by omega)];omega
 · rw [if_pos (by omega)];omega
theorem kb_arr {n t:Nat} (h:t<n) (hn:n≤1024):isKB n (3+2*(t:Int))=true:=by
 unfold isKB
 rw [decide_eq_true_eq]
 right;right
 unfold bareK
 rw [if_neg (by omega)]
 omega
theorem puts_kb (H:Hok p) (hf:FdOk p f) (hnm:namesB p f i=true) {top low:Int} (hlow:LowOk p.ty.length i low) {l:List Int} (h:putsP p f i top low=.ok l):(∀ k∈l,isKB p.ty.length k=true)∧l.length≤4096:=by
 have hn:=H.nt
 obtain ⟨C,hC⟩ : ∃ C:Except Int (List Int)→Prop,C=fun r=>∀ l,r=.ok l→(∀ k∈l,isKB p.ty.length k=true)∧l.length≤4096:=⟨_,rfl⟩
 have one:∀ k,isKB p.ty.length k=true→C (.ok [k]):=fun k hk=>by
  rw [hC]
  intro l hl
  cases hl
  exact ⟨fun j hj=>by simp at hj;subst hj;exact hk,by simp⟩
 have err:∀ e,C (.error e):=fun e=>by
  rw [hC]
  intro l hl
  cases hl
 have nil:C (.ok []):=by
  rw [hC]
  intro l hl
  cases hl
  exact ⟨fun j hj=>(by cases hj),by simp⟩
 suffices hs:C (putsP p f i top low) by
  rw [hC] at hs
  exact hs l h
 have nty:∀ {y:Int},inB y p.ty.length=true→∃ t:Nat,y=(t:Int)∧t<p.ty.length:=fun h=>in_nat h
 unfold putsP
 refine ite_elim C (fun _=>one 0 (kb_0 _)) fun _=>?_
 refine ite_elim C (fun h=>one _ ?_) fun _=>?_
 · unfold namesB at hnm
   rw [if_pos h,Bool.and_eq_true] at hnm
   exact hnm.2
 refine ite_elim C (fun h=>one _ ?_) fun _=>?_
 · have h2:inB i.a f.lo.length=true:=by unfold namesB at hnm;rw [if_neg (by omega),if_pos (by omega)] at hnm;exact hnm
   obtain ⟨k,hk,hlt⟩:=in_nat h2
   rw [hk,Int.toNat_natCast,List.getElem?_eq_getElem hlt]
   exact hf.lo _ (List.getElem_mem hlt)
 refine ite_elim C (fun h=>?_) fun _=>?_
 · rw [hC]
   intro l hl
   cases hl
   have:=hlow.2.2 h
   exact ⟨fun j hj=>by simp at hj;subst hj;exact this,by simp⟩
 refine ite_elim C (fun h=>?_) fun _=>?_
 · have h2:inB i.a p.ty.length=true:=by unfold namesB at hnm;rw [if_neg (by omega),if_neg (by omega),if_neg (by omega),if_pos (by omega)] at hnm;exact hnm
   obtain ⟨t,ht,hlt⟩:=nty h2
   rw [ht]
   have:=kb_loc hlt hn 0 (.inl rfl)
   rw [Int.zero_add] at this
   exact one _ this
 refine ite_elim C (fun h=>?_) fun _=>?_
 · have h2:inB i.a p.ty.length=true:=by unfold namesB at hnm;rw [if_neg (by omega),if_neg (by omega),if_neg (by omega),if_pos (by omega)] at hnm;exact hnm
   obtain ⟨t,ht,hlt⟩:=nty h2
   rw [ht]
   exact one _ (kb_arr hlt hn)
 refine ite_elim C (fun h=>?_) fun _=>?_
 · have h2:inB i.a f.ar.length=true:=by unfold namesB at hnm;rw [if_neg (by omega),if_neg (by omega),if_neg (by omega),if_neg (by omega),if_pos h] at hnm;exact hnm
   obtain ⟨k,hk,hlt⟩:=in_nat h2
   rw [hk,Int.toNat_natCast,List.getElem?_eq_getElem hlt,Option.getD_some]
   obtain ⟨t,ht,hlt2⟩:=nty (hf.ar _ (List.getElem_mem hlt))
   rw [ht]
   exact one _ (kb_loc hlt2 hn _ (.inr rfl))
 refine ite_elim C (fun h=>?_) fun _=>?_
 · cases hfd:fieldP p low i.a with
   | none=>exact err _
   | some k=>exact one k (free_kb (field_free H hfd))
 refine ite_elim C (fun h=>?_) fun _=>?_
 · cases hfd:fieldP p low i.a with
   | none=>exact err _
   | some k=>exact ite_elim C (fun _=>nil) (fun _=>err _)
 refine ite_elim C (fun h=>?_) fun _=>?_
 · have h2:inB i.b p.ty.length=true:=by unfold namesB at hnm;rw [if_neg (by omega),if_neg (by omega),if_neg (by omega),if_neg (by omega),if_neg (by omega),if_pos h] at hnm;exact hnm
   obtain ⟨t,ht,hlt⟩:=nty h2
   cases hfd:fieldP p low i.a with
   | none=>exact err _
   | some k =>
    refine ite_elim C (fun _=>?_) (fun _=>err _)
    rw [ht]
    exact one _ (kb_loc hlt hn _ (by unfold locK;split <;> simp))
 refine ite_elim C (fun h=>one _ ?_) fun _=>?_
 · obtain ⟨h3,h4⟩:=hlow.2.1 h
   unfold arrB at h4
   have h5:=of_decide_eq_true h4
   unfold isKB at h3 ⊢
   rw [decide_eq_true_eq] at h3 ⊢
   right;right
   unfold bareK at h3 h5 ⊢
   by_cases hk:1048576≤low
   · rw [if_pos hk] at h3 h5
     by_cases hk2:1048576≤low - 1
     · rw [if_pos hk2];omega
     · omega
   · rw [if_neg hk] at h3 h5
     rw [if_neg (by omega)]
     omega
 refine ite_elim C (fun _=>one 1 (kb_1 _)) fun _=>?_
 refine ite_elim C (fun h=>?_) fun _=>?_
 · have h2:inB i.a p.fu.length=true:=by unfold namesB at hnm;rw [if_neg (by omega),if_neg (by omega),if_neg (by omega),if_neg (by omega),if_neg (by omega),if_neg (by omega),if_pos h] at hnm;exact hnm
   obtain ⟨m,hm,hlt⟩:=in_nat h2
   obtain ⟨g,hg⟩ : ∃ g,p.fu[m]?=some g:=⟨p.fu[m],by simp⟩
   have hgo:=H.fu g (List.mem_of_getElem? hg)
   rw [hm,call_at hg,hC]
   intro l hl
   cases hl
   exact ⟨fun k hk=>free_kb (hgo.re k hk),hgo.nr⟩
 refine ite_elim C (fun h=>?_) fun _=>?_
 · have h2:inB i.a p.ta.length=true:=by unfold namesB at hnm;rw [if_neg (by omega),if_neg (by omega),if_neg (by omega),if_neg (by omega),if_neg (by omega),if_neg (by omega),if_neg (by omega),if_pos h] at hnm;exact hnm
   obtain ⟨t,ht,hlt⟩:=in_nat h2
   obtain ⟨tb,m0,g,h3,h4,h5,h6⟩:=table_at H hlt
   have hgo:=H.fu g (List.mem_of_getElem? h5)
   rw [ht,h6,hC]
   intro l hl
   cases hl
   exact ⟨fun k hk=>free_kb (hgo.re k hk),hgo.nr⟩
 refine ite_elim C (fun h=>?_) fun _=>nil
 have h2:inB i.b p.ty.length=true:=by
  unfold namesB at hnm
  rw [if_neg (by omega),if_neg (by omega),if_neg (by omega),if_neg (by omega),if_neg (by omega),if_neg (by omega),if_neg (by omega),if_neg (by omega),if_pos h] at hnm
  simp only [Bool.and_eq_true] at hnm
  exact hnm.1.2
 obtain ⟨t,ht,hlt⟩:=nty h2
 rw [ht]
 exact one _ (kb_arr hlt hn)
end
end Go.Proofs.YtkdojpnihinpbaaGreatDoor
