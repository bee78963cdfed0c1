/- aheads: the stacks ahead of each instruction, by a stack of what waits. -/
import Derived.Test.YtkdojpnihinpbaaGreatDoorMpMJo
import Derived.Test.YtkdojpnihinpbaaGreatDoorVfFoJo
import Derived.Test.YtkdojpnihinpbaaGreatDoorVfTkJo
namespace Go.Proofs.YtkdojpnihinpbaaGreatDoor
open Go.RowKit
theorem ins_atM {B:Nat} {w:World} {v:Value} {l:List In3} (R:SlAt 3 InsP B w v l) {t:Nat} {x:In3} (hx:l[t]?=some x):∃ g o c,v=.slice (some ⟨g,o,none⟩) l.length c∧g<B∧w.cell? ⟨g,o+t*3,none⟩=some (.int .i64 x.o)∧w.cell? ⟨g,o+t*3+1,none⟩=some (.int .i64 x.a)∧w.cell? ⟨g,o+t*3+2,none⟩=some (.int .i64 x.b):=by
 obtain ⟨ao,cap,rfl,_,hel⟩:=R
 obtain ⟨g,o,cs,rfl,h2,h3,rfl,_⟩:=hel t x hx
 refine ⟨g,o,cap,rfl,h2,?_,h3 1 _ rfl,h3 2 _ rfl⟩
 have:=h3 0 _ rfl
 rwa [Nat.add_zero] at this
def AdO (n:Nat) (M:List (Option (List Int))) (w:World) (e:Ending) (W:World):Prop:=∃ (X:Nat→Prop) (E ahb:Nat),e=.returned (.slice (some ⟨ahb,0,none⟩) n n)∧AhAt X E W ahb n M∧w.heap.size≤ahb∧Below w.heap.size w W
def AdR (p:Pg) (f:Fd) (M:List (Option (List Int))) (E ahb D n:Nat) (w5:World) (K:Nat) (a:Value) (W:World):Prop:=∃ A ws ao m cap,a=.slice ao m cap∧m=ws.length∧Df p f M A ws none [] []∧Ms A ws<K∧K≤2*n+1∧AdM E ahb D n w5 W A a ws
def AdI (p:Pg) (f:Fd) (M:List (Option (List Int))) (E ahb D n x:Nat) (t bl nx:List Int) (na:Option Addr) (nc bb m0:Nat) (w5:World) (a i:Value) (W:World):Prop:=∃ A ws ao m cap,∃ j:Nat,a=.slice ao m cap∧m=ws.length∧i=.int .i64 (j:Int)∧j≤nx.length∧Df p f M A ws (some x) bl (nx.take j)∧A[x]?=some (some t)∧Ms A ws≤m0∧AdM E ahb D n w5 W A a ws∧(nx≠[]→PileAt (Xw ahb a) W E bb bl)∧IsAt (Xw ahb a) W (.slice na nx.length nc) nx
section
variable {B:Nat} {w:World} {a1 a2 a3 a4 b1 b2 b3 b4:Option Addr} {d1 d2 d3 d4 e1 e2 e3 e4:Nat} {p:Pg} {f:Fd} {M:List (Option (List Int))}
set_option maxRecDepth 100000 in
set_option maxHeartbeats 4000000 in
theorem aheads_any (Y:WyAt B w (.slice a1 p.ty.length d1) (.slice a2 p.fu.length d2) (.slice a3 p.ta.length d3) (.slice a4 p.st.length d4) (.slice b1 f.lo.length e1) (.slice b2 f.re.length e2) (.slice b3 f.ar.length e3) (.slice b4 f.co.length e4) p f) (H:Hok p) (hf:FdOk p f) (C:Cl p f M) (hM:∀ (y:Nat) (t:List Int),M[y]?=some (some t)→(∀ k∈t,isKB p.ty.length k=true)∧t.length≤300000000) :
    Calls Tryz.prog 9 #[.agg #[.slice a1 p.ty.length d1,.slice a2 p.fu.length d2,.slice a3 p.ta.length d3,.slice a4 p.st.length d4],.agg #[.int .i64 f.pa,.slice b1 f.lo.length e1,.slice b2 f.re.length e2,.slice b3 f.ar.length e3,.slice b4 f.co.length e4]] w (AdO f.co.length M w):=by
  obtain ⟨W1,hW1⟩ : ∃ W1,((w.alloc (.cells #[.slice a1 p.ty.length d1,.slice a2 p.fu.length d2,.slice a3 p.ta.length d3,.slice a4 p.st.length d4] 27)).alloc (.cells #[.int .i64 f.pa,.slice b1 f.lo.length e1,.slice b2 f.re.length e2,.slice b3 f.ar.length e3,.slice b4 f.co.length e4] 40)).alloc (.cells #[.slice a1 p.ty.length d1,.slice a2 p.fu.length d2,.slice a3 p.ta.length d3,.slice a4 p.st.length d4,.int .i64 f.pa,.slice b1 f.lo.length e1,.slice b2 f.re.length e2,.slice b3 f.ar.length e3,.slice b4 f.co.length e4] 73)=W1:=⟨_,rfl⟩
  have z1:W1.heap.size=w.heap.size+3:=by rw [← hW1];simp
  have bl1:Below w.heap.size w W1:=by rw [← hW1];exact (((Below.refl _ _).alloc (Nat.le_refl _) _).alloc (by simp) _).alloc (by simp;omega) _
  have hFb:W1.heap[w.heap.size+1]?=some (.cells #[.int .i64 f.pa,.slice b1 f.lo.length e1,.slice b2 f.re.length e2,.slice b3 f.ar.length e3,.slice b4 f.co.length e4] 40 (0,0)):=by rw [← hW1,Below.heap_alloc _ _ _ (by simp)];exact heap_new _ _ (by simp)
  have hWb:W1.heap[w.heap.size+1+1]?=some (.cells #[.slice a1 p.ty.length d1,.slice a2 p.fu.length d2,.slice a3 p.ta.length d3,.slice a4 p.st.length d4,.int .i64 f.pa,.slice b1 f.lo.length e1,.slice b2 f.re.length e2,.slice b3 f.ar.length e3,.slice b4 f.co.length e4] 73 (0,0)):=by rw [← hW1];exact heap_new _ _ (by simp)
  have hr:=run_piles W1 f.co.length hf.nc
  obtain ⟨W2,hW2⟩ : ∃ W2,W1.alloc (.cells (List.replicate f.co.length (Value.pointer none)).toArray 43)=W2:=⟨_,rfl⟩
  rw [hW2] at hr
  have z2:W2.heap.size=W1.heap.size+1:=by rw [← hW2];simp
  have hA2:W2.heap[W1.heap.size]?=some (.cells (List.replicate f.co.length (Value.pointer none)).toArray 43 (0,0)):=by rw [← hW2];exact heap_new _ _ rfl
  obtain ⟨W3,hW3⟩ : ∃ W3,W2.alloc (.cells #[.slice none 0 0,.pointer none,.int .i64 0] 75)=W3:=⟨_,rfl⟩
  have z3:W3.heap.size=W2.heap.size+1:=by rw [← hW3];simp
  have hE3:W3.heap[W2.heap.size]?=some (.cells #[.slice none 0 0,.pointer none,.int .i64 0] 75 (0,0)):=by rw [← hW3];exact heap_new _ _ rfl
  have hA3:W3.heap[W1.heap.size]?=some (.cells (List.replicate f.co.length (Value.pointer none)).toArray 43 (0,0)):=by rw [← hW3,Below.heap_alloc _ _ _ (by omega)];exact hA2
  have bl3:Below W1.heap.size W1 W3:=by rw [← hW3,← hW2];exact ((Below.refl _ _).alloc (Nat.le_refl _) _).alloc (by simp) _
  obtain ⟨W4,hW4⟩ : ∃ W4,W3.setCell ⟨W1.heap.size,0,none⟩ (pp W2.heap.size)=W4:=⟨_,rfl⟩
  have z4:W4.heap.size=W3.heap.size:=by rw [← hW4];exact World.size_setCell _ _ _
  obtain ⟨W5,hW5⟩ : ∃ W5,W4.alloc (.cells #[.int .i64 0] 3)=W5:=⟨_,rfl⟩
  have hc0:=hf.co
  have hu0:(List.replicate f.co.length (Value.pointer none)).toArray[0]?=some (.pointer none):=by rw [List.getElem?_toArray,List.getElem?_replicate,if_pos hc0]
  have c30:W3.cell? ⟨W1.heap.size,0,none⟩=some (.pointer none):=cell_of hA3 hu0
  have f30:W3.frozen? ⟨W1.heap.size,0,none⟩=false:=by simp [World.frozen?,hA3]
  have hl3:W1.heap.size<W3.heap.size:=by omega
  have hl1:w.heap.size+1<W1.heap.size:=by omega
  have hl2:w.heap.size+1+1<W1.heap.size:=by omega
  have c14:W1.cell? ⟨w.heap.size+1,4,none⟩=some (.slice b4 f.co.length e4):=cell_of hFb rfl
  have M5:AdM W2.heap.size W1.heap.size W4.heap.size f.co.length W4 W5 ((List.replicate f.co.length none).set 0 (some [])) (.slice (some ⟨W4.heap.size,0,none⟩) 1 1) [0]:=by
   have P3:PileAt (fun j=>j=W1.heap.size) W3 W2.heap.size W2.heap.size []:=.nil hE3 (by omega)
   have A3:AhAt (fun j=>j=W1.heap.size) W2.heap.size W3 W1.heap.size f.co.length (List.replicate f.co.length none):=by
    refine ⟨by simp,List.replicate f.co.length (.pointer none),by simp,hA3,fun x o ho=>?_⟩
    rw [List.getElem?_replicate] at ho
    split at ho
    · rename_i hx
      cases ho
      exact ⟨.pointer none,by rw [List.getElem?_replicate,if_pos hx],rfl⟩
    · cases ho
   have A4:=A3.put rfl hc0 P3 hW4
   have b5:Below W4.heap.size W4 W5:=by rw [← hW5];exact (Below.refl _ _).alloc (Nat.le_refl _) _
   have hA4:W1.heap.size<W4.heap.size:=by omega
   have n5:W5.heap[W4.heap.size]?=some (.cells #[.int .i64 0] 3 (0,0)):=by rw [← hW5];exact heap_new _ _ rfl
   have A5:AhAt (fun j=>j=W1.heap.size∨W4.heap.size≤j) W2.heap.size W5 W1.heap.size f.co.length ((List.replicate f.co.length none).set 0 (some [])):=by
    obtain ⟨h1,cs,h2,h3,h4⟩:=A4
    refine ⟨h1,cs,h2,(b5.block _ (lt_of_block h3)).trans h3,fun x o ho=>?_⟩
    obtain ⟨c,c1,c2⟩:=h4 x o ho
    refine ⟨c,c1,?_⟩
    cases o with
    | none=>exact c2
    | some t =>
     obtain ⟨b,e1,e2⟩:=c2
     exact ⟨b,e1,(e2.sub (fun j hj h=>h.elim id (fun h=>by omega))).keep (Kp.of_below b5)⟩
   refine ⟨?_,⟨by simp,.inr ⟨W4.heap.size,1,#[.int .i64 0],rfl,Nat.le_refl _,n5,Nat.le_refl _,by unfold maxLen;omega,rfl,rfl⟩⟩,Kp.of_below b5,hA4,b5.size⟩
   obtain ⟨h1,cs,h2,h3,h4⟩:=A5
   refine ⟨h1,cs,h2,h3,fun x o ho=>?_⟩
   obtain ⟨c,c1,c2⟩:=h4 x o ho
   refine ⟨c,c1,?_⟩
   cases o with
   | none=>exact c2
   | some t =>
    obtain ⟨b,e1,e2⟩:=c2
    refine ⟨b,e1,e2.sub fun j _ h=>?_⟩
    rcases h with h | h
    · exact .inl h
    · cases h;exact .inr (Nat.le_refl _)
  obtain ⟨D5,hms⟩:=Df.start C hc0
  have HB4:=hide (show ∀ W:World,Kp (fun j=>j=W1.heap.size∨W4.heap.size≤j) W4 W→Below W1.heap.size W1 W from fun W h=>by
   have h4:Below W1.heap.size W1 W4:=by rw [← hW4];exact bl3.setCell (Nat.le_refl _) _
   exact ⟨h.os.trans h4.os,h.tape.trans h4.tape,h.output.trans h4.output,Nat.le_trans h4.size h.size,fun j hj=>(h.block j (Nat.lt_of_lt_of_le hj h4.size) (by omega)).trans (h4.block j hj)⟩)
  have HB1:=hide bl1
  have HY:=hide (show ∀ W:World,Below W1.heap.size W1 W→WyAt B W (.slice a1 p.ty.length d1) (.slice a2 p.fu.length d2) (.slice a3 p.ta.length d3) (.slice a4 p.st.length d4) (.slice b1 f.lo.length e1) (.slice b2 f.re.length e2) (.slice b3 f.ar.length e3) (.slice b4 f.co.length e4) p f from fun W h=>(Y.below bl1).below h)
  have HWB:=hide (show ∀ W:World,Below W1.heap.size W1 W→W.heap[w.heap.size+1+1]?=some (.cells #[.slice a1 p.ty.length d1,.slice a2 p.fu.length d2,.slice a3 p.ta.length d3,.slice a4 p.st.length d4,.int .i64 f.pa,.slice b1 f.lo.length e1,.slice b2 f.re.length e2,.slice b3 f.ar.length e3,.slice b4 f.co.length e4] 73 (0,0)) from fun W h=>(h.block _ hl2).trans hWb)
  have HFB:=hide (show ∀ W:World,Below W1.heap.size W1 W→W.cell? ⟨w.heap.size+1,4,none⟩=some (.slice b4 f.co.length e4)∧w.heap.size+1<W.heap.size from fun W h=>⟨(h.cell (p:=⟨w.heap.size+1,4,none⟩) hl1).trans c14,Nat.lt_of_lt_of_le hl1 h.size⟩)
  have HBL:=hide (show B≤W1.heap.size∧B≤W4.heap.size from by have:=Y.hB;omega)
  have HM5:=hide M5
  have HD5:=hide D5
  have HMS:=hide hms
  have HC:=hide C
  have HMB:=hide hM
  have HNC:=hide hf.nc
  have HZ1:=hide z1
  clear Y C hM M5 D5 hms bl1 bl3 hFb hWb hA2 hA3 hE3 z1 z2 z3 z4 hu0
  have HH:=hide H
  have HHF:=hide hf
  clear H hf
  obtain ⟨n,hn⟩ : ∃ n,f.co.length=n:=⟨_,rfl⟩
  have HN:=hide hn
  rw [hn] at HM5 HD5 HMS HNC hr hW1 hW2 hc0 c14 ⊢
  have d0:decide (0<n)=true:=by simpa using hc0
  have HFN:=hide (show ∀ W:World,Below W1.heap.size W1 W→W.cell? ⟨w.heap.size+1,4,none⟩=some (.slice b4 n e4)∧w.heap.size+1<W.heap.size from fun W h=>hn ▸ HFB.out W h)
  clear HFB
  go_enter Tryz.func9,Tryz.ntmps9
  go_wp2
  go_loopg [7] (2*n+1) (fun K a wr=>Hid (AdR p f M W2.heap.size W1.heap.size W4.heap.size n W4 K a wr))
  case atStart=>exact hide ⟨_,_,_,_,_,rfl,rfl,HD5.out,Nat.lt_succ_of_le HMS.out,Nat.le_refl _,HM5.out⟩
  case round =>
   clear HM5 HD5 HMS hr hW2 hW3 hW4 hW5 c30 f30 hl3 d0 c14
   obtain ⟨A,ws,ao,m,cap0,rfl,hm,hD,hms,hgk,hA⟩:=hrel.out
   clear hrel
   have hwl:ws.length<200000:=by
    have h1:=HNC.out
    unfold Ms at hms
    omega
   have HWL:=hide hwl
   rcases List.eq_nil_or_concat ws with rfl | ⟨ws',x,hws⟩
   · obtain rfl:m=0:=hm
     have HE:=hide (show AdO n M w (.returned (.slice (some ⟨W1.heap.size,0,none⟩) n n)) wr from ⟨_,W2.heap.size,W1.heap.size,rfl,hD.fin HC.out ▸ hA.ah,by have:=HZ1.out;omega,bel_tr HB1.out (HB4.out wr hA.kp)⟩)
     have d1:decide ((0:Int)<0)=false:=by decide
     clear hD hms hgk hA hwl
     go_wp2
     go_ret
     exact HE.out
   · rw [List.concat_eq_append] at hws
     subst hws
     obtain ⟨g,cap,hv,hg,hcap,hc,hMA⟩:=hA.pop
     cases hv
     clear hm
     obtain ⟨t,cc,ns,hAx,hMx,hlk,hput,hD1,hms1⟩:=hD.take HC.out
     have hxn:x<f.co.length:=by have:=get_lt hMx;rwa [HC.out.len] at this
     obtain ⟨ii,hii⟩ : ∃ i,f.co[x]?=some i:=⟨f.co[x],by simp⟩
     have hco:coAt f x=ii:=by unfold coAt;rw [hii];rfl
     rw [hco] at hlk
     have hB4:=HB4.out wr hA.kp
     obtain ⟨gc,oc,ec,hv4,hgc,i0,i1,i2⟩:=ins_atM (HY.out wr hB4).co hii
     cases hv4
     obtain ⟨cx,hcx,_,hax⟩:=hMA.cell hAx
     obtain ⟨bx,rfl,hpx⟩:=hax
     obtain ⟨hkt,hlt⟩:=HMB.out x t hMx
     have HBH:=hide (show Calls Tryz.prog 19 #[.agg #[.slice a1 p.ty.length d1,.slice a2 p.fu.length d2,.slice a3 p.ta.length d3,.slice a4 p.st.length d4,.int .i64 f.pa,.slice b1 f.lo.length e1,.slice b2 f.re.length e2,.slice b3 f.ar.length e3,.slice (some ⟨gc,oc,none⟩) n e4],.agg #[.int .i64 ii.o,.int .i64 ii.a,.int .i64 ii.b],pp bx] wr.drew (BfO (Xw W1.heap.size (.slice (some ⟨g,0,none⟩) ws'.length cap0)) W2.heap.size cc ns wr.drew) from by
      have h:=behind_any (HY.out wr.drew (below_drew hB4)) HH.out HHF.out (hpx.keep (Kp.drew _ _)) (fun j hj=>hMA.xlt HBL.out.1 HBL.out.2 hj) (by omega) hkt hlk
      rw [HN.out] at h
      exact h)
     have HNX:=hide (show ns=nextsP ii x from (look_ok hlk).2.2.2.2)
     have HGC:=hide hgc
     have HCL:=hide (show ∀ W:World,Below wr.heap.size wr W→(fun W=>W.cell? ⟨w.heap.size+1+1,0,none⟩=some (.slice a1 p.ty.length d1)∧W.cell? ⟨w.heap.size+1+1,1,none⟩=some (.slice a2 p.fu.length d2)∧W.cell? ⟨w.heap.size+1+1,2,none⟩=some (.slice a3 p.ta.length d3)∧W.cell? ⟨w.heap.size+1+1,3,none⟩=some (.slice a4 p.st.length d4)∧W.cell? ⟨w.heap.size+1+1,4,none⟩=some (.int .i64 f.pa)∧W.cell? ⟨w.heap.size+1+1,5,none⟩=some (.slice b1 f.lo.length e1)∧W.cell? ⟨w.heap.size+1+1,6,none⟩=some (.slice b2 f.re.length e2)∧W.cell? ⟨w.heap.size+1+1,7,none⟩=some (.slice b3 f.ar.length e3)∧W.cell? ⟨w.heap.size+1+1,8,none⟩=some (.slice (some ⟨gc,oc,none⟩) n e4)∧W.cell? ⟨w.heap.size+1,4,none⟩=some (.slice (some ⟨gc,oc,none⟩) n e4)∧W.cell? ⟨gc,oc+x*3,none⟩=some (.int .i64 ii.o)∧W.cell? ⟨gc,oc+x*3+1,none⟩=some (.int .i64 ii.a)∧W.cell? ⟨gc,oc+x*3+2,none⟩=some (.int .i64 ii.b)∧W.cell? ⟨W1.heap.size,x,none⟩=some (pp bx)) W from fun W h=>by
      have h1:=HWB.out W (bel_tr hB4 h)
      have hgw:gc<wr.heap.size:=Nat.lt_of_lt_of_le hgc (Nat.le_trans HBL.out.1 hB4.size)
      have hx1:W1.heap.size<wr.heap.size:=hMA.ahlt
      refine ⟨cell_of h1 rfl,cell_of h1 rfl,cell_of h1 rfl,cell_of h1 rfl,cell_of h1 rfl,cell_of h1 rfl,cell_of h1 rfl,cell_of h1 rfl,?_,(HFN.out W (bel_tr hB4 h)).1,(h.cell (p:=⟨gc,oc+x*3,none⟩) hgw).trans i0,(h.cell (p:=⟨gc,oc+x*3+1,none⟩) hgw).trans i1,(h.cell (p:=⟨gc,oc+x*3+2,none⟩) hgw).trans i2,(h.cell (p:=⟨W1.heap.size,x,none⟩) hx1).trans hcx⟩
      rw [← HN.out]
      exact cell_of h1 rfl)
     have HB4W:=hide hB4
     have HMA:=hide hMA
     have HD1:=hide hD1
     have HAX:=hide hAx
     have HMS1:=hide (show Ms A ws' + 1<gk from by omega)
     have HLK:=hide (show lookP p f x (coAt f x) t=.ok (cc,ns) from hco.symm ▸ hlk)
     have HPT:=hide hput
     have HGK:=hide hgk
     rw [List.length_append,List.length_singleton] at hwl HWL
     have dn:x<n:=by rw [← HN.out];exact hxn
     have dn2:decide (x<n)=true:=by simpa using dn
     have hl32:(ws'.length:Int)<200000:=by omega
     have hgw2:gc<wr.heap.size:=Nat.lt_of_lt_of_le hgc (Nat.le_trans HBL.out.1 hB4.size)
     have hx2:W1.heap.size<wr.heap.size:=hMA.ahlt
     have hwb:w.heap.size+1+1<wr.heap.size:=lt_of_block (HWB.out wr hB4)
     have hfb:w.heap.size+1<wr.heap.size:=(HFN.out wr hB4).2
     clear hA hD hms hgk hMA hD1 hms1 hAx hMx hlk hput hxn hii hco hB4 hgc i0 i1 i2 hcx hpx hkt hlt
     go_wp2_with fail
     refine wp_region_held_drew (S:=(fun W=>W.cell? ⟨w.heap.size+1+1,0,none⟩=some (.slice a1 p.ty.length d1)∧W.cell? ⟨w.heap.size+1+1,1,none⟩=some (.slice a2 p.fu.length d2)∧W.cell? ⟨w.heap.size+1+1,2,none⟩=some (.slice a3 p.ta.length d3)∧W.cell? ⟨w.heap.size+1+1,3,none⟩=some (.slice a4 p.st.length d4)∧W.cell? ⟨w.heap.size+1+1,4,none⟩=some (.int .i64 f.pa)∧W.cell? ⟨w.heap.size+1+1,5,none⟩=some (.slice b1 f.lo.length e1)∧W.cell? ⟨w.heap.size+1+1,6,none⟩=some (.slice b2 f.re.length e2)∧W.cell? ⟨w.heap.size+1+1,7,none⟩=some (.slice b3 f.ar.length e3)∧W.cell? ⟨w.heap.size+1+1,8,none⟩=some (.slice (some ⟨gc,oc,none⟩) n e4)∧W.cell? ⟨w.heap.size+1,4,none⟩=some (.slice (some ⟨gc,oc,none⟩) n e4)∧W.cell? ⟨gc,oc+x*3,none⟩=some (.int .i64 ii.o)∧W.cell? ⟨gc,oc+x*3+1,none⟩=some (.int .i64 ii.a)∧W.cell? ⟨gc,oc+x*3+2,none⟩=some (.int .i64 ii.b)∧W.cell? ⟨W1.heap.size,x,none⟩=some (pp bx))) (by kernel_rfl) (HCL.out _ (below_drew (Below.refl _ _))) (fun hHeld1=>?_)
     refine tk 0 ?_;simp only [sp]
     refine tk 1 ?_;simp only [sp]
     refine tk 2 ?_;simp only [sp]
     refine tk 3 ?_;simp only [sp]
     refine tk 4 ?_;simp only [sp]
     refine tk 5 ?_;simp only [sp]
     refine tk 6 ?_;simp only [sp]
     refine tk 7 ?_;simp only [sp]
     refine tk 8 ?_;simp only [sp]
     refine tk 9 ?_;simp only [sp]
     refine rd 10 (fun K hK=>?_)
     go_simp
     go_at_call 19
     refine HBH.out.mono ?_
     rintro e w6 ⟨b6,l6,rfl,hp6,hb6,hl6⟩
     have HB6:=hide (show Below wr.heap.size wr w6 from bel_tr (below_drew (Below.refl _ _)) hb6)
     have HP6:=hide hp6
     have HL6:=hide hl6
     clear hb6 hp6 hl6
     go_wp2_with fail
     refine hK.out _ _ (HCL.out w6 HB6.out) (fun hHeld12=>?_)
     clear hK K
     try simp only [sp]
     refine tk 11 ?_;simp only [sp]
     refine wpAnyH_done (by kernel_rfl) ?_ _
     have hk6:=HCL.out w6 HB6.out
     obtain ⟨_,_,_,_,_,_,_,_,_,j0,j1,j2,j3,j4⟩:=hk6
     have hgw6:gc<w6.heap.size:=Nat.lt_of_lt_of_le hgw2 HB6.out.size
     have hfb6:w.heap.size+1<w6.heap.size:=Nat.lt_of_lt_of_le hfb HB6.out.size
     have HNT:=hide (nextm_any w6 (x:=x) (by have:=HNC.out;omega) ii)
     rw [← HNX.out] at HNT
     clear HBH
     go_wp2_with fail
     refine HNT.out.mono ?_
     rintro e w7 ⟨nv,rfl,hI7,hb7⟩
     have hI8:=hI7
     obtain ⟨na,nc,hnv,_,_,_⟩:=hI8
     subst hnv
     have hA7:=(HMA.out.below HB6.out).below hb7
     have HA7:=hide hA7
     have HP7:=hide (show ns≠[]→PileAt (Xw W1.heap.size (.slice (some ⟨g,0,none⟩) ws'.length cap0)) w7 W2.heap.size b6 cc from fun hne=>by
      have h:=HP6.out.keep (Kp.of_below hb7)
      rw [HL6.out hne] at h
      exact h)
     have HI7:=hide (show IsAt (Xw W1.heap.size (.slice (some ⟨g,0,none⟩) ws'.length cap0)) w7 (.slice na ns.length nc) ns from hI7.sub fun j _ hx=>((HMA.out.below HB6.out).xlt HBL.out.1 HBL.out.2 hx).2)
     have HNL:=hide (show ns.length≤2 from by rw [HNX.out];unfold nextsP;split;simp;split;simp;split <;> simp)
     have HB7:=hide (bel_tr HB6.out hb7)
     clear hI7 hA7 hb7 HNT hgw6 hfb6 j0 j1 j2 j3 j4 HP6 HL6
     obtain ⟨nl,hnl⟩ : ∃ nl,ns.length=nl:=⟨_,rfl⟩
     have HLL:=hide hnl
     rw [hnl] at HNL HI7 ⊢
     go_wp2
     go_loopw [7,57] (fun a i wr'=>AdI p f M W2.heap.size W1.heap.size W4.heap.size n x t cc ns na nc b6 (Ms A ws') W4 a i wr') (fun _ i _=>nl - (intOf i).toNat)
     case atStart=>exact ⟨A,ws',_,_,_,0,rfl,rfl,rfl,Nat.zero_le _,HD1.out,HAX.out,Nat.le_refl _,HA7.out,HP7.out,by rw [hnl];exact HI7.out⟩
     case round =>
      obtain ⟨A2,ws2,ao2,m2,cap2,j,rfl,hm2,rfl,hj,hD2,hx2',hms2,hA2,hP2,hI2⟩:=hrel
      rw [HLL.out] at hj
      have hwl2:ws2.length<200000:=by
       have h1:=HNC.out
       have h2:=HMS1.out
       have h3:=HGK.out
       have h4:ws2.length≤Ms A2 ws2:=by unfold Ms;omega
       omega
      by_cases hlt:j<nl
      · obtain ⟨y,hy⟩ : ∃ y,ns[j]?=some y:=⟨ns[j]'(by rw [HLL.out];exact hlt),by simp⟩
        obtain ⟨m,rfl,hMm⟩:=HPT.out y (List.mem_of_getElem? hy)
        have hmn0:m<f.co.length:=by have:=get_lt hMm;rwa [HC.out.len] at this
        have hmn:m<n:=by rw [← HN.out];exact hmn0
        have hI3:=hI2
        obtain ⟨ao3,cap3,hv3,_,_,hel⟩:=hI3
        cases hv3
        obtain ⟨gn,on,rfl,hgn,_,hcn⟩:=hel j _ hy
        have hne:ns≠[]:=fun h=>by rw [h] at hy;cases hy
        obtain ⟨o,ho⟩ : ∃ o,A2[m]?=some o:=⟨A2[m]'(by rw [hD2.len];exact hmn0),by simp⟩
        obtain ⟨c,hcc,hfz,hac⟩:=hA2.cell ho
        have htk:ns.take j++[(m:Int)]=ns.take (j+1):=by rw [List.take_add_one,hy];rfl
        have d1:decide (j<nl)=true:=by simpa using hlt
        have dj:(j:Int)≤2:=by have:=HNL.out;omega
        have dm:decide (m<n)=true:=by simpa using hmn
        have hahl:=hA2.ahlt
        cases o with
        | some u =>
         obtain ⟨bu,rfl,_⟩:=hac
         have HD3:=hide (htk ▸ hD2.seen hMm ho)
         have HR:=hide (show AdI p f M W2.heap.size W1.heap.size W4.heap.size n x t cc ns (some ⟨gn,on,none⟩) nc b6 (Ms A ws') W4 (.slice ao2 m2 cap2) (.int .i64 ((j+1:Nat):Int)) wr from ⟨A2,ws2,_,_,_,j+1,rfl,hm2,rfl,by rw [HLL.out];exact hlt,HD3.out,hx2',hms2,hA2,hP2,hI2⟩)
         clear hD2 hx2' hms2 hA2 hP2 hI2 hel hy hMm ho htk HD3
         go_wp2
         go_roundw
         case rel=>exact HR.out
         case measure=>first | exact meas_int hlt (by omega) | (rw [intOf_int,intOf_int];omega)
        | none =>
         have hac2:c=.pointer none:=hac
         subst hac2
         obtain ⟨V1,hV1⟩ : ∃ V1,wr.setCell ⟨W1.heap.size,m,none⟩ (pp b6)=V1:=⟨_,rfl⟩
         obtain ⟨V2,hV2⟩ : ∃ V2,V1.alloc (.cells #[.int .i64 (m:Int)] 3)=V2:=⟨_,rfl⟩
         have b12:Below V1.heap.size V1 V2:=by rw [← hV2];exact (Below.refl _ _).alloc (Nat.le_refl _) _
         have K1:Kp (Xw W1.heap.size (.slice ao2 m2 cap2)) wr V1:=Kp.set (.inl rfl) hV1
         have A4:=(hA2.put (hP2 hne) hmn hV1).below b12
         obtain ⟨hD3,hms3⟩:=hD2.new hMm ho
         obtain ⟨g4,cap4,V3,hrun,A5,hgrow,hg4⟩:=A4.push (b:=V1.heap.size) (x:=m) (by omega) (by rw [← hV2];exact heap_new _ _ rfl)
         have hxm:(A2.set m (some cc))[x]?=some (some t):=by
          rw [List.getElem?_set]
          split
          · rename_i e
            subst e
            rw [ho] at hx2'
            cases hx2'
          · exact hx2'
         have HR:=hide (show AdI p f M W2.heap.size W1.heap.size W4.heap.size n x t cc ns (some ⟨gn,on,none⟩) nc b6 (Ms A ws') W4 (.slice (some ⟨g4,0,none⟩) (m2+1) cap4) (.int .i64 ((j+1:Nat):Int)) V3 from ⟨A2.set m (some cc),ws2++[m],_,_,_,j+1,rfl,by rw [List.length_append,List.length_singleton,hm2],rfl,by rw [HLL.out];exact hlt,htk ▸ hD3,hxm,by omega,hm2 ▸ A5,fun _=>pile_up (((hP2 hne).keep K1).keep (Kp.of_below b12)) hgrow hg4 rfl,is_up ((hI2.keep K1).keep (Kp.of_below b12)) hgrow hg4 rfl⟩)
         rw [← hm2] at hrun
         have dm2:(m2:Int)<200000:=by omega
         clear hD2 hx2' hms2 hA2 hP2 hI2 hel hy hMm ho htk hD3 hms3 A4 A5 hgrow hg4 hxm K1 b12 hm2 hwl2 hac
         go_wp2_with (at_builtin;refine wpList_append_eq rfl _ _ 37 37 rfl rfl rfl hrun ?_;clear hrun)
         go_roundw
         case rel=>exact HR.out
         case measure=>first | exact meas_int hlt (by omega) | (rw [intOf_int,intOf_int];omega)
      · obtain rfl:nl=j:=by omega
        have d1:decide (nl<nl)=false:=by simp
        have HDB:=hide (show Df p f M A2 ws2 none [] [] from by
         have h:Df p f M A2 ws2 (some x) cc ns:=by
          have:=hD2
          rwa [← HLL.out,List.take_length] at this
         exact h.back hx2' HLK.out)
        have HA2:=hide hA2
        have HMM:=hide (show Ms A2 ws2<gk - 1 from by have:=HMS1.out;omega)
        have HM2:=hide hm2
        clear hD2 hx2' hms2 hA2 hP2 hI2 hm2 hwl2
        go_wp2
        go_roundg (gk - 1)
        case measure=>have:=HMS1.out;omega
        case rel=>exact hide ⟨A2,ws2,_,_,_,rfl,HM2.out,HDB.out,HMM.out,by have:=HGK.out;omega,HA2.out⟩
end
end Go.Proofs.YtkdojpnihinpbaaGreatDoor
