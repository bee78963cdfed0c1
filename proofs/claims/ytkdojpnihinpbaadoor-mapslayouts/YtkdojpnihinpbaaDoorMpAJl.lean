/- Layout; awake: the simplest facts. -/
import Derived.Test.YtkdojpnihinpbaaDoorMpQJl
import Derived.Test.YtkdojpnihinpbaaDoorVfCnJl
import Derived.Test.YtkdojpnihinpbaaDoorVfLbJl
import Derived.Test.YtkdojpnihinpbaaDoorVfRwJl
import Derived.Test.YtkdojpnihinpbaaDoorCdGsJl
namespace Go.Proofs.YtkdojpnihinpbaaDoor
open Go.RowKit
def LaO (p:Pg) (m:Int) (w:World) (e:Ending) (W:World):Prop:=Below w.heap.size w W ∧
  (((checkP p).2.2≠0∧e=.returned (.tuple #[.slice none 0 0,.int .i64 (checkP p).2.2])) ∨
  ((checkP p).2.2=0∧inB m p.ty.length=false∧e=.returned (.tuple #[.slice none 0 0,.int .i64 6])) ∨
  ∃ (k:Nat) (l:List Int) (v:Value),(checkP p).2.2=0∧m=(k:Int)∧p.ty[k]?=some l∧e=.returned (.tuple #[v,.int .i64 0])∧BsAt W v (nzs l))
section
variable {B:Nat} {w:World} {p:Pg}
set_option maxRecDepth 100000 in
set_option maxHeartbeats 1000000 in
theorem layout_any {v1 v2 v3 v4:Value} (P:PgAt B w v1 v2 v3 v4 p) (hB:B≤w.heap.size) (hT:Tb w) (hb0:0<B) (m:Int):Calls Tryd.prog 5 #[.agg #[v1,v2,v3,v4],.int .i64 m] w (LaO p m w):=by
 obtain ⟨a1,d1,hv1⟩:=sl_form P.ty
 obtain ⟨a2,d2,hv2⟩:=sl_form P.fu
 obtain ⟨a3,d3,hv3⟩:=sl_form P.ta
 obtain ⟨a4,d4,hv4⟩:=sl_form P.st
 subst hv1 hv2 hv3 hv4
 obtain ⟨W1,hW1⟩ : ∃ W1,w.alloc (.cells #[.slice a1 p.ty.length d1,.slice a2 p.fu.length d2,.slice a3 p.ta.length d3,.slice a4 p.st.length d4] 27)=W1:=⟨_,rfl⟩
 have b1:Below w.heap.size w W1:=by rw [← hW1];exact (Below.refl _ _).alloc (Nat.le_refl _) _
 have e1:W1.heap[w.heap.size]?=some (.cells #[.slice a1 p.ty.length d1,.slice a2 p.fu.length d2,.slice a3 p.ta.length d3,.slice a4 p.st.length d4] 27 (0,0)):=by rw [← hW1];exact heap_new _ _ rfl
 have HPW:=hide (show ∀ W:World,Below W1.heap.size W1 W→PgAt B W (.slice a1 p.ty.length d1) (.slice a2 p.fu.length d2) (.slice a3 p.ta.length d3) (.slice a4 p.st.length d4) p∧B≤W.heap.size from fun W h=>⟨P.keep (Nat.le_refl _) (fun j hj=>(bel_tr b1 h).block j (Nat.lt_of_lt_of_le hj hB)),Nat.le_trans hB (bel_tr b1 h).size⟩)
 have HPB:=hide (show ∀ W:World,Below W1.heap.size W1 W→W.cell? ⟨w.heap.size,0,none⟩=some (.slice a1 p.ty.length d1)∧w.heap.size<W.heap.size from fun W h=>⟨cell_of ((h.block _ (lt_of_block e1)).trans e1) rfl,Nat.lt_of_lt_of_le (lt_of_block e1) h.size⟩)
 have HCK:=hide (check_any (HPW.out W1 (Below.refl _ _)).1 (HPW.out W1 (Below.refl _ _)).2 (hT.keep (b1.block 0 (Nat.lt_of_lt_of_le hb0 hB))) hb0)
 have HB1:=hide b1
 have k0:W1.cell? ⟨w.heap.size,0,none⟩=some (.slice a1 p.ty.length d1):=cell_of e1 rfl
 have k1:W1.cell? ⟨w.heap.size,1,none⟩=some (.slice a2 p.fu.length d2):=cell_of e1 rfl
 have k2:W1.cell? ⟨w.heap.size,2,none⟩=some (.slice a3 p.ta.length d3):=cell_of e1 rfl
 have k3:W1.cell? ⟨w.heap.size,3,none⟩=some (.slice a4 p.st.length d4):=cell_of e1 rfl
 have HOK:=hide (show (checkP p).2.2=0→p.ty.length≤1024∧∀ l∈p.ty,l.length≤4096 from fun h=>by
  obtain ⟨_,o1,o2,_⟩:=check_ok h
  have H:=hok_of o1 o2
  exact ⟨H.nt,fun l hl=>(H.ty l hl).2.1⟩)
 clear P hB hT b1 e1
 go_enter Tryd.func5,Tryd.ntmps5
 go_wp2_with fail
 refine HCK.out.mono ?_
 rintro e w2 ⟨rfl,hb2⟩
 have HB2:=hide (show Below W1.heap.size W1 w2 from hb2)
 obtain ⟨j0,hpw⟩:=HPB.out w2 hb2
 clear hb2 k0 k1 k2 k3 HCK
 obtain ⟨q1,hq1⟩ : ∃ c,(checkP p).1=c:=⟨_,rfl⟩
 obtain ⟨q2,hq2⟩ : ∃ c,(checkP p).2.1=c:=⟨_,rfl⟩
 obtain ⟨ce,hce⟩ : ∃ c,(checkP p).2.2=c:=⟨_,rfl⟩
 rw [hq1,hq2,hce]
 rw [hce] at HOK
 have HCE:=hide hce
 clear hq1 hq2 hce
 by_cases hc:ce=0
 · have HCZ:=hide (show (checkP p).2.2=0 from by rw [HCE.out];exact hc)
   obtain ⟨hnt,hfl⟩:=HOK.out hc
   have HFL:=hide hfl
   clear hfl
   subst hc
   have hn3:(p.ty.length:Int)≤1024:=by omega
   by_cases hi:inB m p.ty.length=true
   · obtain ⟨k,rfl,hk⟩:=in_nat hi
     obtain ⟨l,hl⟩ : ∃ l,p.ty[k]?=some l:=⟨p.ty[k],by simp⟩
     obtain ⟨g,o,c,n,u,hv,hn,hlt,hg,hcu,hul⟩:=lst_at (HPW.out w2 HB2.out).1.ty hl
     cases hv
     have hgw:g<w2.heap.size:=Nat.lt_of_lt_of_le hg (HPW.out w2 HB2.out).2
     have HPT:=hide (pointers_any (w:=w2) (is_of_sl hul (HPW.out w2 HB2.out).2 (fun _ _ h=>h)) (by have:=HFL.out l (List.mem_of_getElem? hl);omega))
     obtain ⟨ua,uc,rfl⟩:=sl_form hul
     have HF:=hide (show ∀ (W:World) (v:Value),Below w.heap.size w W→BsAt W v (nzs l)→LaO p (k:Int) w (.returned (.tuple #[v,.int .i64 0])) W from fun W v h hv=>⟨h,.inr (.inr ⟨k,l,v,HCZ.out,rfl,hl,rfl,hv⟩)⟩)
     have d0:decide (k<p.ty.length)=true:=by simpa using hk
     have d1:decide ((p.ty.length:Int)≤(k:Int))=false:=by simp;omega
     have d2:decide ((k:Int)<0)=false:=by simp
     clear hi hl hul hn hg
     go_wp2_with fail
     refine HPT.out.mono ?_
     rintro e w3 ⟨rfl,h3,hb3⟩
     have HE:=hide (HF.out w3 _ (bel_tr (bel_tr HB1.out HB2.out) hb3) (by have:=BsAt.block h3;rwa [nzs_len] at this))
     clear h3 hb3
     go_wp2
     go_ret2
     exact HE.out
   · have hi2:inB m p.ty.length=false:=by simpa using hi
     have HE:=hide (show LaO p m w (.returned (.tuple #[.slice none 0 0,.int .i64 6])) w2 from ⟨bel_tr HB1.out HB2.out,.inr (.inl ⟨HCZ.out,hi2,rfl⟩)⟩)
     have h3:m<0∨(p.ty.length:Int)≤m:=by
      have h:=of_decide_eq_false hi2
      omega
     clear hi hi2
     by_cases hm0:m<0
     · have d1:decide (m<0)=true:=by simpa using hm0
       clear h3
       go_wp2
       go_ret2
       exact HE.out
     · have d1:decide (m<0)=false:=by simpa using hm0
       have d2:decide ((p.ty.length:Int)≤m)=true:=by simp;omega
       clear h3
       go_wp2
       go_ret2
       exact HE.out
 · have q0:(ce != 0)=true:=by simpa using hc
   have HE:=hide (show LaO p m w (.returned (.tuple #[.slice none 0 0,.int .i64 ce])) w2 from ⟨bel_tr HB1.out HB2.out,.inl ⟨by rw [HCE.out];exact hc,by rw [HCE.out]⟩⟩)
   clear hc
   go_wp2
   go_ret2
   exact HE.out
end
end Go.Proofs.YtkdojpnihinpbaaDoor

namespace Go.Proofs.YtkdojpnihinpbaaDoor
open Go.RowKit
def awF19:Fd:=⟨0,[2],[],[],[⟨11,0,0⟩,⟨4,0,0⟩,⟨28,0,0⟩]⟩
def awP19:Pg:=⟨[[0,2]],[awF19],[],[]⟩
theorem aw19_check:checkP awP19=(0,0,0):=by decide +kernel
theorem aw19_sel:(match followP awP19 awF19 with | .ok F=>selP awF19 F.ah 3 | .error _=>[])=[(0,[])]:=by decide +kernel
section
variable {w:World}
theorem aw19_pg {W:World} {b0 b1 b2 b3 b4:Nat} (h0:W.heap[b0]?=some (.cells (ivs [0,2]).toArray 3 (0,0))) (h1:W.heap[b1]?=some (.cells #[.slice (some ⟨b0,0,none⟩) 2 2] 39 (0,0))) (h2:W.heap[b2]?=some (.cells (ivs [2]).toArray 3 (0,0))) (h3:W.heap[b3]?=some (.cells #[.int .i64 11,.int .i64 0,.int .i64 0,.int .i64 4,.int .i64 0,.int .i64 0,.int .i64 28,.int .i64 0,.int .i64 0] 47 (0,0))) (h4:W.heap[b4]?=some (.cells #[.int .i64 0,.slice (some ⟨b2,0,none⟩) 1 1,.slice none 0 0,.slice none 0 0,.slice (some ⟨b3,0,none⟩) 3 3] 50 (0,0))):PgAt W.heap.size W (.slice (some ⟨b1,0,none⟩) 1 1) (.slice (some ⟨b4,0,none⟩) 1 1) (.slice none 0 0) (.slice none 0 0) awP19:=by
 have r0:=ints_block h0 (by simp) (by simp)
 have r2:=ints_block h2 (by simp) (by simp)
 refine ⟨⟨some ⟨b1,0,none⟩,1,rfl,⟨by simp [awP19],by simp [awP19],by unfold maxLen;omega⟩,fun j x hx=>?_⟩,⟨some ⟨b4,0,none⟩,1,rfl,⟨by simp [awP19],by simp [awP19],by unfold maxLen;omega⟩,fun j x hx=>?_⟩,sl_nil,sl_nil⟩
 · match j,hx with
   | 0,hx =>
    cases hx
    refine ⟨b1,0,[.slice (some ⟨b0,0,none⟩) 2 2],rfl,lt_of_block h1,fun r u hu=>?_,_,rfl,r0⟩
    rw [Nat.zero_mul,Nat.add_zero,Nat.zero_add]
    exact cell_of h1 (by simpa using hu)
 · match j,hx with
   | 0,hx =>
    cases hx
    refine ⟨b4,0,[.int .i64 0,.slice (some ⟨b2,0,none⟩) 1 1,.slice none 0 0,.slice none 0 0,.slice (some ⟨b3,0,none⟩) 3 3],rfl,lt_of_block h4,fun r u hu=>?_,_,_,_,_,rfl,by simp [awF19],r2,sl_nil,sl_nil,⟨some ⟨b3,0,none⟩,3,rfl,⟨by simp [awF19],by simp [awF19],by unfold maxLen;omega⟩,fun j y hy=>?_⟩⟩
    · rw [Nat.zero_mul,Nat.add_zero,Nat.zero_add]
      exact cell_of h4 (by simpa using hu)
    · match j,hy with
      | 0,hy =>
       cases hy
       refine ⟨b3,0,[.int .i64 11,.int .i64 0,.int .i64 0],rfl,lt_of_block h3,fun r u hu=>?_,rfl,by simp⟩
       match r,hu with
       | 0,hu=>cases hu;exact cell_of h3 rfl
       | 1,hu=>cases hu;exact cell_of h3 rfl
       | 2,hu=>cases hu;exact cell_of h3 rfl
      | 1,hy =>
       cases hy
       refine ⟨b3,0,[.int .i64 4,.int .i64 0,.int .i64 0],rfl,lt_of_block h3,fun r u hu=>?_,rfl,by simp⟩
       match r,hu with
       | 0,hu=>cases hu;exact cell_of h3 rfl
       | 1,hu=>cases hu;exact cell_of h3 rfl
       | 2,hu=>cases hu;exact cell_of h3 rfl
      | 2,hy =>
       cases hy
       refine ⟨b3,0,[.int .i64 28,.int .i64 0,.int .i64 0],rfl,lt_of_block h3,fun r u hu=>?_,rfl,by simp⟩
       match r,hu with
       | 0,hu=>cases hu;exact cell_of h3 rfl
       | 1,hu=>cases hu;exact cell_of h3 rfl
       | 2,hu=>cases hu;exact cell_of h3 rfl
set_option maxRecDepth 100000 in
set_option maxHeartbeats 1000000 in
theorem awake19_any (w:World) (hT:Tb w):Calls Tryd.prog 7 #[] w fun e w'=>e=.returned (.bool true)∧Below w.heap.size w w':=by
 have hw0:0<w.heap.size:=World.block_lt_of_cell? w ⟨0,0,none⟩ (hT 0 (by decide))
 obtain ⟨W1,hW1⟩ : ∃ W1,(((((w.alloc (.cells #[.int .i64 0,.int .i64 2] 3)).alloc (.cells #[.slice (some ⟨w.heap.size,0,none⟩) 2 2] 39)).alloc (.cells #[.int .i64 2] 3)).alloc (.cells #[.int .i64 11,.int .i64 0,.int .i64 0,.int .i64 4,.int .i64 0,.int .i64 0,.int .i64 28,.int .i64 0,.int .i64 0] 47)).alloc (.cells #[.int .i64 0,.slice (some ⟨w.heap.size+1+1,0,none⟩) 1 1,.slice none 0 0,.slice none 0 0,.slice (some ⟨w.heap.size+1+1+1,0,none⟩) 3 3] 50)).alloc (.cells #[.slice (some ⟨w.heap.size+1,0,none⟩) 1 1,.slice (some ⟨w.heap.size+1+1+1+1,0,none⟩) 1 1,.slice none 0 0,.slice none 0 0] 27)=W1:=⟨_,rfl⟩
 have z1:W1.heap.size=w.heap.size+6:=by rw [← hW1];simp
 have b1:Below w.heap.size w W1:=by rw [← hW1];exact ((((((Below.refl _ _).alloc (Nat.le_refl _) _).alloc (by simp) _).alloc (by simp <;> omega) _).alloc (by simp <;> omega) _).alloc (by simp <;> omega) _).alloc (by simp <;> omega) _
 have g0:W1.heap[w.heap.size]?=some (.cells (ivs [0,2]).toArray 3 (0,0)):=by rw [← hW1,Below.heap_alloc _ _ _ (by simp <;> omega),Below.heap_alloc _ _ _ (by simp <;> omega),Below.heap_alloc _ _ _ (by simp <;> omega),Below.heap_alloc _ _ _ (by simp <;> omega),Below.heap_alloc _ _ _ (by simp)];exact heap_new _ _ rfl
 have g1:W1.heap[w.heap.size+1]?=some (.cells #[.slice (some ⟨w.heap.size,0,none⟩) 2 2] 39 (0,0)):=by rw [← hW1,Below.heap_alloc _ _ _ (by simp <;> omega),Below.heap_alloc _ _ _ (by simp <;> omega),Below.heap_alloc _ _ _ (by simp <;> omega),Below.heap_alloc _ _ _ (by simp)];exact heap_new _ _ (by simp)
 have g2:W1.heap[w.heap.size+1+1]?=some (.cells (ivs [2]).toArray 3 (0,0)):=by rw [← hW1,Below.heap_alloc _ _ _ (by simp <;> omega),Below.heap_alloc _ _ _ (by simp <;> omega),Below.heap_alloc _ _ _ (by simp)];exact heap_new _ _ (by simp)
 have g3:W1.heap[w.heap.size+1+1+1]?=some (.cells #[.int .i64 11,.int .i64 0,.int .i64 0,.int .i64 4,.int .i64 0,.int .i64 0,.int .i64 28,.int .i64 0,.int .i64 0] 47 (0,0)):=by rw [← hW1,Below.heap_alloc _ _ _ (by simp <;> omega),Below.heap_alloc _ _ _ (by simp)];exact heap_new _ _ (by simp)
 have g4:W1.heap[w.heap.size+1+1+1+1]?=some (.cells #[.int .i64 0,.slice (some ⟨w.heap.size+1+1,0,none⟩) 1 1,.slice none 0 0,.slice none 0 0,.slice (some ⟨w.heap.size+1+1+1,0,none⟩) 3 3] 50 (0,0)):=by rw [← hW1,Below.heap_alloc _ _ _ (by simp)];exact heap_new _ _ (by simp)
 have g5:W1.heap[w.heap.size+1+1+1+1+1]?=some (.cells #[.slice (some ⟨w.heap.size+1,0,none⟩) 1 1,.slice (some ⟨w.heap.size+1+1+1+1,0,none⟩) 1 1,.slice none 0 0,.slice none 0 0] 27 (0,0)):=by rw [← hW1];exact heap_new _ _ (by simp)
 have HPG:=hide (show ∀ W:World,Below W1.heap.size W1 W→PgAt W.heap.size W (.slice (some ⟨w.heap.size+1,0,none⟩) 1 1) (.slice (some ⟨w.heap.size+1+1+1+1,0,none⟩) 1 1) (.slice none 0 0) (.slice none 0 0) awP19 from fun W h=>aw19_pg ((h.block _ (lt_of_block g0)).trans g0) ((h.block _ (lt_of_block g1)).trans g1) ((h.block _ (lt_of_block g2)).trans g2) ((h.block _ (lt_of_block g3)).trans g3) ((h.block _ (lt_of_block g4)).trans g4))
 have HTB:=hide (show ∀ W:World,Below W1.heap.size W1 W→Tb W∧0<W.heap.size from fun W h=>⟨hT.keep ((bel_tr b1 h).block 0 hw0),Nat.lt_of_lt_of_le hw0 (bel_tr b1 h).size⟩)
 have HBX:=hide (show ∀ W:World,Below W1.heap.size W1 W→W.cell? ⟨w.heap.size+1+1+1+1+1,0,none⟩=some (.slice (some ⟨w.heap.size+1,0,none⟩) 1 1)∧W.cell? ⟨w.heap.size+1+1+1+1+1,1,none⟩=some (.slice (some ⟨w.heap.size+1+1+1+1,0,none⟩) 1 1)∧W.cell? ⟨w.heap.size+1+1+1+1+1,2,none⟩=some (.slice none 0 0)∧W.cell? ⟨w.heap.size+1+1+1+1+1,3,none⟩=some (.slice none 0 0)∧w.heap.size+1+1+1+1+1<W.heap.size from fun W h=>by
  have h1:=(h.block _ (lt_of_block g5)).trans g5
  exact ⟨cell_of h1 rfl,cell_of h1 rfl,cell_of h1 rfl,cell_of h1 rfl,lt_of_block h1⟩)
 have HOF:=hide (mapsOf_any (HPG.out W1 (Below.refl _ _)) (Nat.le_refl _) (HTB.out W1 (Below.refl _ _)).1 (HTB.out W1 (Below.refl _ _)).2 0)
 have HLA:=hide (fun (W:World) (h:Below W1.heap.size W1 W)=>layout_any (HPG.out W h) (Nat.le_refl _) (HTB.out W h).1 (HTB.out W h).2 0)
 have HB1:=hide b1
 obtain ⟨k0,k1,k2,k3,k4⟩:=HBX.out W1 (Below.refl _ _)
 clear hT hw0 z1 b1 g0 g1 g2 g3 g4 g5
 have HW1:=hide hW1
 clear hW1
 go_enter Tryd.func7,Tryd.ntmps7
 go_upto_region 2 with (fail)
 rw [HW1.out]
 go_wp2_with fail
 refine HOF.out.mono ?_
 rintro e w2 ⟨hb2,(⟨hc,_⟩ | ⟨_,hi,_⟩ | ⟨k,f,F,v,_,hk,hf,hF,rfl,hv⟩)⟩
 · rw [aw19_check] at hc
   exact absurd rfl hc
 · cases hi
 · obtain rfl:k=0:=by omega
   cases hf
   have hs:=aw19_sel
   rw [hF] at hs
   have hs2:selP awF19 F.ah awF19.co.length=[(0,[])]:=hs
   rw [hs2] at hv
   have HB2:=hide hb2
   have HV:=hide hv
   clear hb2 hv hs hs2 hF hk k0 k1 k2 k3 k4 HOF
   obtain ⟨k0,k1,k2,k3,k4⟩:=HBX.out w2 HB2.out
   obtain ⟨la,lc,hlf,hel0⟩:=HV.out
   obtain ⟨g,o,_,_,hla,_⟩:=hel0 0 _ rfl
   have hlf2:v=.slice (some ⟨g,o,none⟩) 1 lc:=by rw [← hla];exact hlf
   clear hlf hla hel0
   subst hlf2
   go_wp2_with fail
   refine (HLA.out _ HB2.out).mono ?_
   rintro e w3 ⟨hb3,(⟨hc,_⟩ | ⟨_,hi,_⟩ | ⟨k,l,v,_,hk,hl,rfl,hv⟩)⟩
   · rw [aw19_check] at hc
     exact absurd rfl hc
   · cases hi
   · obtain rfl:k=0:=by omega
     cases hl
     have hM:=HV.out.below hb3
     obtain ⟨ao,cap,hlf,hel⟩:=hM
     cases hlf
     obtain ⟨_,_,u1,u2,hgo,hg,_,c1,c2,h1,h2⟩:=hel 0 _ rfl
     cases hgo
     obtain ⟨x1,q1,rfl,e1⟩:=h1
     obtain ⟨x2,q2,rfl,e2⟩:=h2
     obtain ⟨p1,o1,rfl,hp1,f1⟩:=e1 0 true rfl
     obtain ⟨x3,q3,rfl,e3⟩:=hv
     obtain ⟨p3,o3,rfl,hp3,f3⟩:=e3 0 false rfl
     obtain ⟨p4,o4,hx4,_,f4⟩:=e3 1 true rfl
     cases hx4
     have HB3:=hide (bel_tr HB1.out (bel_tr HB2.out hb3))
     rw [Nat.zero_mul,Nat.add_zero] at c1 c2
     rw [Nat.add_zero] at f1 f3
     clear hb3 hel e1 e2 e3 hk
     go_wp2
     go_ret
     exact ⟨rfl,HB3.out⟩
end
end Go.Proofs.YtkdojpnihinpbaaDoor

namespace Go.Proofs.YtkdojpnihinpbaaDoor
open Go.RowKit
def FnR (p:Pg) (W:World) (a:Value) (wr:World):Prop:=∃ j:Nat,a=.int .i64 j∧j≤p.fu.length∧funcsP p 0 p.fu=funcsP p j (p.fu.drop j)∧Below W.heap.size W wr
section
variable {B:Nat} {w:World} {p:Pg}
set_option maxRecDepth 100000 in
set_option maxHeartbeats 2000000 in
theorem rcheck_any {v1 v2 v3 v4:Value} (P:PgAt B w v1 v2 v3 v4 p) (hB:B≤w.heap.size):Calls Tryd.prog 6 #[.agg #[v1,v2,v3,v4]] w (CkO p w):=by
 obtain ⟨a1,d1,hv1⟩:=sl_form P.ty
 obtain ⟨a2,d2,hv2⟩:=sl_form P.fu
 obtain ⟨a3,d3,hv3⟩:=sl_form P.ta
 obtain ⟨a4,d4,hv4⟩:=sl_form P.st
 subst hv1 hv2 hv3 hv4
 obtain ⟨W1,hW1⟩ : ∃ W1,w.alloc (.cells #[.slice a1 p.ty.length d1,.slice a2 p.fu.length d2,.slice a3 p.ta.length d3,.slice a4 p.st.length d4] 27)=W1:=⟨_,rfl⟩
 have b1:Below w.heap.size w W1:=by rw [← hW1];exact (Below.refl _ _).alloc (Nat.le_refl _) _
 have e1:W1.heap[w.heap.size]?=some (.cells #[.slice a1 p.ty.length d1,.slice a2 p.fu.length d2,.slice a3 p.ta.length d3,.slice a4 p.st.length d4] 27 (0,0)):=by rw [← hW1];exact heap_new _ _ rfl
 have HBX:=hide (show ∀ W:World,Below W1.heap.size W1 W→(W.cell? ⟨w.heap.size,0,none⟩=some (.slice a1 p.ty.length d1)∧W.cell? ⟨w.heap.size,1,none⟩=some (.slice a2 p.fu.length d2)∧W.cell? ⟨w.heap.size,2,none⟩=some (.slice a3 p.ta.length d3)∧W.cell? ⟨w.heap.size,3,none⟩=some (.slice a4 p.st.length d4))∧w.heap.size<W.heap.size from fun W h=>by
  have h1:=(h.block _ (lt_of_block e1)).trans e1
  exact ⟨⟨cell_of h1 rfl,cell_of h1 rfl,cell_of h1 rfl,cell_of h1 rfl⟩,lt_of_block h1⟩)
 have HB1:=hide (show ∀ W:World,Below W1.heap.size W1 W→Below w.heap.size w W from fun W h=>b1.trans (h.mono b1.size))
 have HKP:=hide (show ∀ W:World,Below W1.heap.size W1 W→PgAt B W (.slice a1 p.ty.length d1) (.slice a2 p.fu.length d2) (.slice a3 p.ta.length d3) (.slice a4 p.st.length d4) p∧B≤W.heap.size from fun W h=>⟨P.keep (Nat.le_refl _) fun i hi=>((HB1.out W h).block i (Nat.lt_of_lt_of_le hi hB)),Nat.le_trans hB (HB1.out W h).size⟩)
 obtain ⟨⟨k0,k1,k2,k3⟩,k4⟩:=HBX.out W1 (Below.refl _ _)
 have HSO:=hide (gsound_any (HKP.out W1 (Below.refl _ _)).1 (HKP.out W1 (Below.refl _ _)).2)
 clear P hB b1 e1
 obtain ⟨sb,hsb⟩ : ∃ b,sndP p=b:=⟨_,rfl⟩
 rw [hsb] at HSO
 have HSB:=hide hsb
 clear hsb
 go_enter Tryd.func6,Tryd.ntmps6
 go_wp2_with fail
 refine HSO.out.mono ?_
 rintro e w2 ⟨rfl,hb2⟩
 have HB2:=hide hb2
 clear hb2 HSO k0 k1 k2 k3 k4 hW1
 cases sb with
 | false =>
  have HF:=hide (show checkP p=(0,0,2) from by unfold checkP;rw [if_pos HSB.out])
  go_wp2_with fail
  go_ret3
  exact ⟨by rw [HF.out];first | done | rfl,HB1.out _ HB2.out⟩
 | true =>
  obtain ⟨⟨k0,k1,k2,k3⟩,k4⟩:=HBX.out w2 HB2.out
  obtain ⟨⟨l1,l2,l3,l4⟩,t1,t2,t3,t4⟩:=(sndP_iff p).mp HSB.out
  have HHD:=hide (rheads_any (HKP.out w2 HB2.out).1 (HKP.out w2 HB2.out).2 (fun f hf=>by
   obtain ⟨⟨h1,h2,h3,h4,h5,h6⟩,_⟩:=(sndF_iff f).mp (List.all_eq_true.mp t2 f hf)
   exact ⟨h2,h3,h1,h4,h5⟩) (fun t ht=>by have:=List.all_eq_true.mp t3 t ht;simpa [sndL] using this) l1 l2 l3)
  have HN2:=hide l2
  clear l1 l2 l3 l4 t1 t2 t3 t4
  obtain ⟨hp,hhp⟩ : ∃ h,headsP p=h:=⟨_,rfl⟩
  unfold RhO at HHD
  rw [hhp] at HHD
  have HHP:=hide hhp
  clear hhp
  cases hp with
  | some i =>
   have HF:=hide (show checkP p=((i:Int),0,12) from by unfold checkP;rw [if_neg (by rw [HSB.out];simp),HHP.out])
   go_wp2_with fail
   refine HHD.out.mono ?_
   rintro e w3 ⟨rfl,hb3⟩
   have HB3:=hide (bel_tr HB2.out hb3)
   clear hb3 HHD k0 k1 k2 k3 k4
   go_wp2_with fail
   go_ret3
   exact ⟨by rw [HF.out];first | done | rfl,HB1.out _ HB3.out⟩
  | none =>
   have HF:=hide (show checkP p=funcsP p 0 p.fu from by unfold checkP;rw [if_neg (by rw [HSB.out];simp),HHP.out])
   have HOK:=hide (hok_of HSB.out HHP.out)
   go_wp2_with fail
   refine HHD.out.mono ?_
   rintro e w3 ⟨rfl,hb3⟩
   have HB3:=hide (bel_tr HB2.out hb3)
   clear hb3 HHD k0 k1 k2 k3 k4
   obtain ⟨nf,hnf⟩ : ∃ n,p.fu.length=n:=⟨_,rfl⟩
   rw [hnf] at HBX HKP
   have HNF:=hide hnf
   have hn4:nf≤4096:=by rw [← hnf];exact HN2.out
   clear hnf
   go_wp2
   go_loopw [7] (fun a wr=>FnR p W1 a wr) (fun a _=>nf - (intOf a).toNat)
   case atStart=>exact ⟨0,rfl,Nat.zero_le _,rfl,HB3.out⟩
   case round =>
    obtain ⟨j,rfl,hj,hfn,hb⟩:=hrel
    have HFN:=hide hfn
    have HBR:=hide hb
    rw [HNF.out] at hj
    clear hfn hb
    obtain ⟨⟨k0,k1,k2,k3⟩,k4⟩:=HBX.out wr HBR.out
    by_cases hlt:j<nf
    · obtain ⟨f,hf⟩ : ∃ f,p.fu[j]?=some f:=⟨p.fu[j]'(by rw [HNF.out];exact hlt),by simp⟩
      have HLK:=hide (rlook_any (by have h:=(HKP.out wr HBR.out).1;rw [← HNF.out] at h;exact h) (HKP.out wr HBR.out).2 HOK.out hf)
      have HDR:=hide (show p.fu.drop j=f :: p.fu.drop (j+1) from by rw [List.drop_eq_getElem_cons (by rw [HNF.out];exact hlt)];congr 1;exact (List.getElem?_eq_some_iff.mp hf).2)
      rw [HNF.out] at HLK
      have d1:decide (j<nf)=true:=by simpa using hlt
      have dj:(j:Int)≤4096:=by omega
      clear hf
      go_wp2_with fail
      refine HLK.out.mono ?_
      rintro e w4 ⟨hb4,(⟨x,c,cb,sb,L,m,hfo,rfl⟩ | ⟨F,cb,sb,hfo,rfl,_⟩)⟩
      · have HB4:=hide (bel_tr HBR.out hb4)
        have hc0:(c != 0)=true:=by simpa using run_err hfo
        have HE:=hide (show checkP p=((j:Int),(x:Int),c) from by
         rw [HF.out,HFN.out,HDR.out]
         unfold funcsP
         rw [hfo])
        have HAL:=hide (show ∀ o,Below w.heap.size w (w4.alloc o) from fun o=>(HB1.out w4 (bel_tr HBR.out hb4)).alloc (HB1.out w4 (bel_tr HBR.out hb4)).size o)
        clear hb4 hfo HLK k0 k1 k2 k3 k4
        go_wp2_with fail
        go_ret3
        exact ⟨by rw [HE.out];first | done | rfl,HAL.out _⟩
      · have HB4:=hide (bel_tr HBR.out hb4)
        have HN:=hide (show funcsP p 0 p.fu=funcsP p (j+1) (p.fu.drop (j+1)) from by
         rw [HFN.out,HDR.out]
         conv=>lhs;unfold funcsP
         rw [hfo])
        have HAL:=hide (show ∀ o,Below W1.heap.size W1 (w4.alloc o) from fun o=>(bel_tr HBR.out hb4).alloc (bel_tr HBR.out hb4).size o)
        clear hb4 hfo HLK k0 k1 k2 k3 k4
        go_wp2
        go_roundw
        case rel=>exact ⟨j+1,by first | exact num_next hlt (by omega) | go_num,by rw [HNF.out];exact hlt,HN.out,HAL.out _⟩
        case measure=>first | exact meas_int hlt (by omega) | (rw [intOf_int,intOf_int];omega)
    · obtain rfl:nf=j:=by omega
      have d1:decide (nf<nf)=false:=by simp
      have HE:=hide (show checkP p=(0,0,0) from by rw [HF.out,HFN.out,← HNF.out,List.drop_length];rfl)
      go_wp2
      go_ret3
      exact ⟨by rw [HE.out];first | done | rfl,HB1.out _ HBR.out⟩
end
end Go.Proofs.YtkdojpnihinpbaaDoor

namespace Go.Proofs.YtkdojpnihinpbaaDoor
open Go.RowKit
section
variable {B:Nat} {w:World} {p:Pg}
set_option maxRecDepth 100000 in
set_option maxHeartbeats 2000000 in
theorem mapsLayouts_law {v1 v2 v3 v4:Value} (P:PgAt B w v1 v2 v3 v4 p) (hB:B≤w.heap.size) (hT:Tb w) (hb0:0<B) (m:Int):Calls Tryd.prog 3 #[.agg #[v1,v2,v3,v4],.int .i64 m] w fun e w'=>e=.returned (.bool true)∧Below w.heap.size w w':=by
 obtain ⟨a1,d1,hv1⟩:=sl_form P.ty
 obtain ⟨a2,d2,hv2⟩:=sl_form P.fu
 obtain ⟨a3,d3,hv3⟩:=sl_form P.ta
 obtain ⟨a4,d4,hv4⟩:=sl_form P.st
 subst hv1 hv2 hv3 hv4
 obtain ⟨W1,hW1⟩ : ∃ W1,w.alloc (.cells #[.slice a1 p.ty.length d1,.slice a2 p.fu.length d2,.slice a3 p.ta.length d3,.slice a4 p.st.length d4] 27)=W1:=⟨_,rfl⟩
 have b1:Below w.heap.size w W1:=by rw [← hW1];exact (Below.refl _ _).alloc (Nat.le_refl _) _
 have e1:W1.heap[w.heap.size]?=some (.cells #[.slice a1 p.ty.length d1,.slice a2 p.fu.length d2,.slice a3 p.ta.length d3,.slice a4 p.st.length d4] 27 (0,0)):=by rw [← hW1];exact heap_new _ _ rfl
 have HKP:=hide (show ∀ W:World,Below W1.heap.size W1 W→PgAt B W (.slice a1 p.ty.length d1) (.slice a2 p.fu.length d2) (.slice a3 p.ta.length d3) (.slice a4 p.st.length d4) p∧B≤W.heap.size∧Tb W from fun W h=>⟨P.keep (Nat.le_refl _) (fun j hj=>(bel_tr b1 h).block j (Nat.lt_of_lt_of_le hj hB)),Nat.le_trans hB (bel_tr b1 h).size,hT.keep ((bel_tr b1 h).block 0 (Nat.lt_of_lt_of_le hb0 hB))⟩)
 have HBX:=hide (show ∀ W:World,Below W1.heap.size W1 W→(W.cell? ⟨w.heap.size,0,none⟩=some (.slice a1 p.ty.length d1)∧W.cell? ⟨w.heap.size,1,none⟩=some (.slice a2 p.fu.length d2)∧W.cell? ⟨w.heap.size,2,none⟩=some (.slice a3 p.ta.length d3)∧W.cell? ⟨w.heap.size,3,none⟩=some (.slice a4 p.st.length d4))∧w.heap.size<W.heap.size from fun W h=>by
  have h1:=(h.block _ (lt_of_block e1)).trans e1
  exact ⟨⟨cell_of h1 rfl,cell_of h1 rfl,cell_of h1 rfl,cell_of h1 rfl⟩,lt_of_block h1⟩)
 have HLO:=hide (layout_any (HKP.out W1 (Below.refl _ _)).1 (HKP.out W1 (Below.refl _ _)).2.1 (HKP.out W1 (Below.refl _ _)).2.2 hb0 m)
 have HRC:=hide (fun (W:World) (h:Below W1.heap.size W1 W)=>rcheck_any (HKP.out W h).1 (HKP.out W h).2.1)
 have HAW:=hide (fun (W:World) (h:Below W1.heap.size W1 W)=>awake19_any W (HKP.out W h).2.2)
 have HB1:=hide (show ∀ W:World,Below W1.heap.size W1 W→Below w.heap.size w W from fun W h=>bel_tr b1 h)
 have HNT:=hide (show (checkP p).2.2=0→p.ty.length≤1024∧∀ l∈p.ty,l.length≤4096 from fun h=>by
  obtain ⟨_,o1,o2,_⟩:=check_ok h
  have H:=hok_of o1 o2
  exact ⟨H.nt,fun l hl=>(H.ty l hl).2.1⟩)
 obtain ⟨⟨k0,k1,k2,k3⟩,k4⟩:=HBX.out W1 (Below.refl _ _)
 clear P hB hT b1 e1
 unfold CkO at HRC
 obtain ⟨q1,hq1⟩ : ∃ c,(checkP p).1=c:=⟨_,rfl⟩
 obtain ⟨q2,hq2⟩ : ∃ c,(checkP p).2.1=c:=⟨_,rfl⟩
 rw [hq1,hq2] at HRC
 clear hq1 hq2
 go_enter Tryd.func3,Tryd.ntmps3
 go_wp2_with fail
 refine HLO.out.mono ?_
 rintro e w2 ⟨hb2,(⟨hc,rfl⟩ | ⟨hc,hi,rfl⟩ | ⟨k,l,v,hc,hm,hl,rfl,hv⟩)⟩
 · have HB2:=hide (show Below W1.heap.size W1 w2 from hb2)
   clear hb2 k0 k1 k2 k3 k4 HLO
   obtain ⟨⟨k0,k1,k2,k3⟩,k4⟩:=HBX.out w2 HB2.out
   obtain ⟨ce,hce⟩ : ∃ c,(checkP p).2.2=c:=⟨_,rfl⟩
   rw [hce] at hc HRC ⊢
   clear hce HNT
   have q0:(ce != 0)=true:=by simpa using hc
   have q3:(ce == 0)=false:=by simpa using hc
   have q4:(ce != ce)=false:=by simp
   clear hc
   go_wp2_with fail
   refine (HRC.out w2 HB2.out).mono ?_
   rintro e w3 ⟨rfl,hb3⟩
   have HB3:=hide (bel_tr HB2.out hb3)
   clear hb3 k0 k1 k2 k3 k4
   go_wp2_with fail
   refine (HAW.out w3 HB3.out).mono ?_
   rintro e w4 ⟨rfl,hb4⟩
   have HB4:=hide (bel_tr HB3.out hb4)
   clear hb4
   go_wp2
   go_ret
   exact ⟨rfl,HB1.out w4 HB4.out⟩
 · have HB2:=hide (show Below W1.heap.size W1 w2 from hb2)
   clear hb2 k0 k1 k2 k3 k4 HLO
   obtain ⟨⟨k0,k1,k2,k3⟩,k4⟩:=HBX.out w2 HB2.out
   have hnt:=(HNT.out hc).1
   rw [hc] at HRC
   clear hc HNT
   have hn3:(p.ty.length:Int)≤1024:=by omega
   have h3:m<0∨(p.ty.length:Int)≤m:=by
    have h:=of_decide_eq_false hi
    omega
   clear hi hnt
   go_wp2_with fail
   refine (HRC.out w2 HB2.out).mono ?_
   rintro e w3 ⟨rfl,hb3⟩
   have HB3:=hide (bel_tr HB2.out hb3)
   clear hb3 k0 k1 k2 k3 k4
   obtain ⟨⟨k0,k1,k2,k3⟩,k4⟩:=HBX.out w3 HB3.out
   by_cases hm0:m<0
   · have d1:decide (m<0)=true:=by simpa using hm0
     clear h3
     go_wp2_with fail
     refine (HAW.out w3 HB3.out).mono ?_
     rintro e w4 ⟨rfl,hb4⟩
     have HB4:=hide (bel_tr HB3.out hb4)
     clear hb4
     go_wp2
     go_ret
     exact ⟨rfl,HB1.out w4 HB4.out⟩
   · have d1:decide (m<0)=false:=by simpa using hm0
     have d2:decide ((p.ty.length:Int)≤m)=true:=by simp;omega
     clear h3
     go_wp2_with fail
     refine (HAW.out w3 HB3.out).mono ?_
     rintro e w4 ⟨rfl,hb4⟩
     have HB4:=hide (bel_tr HB3.out hb4)
     clear hb4
     go_wp2
     go_ret
     exact ⟨rfl,HB1.out w4 HB4.out⟩
 · subst hm
   have HB2:=hide (show Below W1.heap.size W1 w2 from hb2)
   have HV:=hide hv
   have HL:=hide hl
   clear hb2 k0 k1 k2 k3 k4 HLO
   obtain ⟨⟨k0,k1,k2,k3⟩,k4⟩:=HBX.out w2 HB2.out
   obtain ⟨hnt,hfl⟩:=HNT.out hc
   have hll:l.length≤4096:=hfl l (List.mem_of_getElem? hl)
   have hkl:=get_lt hl
   rw [hc] at HRC
   obtain ⟨va,vc,hvf⟩:=hv.form
   subst hvf
   rw [nzs_len] at HV ⊢
   clear hc HNT hfl hv hl
   have hn3:(p.ty.length:Int)≤1024:=by omega
   have d0:decide (k<p.ty.length)=true:=by simpa using hkl
   have d1:decide ((p.ty.length:Int)≤(k:Int))=false:=by simp;omega
   have d2:decide ((k:Int)<0)=false:=by simp
   go_wp2_with fail
   refine (HRC.out w2 HB2.out).mono ?_
   rintro e w3 ⟨rfl,hb3⟩
   have HB3:=hide (bel_tr HB2.out hb3)
   have HV3:=hide (HV.out.below hb3)
   clear hb3 k0 k1 k2 k3 k4
   obtain ⟨⟨k0,k1,k2,k3⟩,k4⟩:=HBX.out w3 HB3.out
   go_wp2_with fail
   refine (HAW.out w3 HB3.out).mono ?_
   rintro e w4 ⟨rfl,hb4⟩
   have HB4:=hide (bel_tr HB3.out hb4)
   have HV4:=hide (HV3.out.below hb4)
   clear hb4 k0 k1 k2 k3 k4
   obtain ⟨⟨k0,k1,k2,k3⟩,k4⟩:=HBX.out w4 HB4.out
   obtain ⟨g,o,c,n,u,hv,_,_,hg,hcu,hul⟩:=lst_at (HKP.out w4 HB4.out).1.ty HL.out
   cases hv
   have hgw:g<w4.heap.size:=Nat.lt_of_lt_of_le hg (HKP.out w4 HB4.out).2.1
   have HBT:=hide (bits_any (w:=w4) (is_of_sl hul (HKP.out w4 HB4.out).2.1 (fun _ _ h=>h)) (by omega))
   obtain ⟨ua,uc,rfl⟩:=sl_form hul
   clear hul hg
   go_wp2_with fail
   refine HBT.out.mono ?_
   rintro e w5 ⟨bu,rfl,hbu,hb5⟩
   have HSB:=hide (sameBits_any (HV4.out.below hb5) hbu (by rw [nzs_len];omega))
   have HB5:=hide (bel_tr HB4.out hb5)
   obtain ⟨p5,r5,rfl⟩:=hbu.form
   clear hb5 hbu
   go_wp2_with fail
   refine HSB.out.mono ?_
   rintro e w6 ⟨rfl,hb6⟩
   have HB6:=hide (HB1.out w6 (bel_tr HB5.out hb6))
   clear hb6
   go_wp2
   go_ret
   exact ⟨by simp,HB6.out⟩
end
end Go.Proofs.YtkdojpnihinpbaaDoor
