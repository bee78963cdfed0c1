/- Layout; awake: the simplest facts. -/
import Derived.Test.YtkdojpnihinpbaaGreatDoorMpQJo
import Derived.Test.YtkdojpnihinpbaaGreatDoorVfCnJo
namespace Go.Proofs.YtkdojpnihinpbaaGreatDoor
open Go.RowKit
def LaO (p:Pg) (m:Int) (w:World) (e:Ending) (W:World):Prop:=Below w.heap.size w W ∧
  (((checkP p).2.2≠0∧e=.returned (.tuple #[.slice none 0 0,.int .i64 (checkP p).2.2])) ∨
  ((checkP p).2.2=0∧inB m p.ty.length=false∧e=.returned (.tuple #[.slice none 0 0,.int .i64 6])) ∨
  ∃ (k:Nat) (l:List Int) (v:Value),(checkP p).2.2=0∧m=(k:Int)∧p.ty[k]?=some l∧e=.returned (.tuple #[v,.int .i64 0])∧BsAt W v (nzs l))
section
variable {B:Nat} {w:World} {p:Pg}
set_option maxRecDepth 100000 in
set_option maxHeartbeats 1000000 in
theorem layout_any {v1 v2 v3 v4:Value} (P:PgAt B w v1 v2 v3 v4 p) (hB:B≤w.heap.size) (hT:Tb w) (hb0:0<B) (m:Int):Calls Tryz.prog 16 #[.agg #[v1,v2,v3,v4],.int .i64 m] w (LaO p m w):=by
 obtain ⟨a1,d1,hv1⟩:=sl_form P.ty
 obtain ⟨a2,d2,hv2⟩:=sl_form P.fu
 obtain ⟨a3,d3,hv3⟩:=sl_form P.ta
 obtain ⟨a4,d4,hv4⟩:=sl_form P.st
 subst hv1 hv2 hv3 hv4
 obtain ⟨W1,hW1⟩ : ∃ W1,w.alloc (.cells #[.slice a1 p.ty.length d1,.slice a2 p.fu.length d2,.slice a3 p.ta.length d3,.slice a4 p.st.length d4] 27)=W1:=⟨_,rfl⟩
 have b1:Below w.heap.size w W1:=by rw [← hW1];exact (Below.refl _ _).alloc (Nat.le_refl _) _
 have e1:W1.heap[w.heap.size]?=some (.cells #[.slice a1 p.ty.length d1,.slice a2 p.fu.length d2,.slice a3 p.ta.length d3,.slice a4 p.st.length d4] 27 (0,0)):=by rw [← hW1];exact heap_new _ _ rfl
 have HPW:=hide (show ∀ W:World,Below W1.heap.size W1 W→PgAt B W (.slice a1 p.ty.length d1) (.slice a2 p.fu.length d2) (.slice a3 p.ta.length d3) (.slice a4 p.st.length d4) p∧B≤W.heap.size from fun W h=>⟨P.keep (Nat.le_refl _) (fun j hj=>(bel_tr b1 h).block j (Nat.lt_of_lt_of_le hj hB)),Nat.le_trans hB (bel_tr b1 h).size⟩)
 have HPB:=hide (show ∀ W:World,Below W1.heap.size W1 W→W.cell? ⟨w.heap.size,0,none⟩=some (.slice a1 p.ty.length d1)∧w.heap.size<W.heap.size from fun W h=>⟨cell_of ((h.block _ (lt_of_block e1)).trans e1) rfl,Nat.lt_of_lt_of_le (lt_of_block e1) h.size⟩)
 have HCK:=hide (check_any (HPW.out W1 (Below.refl _ _)).1 (HPW.out W1 (Below.refl _ _)).2 (hT.keep (b1.block 0 (Nat.lt_of_lt_of_le hb0 hB))) hb0)
 have HB1:=hide b1
 have k0:W1.cell? ⟨w.heap.size,0,none⟩=some (.slice a1 p.ty.length d1):=cell_of e1 rfl
 have k1:W1.cell? ⟨w.heap.size,1,none⟩=some (.slice a2 p.fu.length d2):=cell_of e1 rfl
 have k2:W1.cell? ⟨w.heap.size,2,none⟩=some (.slice a3 p.ta.length d3):=cell_of e1 rfl
 have k3:W1.cell? ⟨w.heap.size,3,none⟩=some (.slice a4 p.st.length d4):=cell_of e1 rfl
 have HOK:=hide (show (checkP p).2.2=0→p.ty.length≤1024∧∀ l∈p.ty,l.length≤4096 from fun h=>by
  obtain ⟨_,o1,o2,_⟩:=check_ok h
  have H:=hok_of o1 o2
  exact ⟨H.nt,fun l hl=>(H.ty l hl).2.1⟩)
 clear P hB hT b1 e1
 go_enter Tryz.func16,Tryz.ntmps16
 go_wp2_with fail
 refine HCK.out.mono ?_
 rintro e w2 ⟨rfl,hb2⟩
 have HB2:=hide (show Below W1.heap.size W1 w2 from hb2)
 obtain ⟨j0,hpw⟩:=HPB.out w2 hb2
 clear hb2 k0 k1 k2 k3 HCK
 obtain ⟨q1,hq1⟩ : ∃ c,(checkP p).1=c:=⟨_,rfl⟩
 obtain ⟨q2,hq2⟩ : ∃ c,(checkP p).2.1=c:=⟨_,rfl⟩
 obtain ⟨ce,hce⟩ : ∃ c,(checkP p).2.2=c:=⟨_,rfl⟩
 rw [hq1,hq2,hce]
 rw [hce] at HOK
 have HCE:=hide hce
 clear hq1 hq2 hce
 by_cases hc:ce=0
 · have HCZ:=hide (show (checkP p).2.2=0 from by rw [HCE.out];exact hc)
   obtain ⟨hnt,hfl⟩:=HOK.out hc
   have HFL:=hide hfl
   clear hfl
   subst hc
   have hn3:(p.ty.length:Int)≤1024:=by omega
   by_cases hi:inB m p.ty.length=true
   · obtain ⟨k,rfl,hk⟩:=in_nat hi
     obtain ⟨l,hl⟩ : ∃ l,p.ty[k]?=some l:=⟨p.ty[k],by simp⟩
     obtain ⟨g,o,c,n,u,hv,hn,hlt,hg,hcu,hul⟩:=lst_at (HPW.out w2 HB2.out).1.ty hl
     cases hv
     have hgw:g<w2.heap.size:=Nat.lt_of_lt_of_le hg (HPW.out w2 HB2.out).2
     have HPT:=hide (pointers_any (w:=w2) (is_of_sl hul (HPW.out w2 HB2.out).2 (fun _ _ h=>h)) (by have:=HFL.out l (List.mem_of_getElem? hl);omega))
     obtain ⟨ua,uc,rfl⟩:=sl_form hul
     have HF:=hide (show ∀ (W:World) (v:Value),Below w.heap.size w W→BsAt W v (nzs l)→LaO p (k:Int) w (.returned (.tuple #[v,.int .i64 0])) W from fun W v h hv=>⟨h,.inr (.inr ⟨k,l,v,HCZ.out,rfl,hl,rfl,hv⟩)⟩)
     have d0:decide (k<p.ty.length)=true:=by simpa using hk
     have d1:decide ((p.ty.length:Int)≤(k:Int))=false:=by simp;omega
     have d2:decide ((k:Int)<0)=false:=by simp
     clear hi hl hul hn hg
     go_wp2_with fail
     refine HPT.out.mono ?_
     rintro e w3 ⟨rfl,h3,hb3⟩
     have HE:=hide (HF.out w3 _ (bel_tr (bel_tr HB1.out HB2.out) hb3) (by have:=BsAt.block h3;rwa [nzs_len] at this))
     clear h3 hb3
     go_wp2
     go_ret2
     exact HE.out
   · have hi2:inB m p.ty.length=false:=by simpa using hi
     have HE:=hide (show LaO p m w (.returned (.tuple #[.slice none 0 0,.int .i64 6])) w2 from ⟨bel_tr HB1.out HB2.out,.inr (.inl ⟨HCZ.out,hi2,rfl⟩)⟩)
     have h3:m<0∨(p.ty.length:Int)≤m:=by
      have h:=of_decide_eq_false hi2
      omega
     clear hi hi2
     by_cases hm0:m<0
     · have d1:decide (m<0)=true:=by simpa using hm0
       clear h3
       go_wp2
       go_ret2
       exact HE.out
     · have d1:decide (m<0)=false:=by simpa using hm0
       have d2:decide ((p.ty.length:Int)≤m)=true:=by simp;omega
       clear h3
       go_wp2
       go_ret2
       exact HE.out
 · have q0:(ce != 0)=true:=by simpa using hc
   have HE:=hide (show LaO p m w (.returned (.tuple #[.slice none 0 0,.int .i64 ce])) w2 from ⟨bel_tr HB1.out HB2.out,.inl ⟨by rw [HCE.out];exact hc,by rw [HCE.out]⟩⟩)
   clear hc
   go_wp2
   go_ret2
   exact HE.out
end
end Go.Proofs.YtkdojpnihinpbaaGreatDoor

namespace Go.Proofs.YtkdojpnihinpbaaGreatDoor
open Go.RowKit
def awF19:Fd:=⟨0,[2],[],[],[⟨11,0,0⟩,⟨4,0,0⟩,⟨28,0,0⟩]⟩
def awP19:Pg:=⟨[[0,2]],[awF19],[],[]⟩
theorem aw19_check:checkP awP19=(0,0,0):=by decide +kernel
theorem aw19_sel:(match followP awP19 awF19 with | .ok F=>selP awF19 F.ah 3 | .error _=>[])=[(0,[])]:=by decide +kernel
section
variable {w:World}
theorem aw19_pg {W:World} {b0 b1 b2 b3 b4:Nat} (h0:W.heap[b0]?=some (.cells (ivs [0,2]).toArray 3 (0,0))) (h1:W.heap[b1]?=some (.cells #[.slice (some ⟨b0,0,none⟩) 2 2] 59 (0,0))) (h2:W.heap[b2]?=some (.cells (ivs [2]).toArray 3 (0,0))) (h3:W.heap[b3]?=some (.cells #[.int .i64 11,.int .i64 0,.int .i64 0,.int .i64 4,.int .i64 0,.int .i64 0,.int .i64 28,.int .i64 0,.int .i64 0] 46 (0,0))) (h4:W.heap[b4]?=some (.cells #[.int .i64 0,.slice (some ⟨b2,0,none⟩) 1 1,.slice none 0 0,.slice none 0 0,.slice (some ⟨b3,0,none⟩) 3 3] 40 (0,0))):PgAt W.heap.size W (.slice (some ⟨b1,0,none⟩) 1 1) (.slice (some ⟨b4,0,none⟩) 1 1) (.slice none 0 0) (.slice none 0 0) awP19:=by
 have r0:=ints_block h0 (by simp) (by simp)
 have r2:=ints_block h2 (by simp) (by simp)
 refine ⟨⟨some ⟨b1,0,none⟩,1,rfl,⟨by simp [awP19],by simp [awP19],by unfold maxLen;omega⟩,fun j x hx=>?_⟩,⟨some ⟨b4,0,none⟩,1,rfl,⟨by simp [awP19],by simp [awP19],by unfold maxLen;omega⟩,fun j x hx=>?_⟩,sl_nil,sl_nil⟩
 · match j,hx with
   | 0,hx =>
    cases hx
    refine ⟨b1,0,[.slice (some ⟨b0,0,none⟩) 2 2],rfl,lt_of_block h1,fun r u hu=>?_,_,rfl,r0⟩
    rw [Nat.zero_mul,Nat.add_zero,Nat.zero_add]
    exact cell_of h1 (by simpa using hu)
 · match j,hx with
   | 0,hx =>
    cases hx
    refine ⟨b4,0,[.int .i64 0,.slice (some ⟨b2,0,none⟩) 1 1,.slice none 0 0,.slice none 0 0,.slice (some ⟨b3,0,none⟩) 3 3],rfl,lt_of_block h4,fun r u hu=>?_,_,_,_,_,rfl,by simp [awF19],r2,sl_nil,sl_nil,⟨some ⟨b3,0,none⟩,3,rfl,⟨by simp [awF19],by simp [awF19],by unfold maxLen;omega⟩,fun j y hy=>?_⟩⟩
    · rw [Nat.zero_mul,Nat.add_zero,Nat.zero_add]
      exact cell_of h4 (by simpa using hu)
    · match j,hy with
      | 0,hy =>
       cases hy
       refine ⟨b3,0,[.int .i64 11,.int .i64 0,.int .i64 0],rfl,lt_of_block h3,fun r u hu=>?_,rfl,by simp⟩
       match r,hu with
       | 0,hu=>cases hu;exact cell_of h3 rfl
       | 1,hu=>cases hu;exact cell_of h3 rfl
       | 2,hu=>cases hu;exact cell_of h3 rfl
      | 1,hy =>
       cases hy
       refine ⟨b3,0,[.int .i64 4,.int .i64 0,.int .i64 0],rfl,lt_of_block h3,fun r u hu=>?_,rfl,by simp⟩
       match r,hu with
       | 0,hu=>cases hu;exact cell_of h3 rfl
       | 1,hu=>cases hu;exact cell_of h3 rfl
       | 2,hu=>cases hu;exact cell_of h3 rfl
      | 2,hy =>
       cases hy
       refine ⟨b3,0,[.int .i64 28,.int .i64 0,.int .i64 0],rfl,lt_of_block h3,fun r u hu=>?_,rfl,by simp⟩
       match r,hu with
       | 0,hu=>cases hu;exact cell_of h3 rfl
       | 1,hu=>cases hu;exact cell_of h3 rfl
       | 2,hu=>cases hu;exact cell_of h3 rfl
set_option maxRecDepth 100000 in
set_option maxHeartbeats 1000000 in
theorem awake19_any (w:World) (hT:Tb w):Calls Tryz.prog 6 #[] w fun e w'=>e=.returned (.bool true)∧Below w.heap.size w w':=by
 have hw0:0<w.heap.size:=World.block_lt_of_cell? w ⟨0,0,none⟩ (hT 0 (by decide))
 obtain ⟨W1,hW1⟩ : ∃ W1,(((((w.alloc (.cells #[.int .i64 0,.int .i64 2] 3)).alloc (.cells #[.slice (some ⟨w.heap.size,0,none⟩) 2 2] 59)).alloc (.cells #[.int .i64 2] 3)).alloc (.cells #[.int .i64 11,.int .i64 0,.int .i64 0,.int .i64 4,.int .i64 0,.int .i64 0,.int .i64 28,.int .i64 0,.int .i64 0] 46)).alloc (.cells #[.int .i64 0,.slice (some ⟨w.heap.size+1+1,0,none⟩) 1 1,.slice none 0 0,.slice none 0 0,.slice (some ⟨w.heap.size+1+1+1,0,none⟩) 3 3] 40)).alloc (.cells #[.slice (some ⟨w.heap.size+1,0,none⟩) 1 1,.slice (some ⟨w.heap.size+1+1+1+1,0,none⟩) 1 1,.slice none 0 0,.slice none 0 0] 27)=W1:=⟨_,rfl⟩
 have z1:W1.heap.size=w.heap.size+6:=by rw [← hW1];simp
 have b1:Below w.heap.size w W1:=by rw [← hW1];exact ((((((Below.refl _ _).alloc (Nat.le_refl _) _).alloc (by simp) _).alloc (by simp <;> omega) _).alloc (by simp <;> omega) _).alloc (by simp <;> omega) _).alloc (by simp <;> omega) _
 have g0:W1.heap[w.heap.size]?=some (.cells (ivs [0,2]).toArray 3 (0,0)):=by rw [← hW1,Below.heap_alloc _ _ _ (by simp <;> omega),Below.heap_alloc _ _ _ (by simp <;> omega),Below.heap_alloc _ _ _ (by simp <;> omega),Below.heap_alloc _ _ _ (by simp <;> omega),Below.heap_alloc _ _ _ (by simp)];exact heap_new _ _ rfl
 have g1:W1.heap[w.heap.size+1]?=some (.cells #[.slice (some ⟨w.heap.size,0,none⟩) 2 2] 59 (0,0)):=by rw [← hW1,Below.heap_alloc _ _ _ (by simp <;> omega),Below.heap_alloc _ _ _ (by simp <;> omega),Below.heap_alloc _ _ _ (by simp <;> omega),Below.heap_alloc _ _ _ (by simp)];exact heap_new _ _ (by simp)
 have g2:W1.heap[w.heap.size+1+1]?=some (.cells (ivs [2]).toArray 3 (0,0)):=by rw [← hW1,Below.heap_alloc _ _ _ (by simp <;> omega),Below.heap_alloc _ _ _ (by simp <;> omega),Below.heap_alloc _ _ _ (by simp)];exact heap_new _ _ (by simp)
 have g3:W1.heap[w.heap.size+1+1+1]?=some (.cells #[.int .i64 11,.int .i64 0,.int .i64 0,.int .i64 4,.int .i64 0,.int .i64 0,.int .i64 28,.int .i64 0,.int .i64 0] 46 (0,0)):=by rw [← hW1,Below.heap_alloc _ _ _ (by simp <;> omega),Below.heap_alloc _ _ _ (by simp)];exact heap_new _ _ (by simp)
 have g4:W1.heap[w.heap.size+1+1+1+1]?=some (.cells #[.int .i64 0,.slice (some ⟨w.heap.size+1+1,0,none⟩) 1 1,.slice none 0 0,.slice none 0 0,.slice (some ⟨w.heap.size+1+1+1,0,none⟩) 3 3] 40 (0,0)):=by rw [← hW1,Below.heap_alloc _ _ _ (by simp)];exact heap_new _ _ (by simp)
 have g5:W1.heap[w.heap.size+1+1+1+1+1]?=some (.cells #[.slice (some ⟨w.heap.size+1,0,none⟩) 1 1,.slice (some ⟨w.heap.size+1+1+1+1,0,none⟩) 1 1,.slice none 0 0,.slice none 0 0] 27 (0,0)):=by rw [← hW1];exact heap_new _ _ (by simp)
 have HPG:=hide (show ∀ W:World,Below W1.heap.size W1 W→PgAt W.heap.size W (.slice (some ⟨w.heap.size+1,0,none⟩) 1 1) (.slice (some ⟨w.heap.size+1+1+1+1,0,none⟩) 1 1) (.slice none 0 0) (.slice none 0 0) awP19 from fun W h=>aw19_pg ((h.block _ (lt_of_block g0)).trans g0) ((h.block _ (lt_of_block g1)).trans g1) ((h.block _ (lt_of_block g2)).trans g2) ((h.block _ (lt_of_block g3)).trans g3) ((h.block _ (lt_of_block g4)).trans g4))
 have HTB:=hide (show ∀ W:World,Below W1.heap.size W1 W→Tb W∧0<W.heap.size from fun W h=>⟨hT.keep ((bel_tr b1 h).block 0 hw0),Nat.lt_of_lt_of_le hw0 (bel_tr b1 h).size⟩)
 have HBX:=hide (show ∀ W:World,Below W1.heap.size W1 W→W.cell? ⟨w.heap.size+1+1+1+1+1,0,none⟩=some (.slice (some ⟨w.heap.size+1,0,none⟩) 1 1)∧W.cell? ⟨w.heap.size+1+1+1+1+1,1,none⟩=some (.slice (some ⟨w.heap.size+1+1+1+1,0,none⟩) 1 1)∧W.cell? ⟨w.heap.size+1+1+1+1+1,2,none⟩=some (.slice none 0 0)∧W.cell? ⟨w.heap.size+1+1+1+1+1,3,none⟩=some (.slice none 0 0)∧w.heap.size+1+1+1+1+1<W.heap.size from fun W h=>by
  have h1:=(h.block _ (lt_of_block g5)).trans g5
  exact ⟨cell_of h1 rfl,cell_of h1 rfl,cell_of h1 rfl,cell_of h1 rfl,lt_of_block h1⟩)
 have HOF:=hide (mapsOf_any (HPG.out W1 (Below.refl _ _)) (Nat.le_refl _) (HTB.out W1 (Below.refl _ _)).1 (HTB.out W1 (Below.refl _ _)).2 0)
 have HLA:=hide (fun (W:World) (h:Below W1.heap.size W1 W)=>layout_any (HPG.out W h) (Nat.le_refl _) (HTB.out W h).1 (HTB.out W h).2 0)
 have HB1:=hide b1
 obtain ⟨k0,k1,k2,k3,k4⟩:=HBX.out W1 (Below.refl _ _)
 clear hT hw0 z1 b1 g0 g1 g2 g3 g4 g5
 have HW1:=hide hW1
 clear hW1
 go_enter Tryz.func6,Tryz.ntmps6
 go_upto_region 2 with (fail)
 rw [HW1.out]
 go_wp2_with fail
 refine HOF.out.mono ?_
 rintro e w2 ⟨hb2,(⟨hc,_⟩ | ⟨_,hi,_⟩ | ⟨k,f,F,v,_,hk,hf,hF,rfl,hv⟩)⟩
 · rw [aw19_check] at hc
   exact absurd rfl hc
 · cases hi
 · obtain rfl:k=0:=by omega
   cases hf
   have hs:=aw19_sel
   rw [hF] at hs
   have hs2:selP awF19 F.ah awF19.co.length=[(0,[])]:=hs
   rw [hs2] at hv
   have HB2:=hide hb2
   have HV:=hide hv
   clear hb2 hv hs hs2 hF hk k0 k1 k2 k3 k4 HOF
   obtain ⟨k0,k1,k2,k3,k4⟩:=HBX.out w2 HB2.out
   obtain ⟨la,lc,hlf,hel0⟩:=HV.out
   obtain ⟨g,o,_,_,hla,_⟩:=hel0 0 _ rfl
   have hlf2:v=.slice (some ⟨g,o,none⟩) 1 lc:=by rw [← hla];exact hlf
   clear hlf hla hel0
   subst hlf2
   go_wp2_with fail
   refine (HLA.out _ HB2.out).mono ?_
   rintro e w3 ⟨hb3,(⟨hc,_⟩ | ⟨_,hi,_⟩ | ⟨k,l,v,_,hk,hl,rfl,hv⟩)⟩
   · rw [aw19_check] at hc
     exact absurd rfl hc
   · cases hi
   · obtain rfl:k=0:=by omega
     cases hl
     have hM:=HV.out.below hb3
     obtain ⟨ao,cap,hlf,hel⟩:=hM
     cases hlf
     obtain ⟨_,_,u1,u2,hgo,hg,_,c1,c2,h1,h2⟩:=hel 0 _ rfl
     cases hgo
     obtain ⟨x1,q1,rfl,e1⟩:=h1
     obtain ⟨x2,q2,rfl,e2⟩:=h2
     obtain ⟨p1,o1,rfl,hp1,f1⟩:=e1 0 true rfl
     obtain ⟨x3,q3,rfl,e3⟩:=hv
     obtain ⟨p3,o3,rfl,hp3,f3⟩:=e3 0 false rfl
     obtain ⟨p4,o4,hx4,_,f4⟩:=e3 1 true rfl
     cases hx4
     have HB3:=hide (bel_tr HB1.out (bel_tr HB2.out hb3))
     rw [Nat.zero_mul,Nat.add_zero] at c1 c2
     rw [Nat.add_zero] at f1 f3
     clear hb3 hel e1 e2 e3 hk
     go_wp2
     go_ret
     exact ⟨rfl,HB3.out⟩
end
end Go.Proofs.YtkdojpnihinpbaaGreatDoor
