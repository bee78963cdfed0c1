/- The document's objects: loads, stores, addresses. -/
import Derived.Test.YtkdojpnihinpbaaDoorVfRgJl
import Derived.Test.YtkdojpnihinpbaaDoorVfCnJl
import Derived.Test.YtkdojpnihinpbaaDoorVfTkJl
namespace Go.Proofs.YtkdojpnihinpbaaDoor
set_option maxRecDepth 100000
set_option maxHeartbeats 1000000
open Go.RowKit
theorem OwI.put2 {C:Nat} {W:World} {v:Value} {l:List Int} {x:Int} (h:OwI C W v l) (hx : -9223372036854775808≤x∧x≤9223372036854775807) (hl:l.length≤300000000) (hC:C≤W.heap.size) :
    ∃ a8 c8 W8,(Builtin.append_ #[37,37] 37 #[v,.slice (some ⟨W.heap.size,0,none⟩) 1 1]).run Tryd.prog (W.alloc (.cells #[.int .i64 x] 3))=.ok (.slice a8 (l.length+1) c8) W8∧OwI C W8 (.slice a8 (l.length+1) c8) (l++[x])∧Below C W W8∧∀ j,j<W.heap.size→v.ownBlock≠some j→W8.heap[j]?=W.heap[j]?:=by
  obtain ⟨i0,hi0,hz0,hz1,hz2⟩:=info_parts info_intD
  have hb:Below W.heap.size W (W.alloc (.cells #[.int .i64 x] 3)):=(Below.refl _ _).alloc (Nat.le_refl _) _
  have h1:=h.up hb
  obtain ⟨v',w',hr,ho,hgr,_,hat⟩:=run_append_own_at (P:=Tryd.prog) (W.alloc (.cells #[.int .i64 x] 3)) C 37 37 3 i0 _ 1 8 Tryd.underlying37 hi0 hz0 hz1 hz2 rfl (by decide) v l.length (ivs l) h1.1 ⟨W.heap.size,0,none⟩ 1 1 [.int .i64 x] (by simp) (World.news_of_block (heap_new W (.cells #[.int .i64 x] 3) rfl)) (by intro u hu;simp at hu;subst hu;rfl) (by unfold maxLen;omega) (by omega) (by have:=hb.size;omega)
  obtain ⟨a',c',rfl⟩:=row_form ho
  have hold:∀ j,j<W.heap.size→v.ownBlock≠some j→w'.heap[j]?=W.heap[j]?:=fun j hj hv=>(hgr.block j (by have:=hb.size;omega) (fun e=>hv e.symm)).trans (hb.block j hj)
  refine ⟨a',c',w',hr,⟨?_,fun y hy=>?_⟩,⟨hgr.os.trans hb.os,hgr.tape.trans hb.tape,hgr.output.trans hb.output,Nat.le_trans hb.size hgr.size,fun j hj=>hold j (by omega) (fun e=>by have:=(own_ge h.1 j e).1;omega)⟩,hold⟩
  · rw [List.length_append,ivs_app]
    exact ho
  · rw [List.mem_append] at hy
    rcases hy with hy | hy
    · exact h.2 y hy
    · simp at hy;subst hy;exact hx
section
variable {B Bs C:Nat} {w:World} {p:Pg} {f:Fd} {a b:Int} {v1 v2 v3 v4 u1 u2 u3 u4 vs vr:Value} {s r:List Int}
theorem ob_14p (P:PgAt B w v1 v2 v3 v4 p) (hB:B≤w.heap.size) (s1:SlAt 1 IntP B w u1 f.lo) (s2:SlAt 1 IntP B w u2 f.re) (s3:SlAt 1 IntP B w u3 f.ar) (Rs:SlAt 1 IntP Bs w vs s) (O:OwI C w vr r) (hsC:Bs≤C) (hC:C≤w.heap.size) (hr:r.length≤300000000) {x:Int} (hs:s=r++[x]) (hkd:Kd x) (hpt:ptrB x=false):Calls Tryd.prog 52 #[.agg #[v1,v2,v3,v4],.agg #[.int .i64 f.pa,u1,u2,u3,u4],.agg #[.int .i64 14,.int .i64 a,.int .i64 b],vs,vr] w (EfNo C 8 w):=by
 obtain ⟨⟨a1,d1,rfl⟩,⟨a2,d2,rfl⟩,⟨a3,d3,rfl⟩,a4,d4,rfl⟩:=fm4 P
 obtain ⟨⟨b1,x1,rfl⟩,⟨b2,x2,rfl⟩,b3,x3,rfl⟩:=fm3 s1 s2 s3
 have R:=Rx.new (i:=⟨14,a,b⟩) (u4:=u4) P hB s1 s2 s3
 dsimp only at R
 obtain ⟨W1,hW1⟩:=exR R
 rw [hW1] at R
 obtain ⟨c00,c01,c02,c03⟩:=R.c0
 obtain ⟨c10,c11,c12,c13⟩:=R.c1
 obtain ⟨c20,c21,c22⟩:=R.c2
 obtain ⟨l0,l1,l2⟩:=R.lt
 dsimp only at c20 c21 c22
 have HR:=hide R
 clear P s1 s2 s3
 have b1:=R.bel
 obtain ⟨sa,ds,hvs⟩:=sl_form Rs
 obtain ⟨ar,dr,hvr⟩:=O.form
 subst hvs hvr
 have Rs1:SlAt 1 IntP Bs W1 (.slice sa s.length ds) s:=ints_keep (Nat.le_refl _) (fun j hj=>b1.block j (by omega)) Rs
 have HO:=hide (O.up b1)
 have HRS:=hide Rs1
 have HWC:=hide (show Below C w W1 from b1.mono hC)
 have hC1:C≤W1.heap.size:=Nat.le_trans hC b1.size
 clear Rs O b1 R
 obtain ⟨L,hL⟩ : ∃ L,s.length=L:=⟨_,rfl⟩
 obtain ⟨q,hq⟩ : ∃ q,L - 1=q:=⟨_,rfl⟩
 have hLr:L=r.length+1:=by rw [← hL,hs];simp
 have hy:s[q]?=some x:=by rw [hs,← hq,hLr,List.getElem?_append_right (by omega)];simp
 obtain ⟨g,o,c,hv,hg,hcy,_,_⟩:=il_at Rs1 hy
 cases hv
 rw [hL] at HRS ⊢
 have hgw:=Nat.lt_of_lt_of_le hg (Nat.le_trans hsC hC1)
 have hql:q<L:=by omega
 have dq:decide (q<L)=true:=by simpa using hql
 have dL:decide (0<L)=true:=by simp;omega
 have dL2:decide ((0:Int)<(L:Int))=true:=by simp;omega
 have hwq:IntKind.i64.wrap ((L:Int) - 1)=(q:Int):=by
  rw [show (L:Int) - 1=(q:Int) by omega]
  exact wrap_nat (by omega)
 have hqr:q=r.length:=by omega
 subst hqr
 clear hLr hy hs hL hq
 have HPT:=hide (rptr_any W1 (k:=x) ⟨by have:=hkd.1;omega,hkd.2⟩)
 rw [hpt] at HPT
 go_enter Tryd.func52,Tryd.ntmps52
 go_wp2_with fail
 refine HPT.out.mono ?_
 rintro e w5 ⟨rfl,hw5⟩
 subst hw5
 go_wp2_with fail
 go_ret2
 exact ⟨HWC.out,rfl⟩
theorem ob_14r (P:PgAt B w v1 v2 v3 v4 p) (hB:B≤w.heap.size) (s1:SlAt 1 IntP B w u1 f.lo) (s2:SlAt 1 IntP B w u2 f.re) (s3:SlAt 1 IntP B w u3 f.ar) (Rs:SlAt 1 IntP Bs w vs s) (O:OwI C w vr r) (hsC:Bs≤C) (hC:C≤w.heap.size) (hr:r.length≤300000000) {x:Int} (hs:s=r++[x]) (hkd:Kd x) (hpt:ptrB x=true) {t:Nat} (hbt:bareK x=2+2*(t:Int)) {l:List Int} (hl:p.ty[t]?=some l) (hty:p.ty.length≤1024) (hin:inB a l.length=false):Calls Tryd.prog 52 #[.agg #[v1,v2,v3,v4],.agg #[.int .i64 f.pa,u1,u2,u3,u4],.agg #[.int .i64 14,.int .i64 a,.int .i64 b],vs,vr] w (EfNo C 11 w):=by
 obtain ⟨⟨a1,d1,rfl⟩,⟨a2,d2,rfl⟩,⟨a3,d3,rfl⟩,a4,d4,rfl⟩:=fm4 P
 obtain ⟨⟨b1,x1,rfl⟩,⟨b2,x2,rfl⟩,b3,x3,rfl⟩:=fm3 s1 s2 s3
 have R:=Rx.new (i:=⟨14,a,b⟩) (u4:=u4) P hB s1 s2 s3
 dsimp only at R
 obtain ⟨W1,hW1⟩:=exR R
 rw [hW1] at R
 obtain ⟨c00,c01,c02,c03⟩:=R.c0
 obtain ⟨c10,c11,c12,c13⟩:=R.c1
 obtain ⟨c20,c21,c22⟩:=R.c2
 obtain ⟨l0,l1,l2⟩:=R.lt
 dsimp only at c20 c21 c22
 have HR:=hide R
 clear P s1 s2 s3
 have b1:=R.bel
 obtain ⟨sa,ds,hvs⟩:=sl_form Rs
 obtain ⟨ar,dr,hvr⟩:=O.form
 subst hvs hvr
 have Rs1:SlAt 1 IntP Bs W1 (.slice sa s.length ds) s:=ints_keep (Nat.le_refl _) (fun j hj=>b1.block j (by omega)) Rs
 have HO:=hide (O.up b1)
 have HRS:=hide Rs1
 have HWC:=hide (show Below C w W1 from b1.mono hC)
 have hC1:C≤W1.heap.size:=Nat.le_trans hC b1.size
 clear Rs O b1 R
 obtain ⟨L,hL⟩ : ∃ L,s.length=L:=⟨_,rfl⟩
 obtain ⟨q,hq⟩ : ∃ q,L - 1=q:=⟨_,rfl⟩
 have hLr:L=r.length+1:=by rw [← hL,hs];simp
 have hy:s[q]?=some x:=by rw [hs,← hq,hLr,List.getElem?_append_right (by omega)];simp
 obtain ⟨g,o,c,hv,hg,hcy,_,_⟩:=il_at Rs1 hy
 cases hv
 rw [hL] at HRS ⊢
 have hgw:=Nat.lt_of_lt_of_le hg (Nat.le_trans hsC hC1)
 have hql:q<L:=by omega
 have dq:decide (q<L)=true:=by simpa using hql
 have dL:decide (0<L)=true:=by simp;omega
 have dL2:decide ((0:Int)<(L:Int))=true:=by simp;omega
 have hwq:IntKind.i64.wrap ((L:Int) - 1)=(q:Int):=by
  rw [show (L:Int) - 1=(q:Int) by omega]
  exact wrap_nat (by omega)
 have hqr:q=r.length:=by omega
 subst hqr
 clear hLr hy hs hL hq
 have HPT:=hide (rptr_any W1 (k:=x) ⟨by have:=hkd.1;omega,hkd.2⟩)
 rw [hpt] at HPT
 have HBA:=hide (rbase_any W1.drew (k:=x) ⟨by have:=hkd.1;omega,hkd.2⟩)
 have htl:t<p.ty.length:=get_lt hl
 obtain ⟨m,hm⟩ : ∃ m:Nat,m=2*t:=⟨_,rfl⟩
 have hbm:bareK x=((m+2:Nat):Int):=by rw [hbt];omega
 rw [hbm] at HBA
 have hwb:IntKind.i64.wrap (((m+2:Nat):Int) - 2)=(m:Int):=by
  rw [show ((m+2:Nat):Int) - 2=(m:Int) by omega]
  exact wrap_nat (by omega)
 have hdv:(m:Int) / 2=(t:Int):=by omega
 have hdv2:m / 2=t:=by omega
 have hwt:IntKind.i64.wrap (t:Int)=(t:Int):=wrap_nat (by omega)
 obtain ⟨g2,o2,c2,nn,u,hv2,hnn,_,hg2,hc2,hsl⟩:=lst_at HR.out.pg.ty hl
 cases hv2
 obtain ⟨ua,uc,hu⟩:=sl_form hsl
 subst hu
 have HSL:=hide hsl
 have hg2w:g2<W1.heap.size:=by have:=HR.out.hB;have:=HR.out.bel.size;omega
 have dt:decide (t<p.ty.length)=true:=by simpa using htl
 clear hnn hsl hl hbt hbm hm
 generalize m+2=m2 at *
 go_enter Tryd.func52,Tryd.ntmps52
 go_wp2_with fail
 refine HPT.out.mono ?_
 rintro e w5 ⟨rfl,hw5⟩
 rw [hw5]
 clear hw5
 go_upto_region 27 with (fail)
 refine wp_region_held_drew (S:=(fun W:World=>W=W1.drew∧W.cell? ⟨w.heap.size,0,none⟩=some (.slice (some ⟨g2,o2,none⟩) p.ty.length d1)∧W.cell? ⟨g2,o2+t,none⟩=some (.slice ua l.length uc))) (by kernel_rfl) ⟨rfl,c00,hc2⟩ (fun hHeld1=>?_)
 refine tk 0 ?_;simp only [sp]
 refine tk 1 ?_;simp only [sp]
 refine tk 2 ?_;simp only [sp]
 refine rd 3 (fun K hK=>?_)
 go_simp
 go_at_call 73
 refine HBA.out.mono ?_
 rintro e w5 ⟨rfl,hw5⟩
 subst hw5
 go_wp2_with fail
 refine hK.out _ _ ⟨rfl,c00,hc2⟩ (fun hHeld5=>?_)
 clear hK K
 try simp only [sp]
 refine tk 4 ?_;simp only [sp]
 refine tk 5 ?_;simp only [sp]
 refine tk 6 ?_;simp only [sp]
 refine tk 7 ?_;simp only [sp]
 refine tk 8 ?_;simp only [sp]
 refine tk 9 ?_;simp only [sp]
 refine wpAnyH_done (by kernel_rfl) ?_ _
 have HRX:=hide (HR.out.up (below_drew (Below.refl W1.heap.size W1)))
 have HOX:=hide (HO.out.up (below_drew (Below.refl W1.heap.size W1)))
 have HWX:=hide (show Below C w W1.drew from below_drew HWC.out)
 have HSX:=hide (show SlAt 1 IntP B W1.drew (.slice ua l.length uc) l from ints_keep (Nat.le_refl _) (fun _ _=>rfl) HSL.out)
 have hCX:C≤W1.drew.heap.size:=hC1
 clear HPT HBA hwb hdv hdv2 c00 c01 c02 c03 c10 c11 c12 c13 c20 c21 c22 hc2 HR HO HWC HSL hC1 hW1
 generalize W1.drew=X at *
 have HIN:=hide (rin_any X.drew a l.length)
 rw [hin] at HIN
 have HCX:=hide (show ∀ W:World,Below X.heap.size X W→(fun W:World=>W.cell? ⟨w.heap.size,0,none⟩=some (.slice (some ⟨g2,o2,none⟩) p.ty.length d1)∧W.cell? ⟨w.heap.size,1,none⟩=some (.slice a2 p.fu.length d2)∧W.cell? ⟨w.heap.size,2,none⟩=some (.slice a3 p.ta.length d3)∧W.cell? ⟨w.heap.size,3,none⟩=some (.slice a4 p.st.length d4)∧W.cell? ⟨w.heap.size+2,0,none⟩=some (.int .i64 14)∧W.cell? ⟨w.heap.size+2,1,none⟩=some (.int .i64 a)∧W.cell? ⟨w.heap.size+2,2,none⟩=some (.int .i64 b)) W from fun W h=>by
  have R:=HRX.out.up h
  exact ⟨R.c0.1,R.c0.2.1,R.c0.2.2.1,R.c0.2.2.2,R.c2.1,R.c2.2.1,R.c2.2.2⟩)
 go_upto_region 28 with (fail)
 refine wp_region_held_drew (S:=(fun W:World=>W.cell? ⟨w.heap.size,0,none⟩=some (.slice (some ⟨g2,o2,none⟩) p.ty.length d1)∧W.cell? ⟨w.heap.size,1,none⟩=some (.slice a2 p.fu.length d2)∧W.cell? ⟨w.heap.size,2,none⟩=some (.slice a3 p.ta.length d3)∧W.cell? ⟨w.heap.size,3,none⟩=some (.slice a4 p.st.length d4)∧W.cell? ⟨w.heap.size+2,0,none⟩=some (.int .i64 14)∧W.cell? ⟨w.heap.size+2,1,none⟩=some (.int .i64 a)∧W.cell? ⟨w.heap.size+2,2,none⟩=some (.int .i64 b))) (by kernel_rfl) (HCX.out _ (below_drew (Below.refl _ _))) (fun hHeld12=>?_)
 refine tk 0 ?_;simp only [sp]
 refine tk 1 ?_;simp only [sp]
 refine tk 2 ?_;simp only [sp]
 refine tk 3 ?_;simp only [sp]
 refine rd 4 (fun K hK=>?_)
 go_simp
 go_at_call 31
 refine HIN.out.mono ?_
 rintro e w6 ⟨rfl,hw6⟩
 subst hw6
 go_wp2_with fail
 refine hK.out _ _ (HCX.out _ (below_drew (Below.refl _ _))) (fun hHeld17=>?_)
 clear hK K
 try simp only [sp]
 refine tk 5 ?_;simp only [sp]
 refine tk 6 ?_;simp only [sp]
 refine tn 7 ?_;simp only [sp]
 refine tn 8 ?_;simp only [sp]
 refine tn 9 ?_;simp only [sp]
 refine tn 10 ?_;simp only [sp]
 refine tn 11 ?_;simp only [sp]
 refine tn 12 ?_;simp only [sp]
 refine tn 13 ?_;simp only [sp]
 refine tn 14 ?_;simp only [sp]
 refine tn 15 ?_;simp only [sp]
 refine tn 16 ?_;simp only [sp]
 refine tn 17 ?_;simp only [sp]
 refine tn 18 ?_;simp only [sp]
 refine tn 19 ?_;simp only [sp]
 refine tn 20 ?_;simp only [sp]
 refine tn 21 ?_;simp only [sp]
 refine tk 22 ?_;simp only [sp]
 refine wpAnyH_done (by kernel_rfl) ?_ _
 go_wp2_with fail
 go_ret2
 exact ⟨below_drew HWX.out,rfl⟩
theorem ob_15p (P:PgAt B w v1 v2 v3 v4 p) (hB:B≤w.heap.size) (s1:SlAt 1 IntP B w u1 f.lo) (s2:SlAt 1 IntP B w u2 f.re) (s3:SlAt 1 IntP B w u3 f.ar) (Rs:SlAt 1 IntP Bs w vs s) (O:OwI C w vr r) (hsC:Bs≤C) (hC:C≤w.heap.size) (hr:r.length≤300000000) {x y:Int} (hs:s=r++[x,y]) (hkd:Kd x) (hpt:ptrB x=false):Calls Tryd.prog 52 #[.agg #[v1,v2,v3,v4],.agg #[.int .i64 f.pa,u1,u2,u3,u4],.agg #[.int .i64 15,.int .i64 a,.int .i64 b],vs,vr] w (EfNo C 8 w):=by
 obtain ⟨⟨a1,d1,rfl⟩,⟨a2,d2,rfl⟩,⟨a3,d3,rfl⟩,a4,d4,rfl⟩:=fm4 P
 obtain ⟨⟨b1,x1,rfl⟩,⟨b2,x2,rfl⟩,b3,x3,rfl⟩:=fm3 s1 s2 s3
 have R:=Rx.new (i:=⟨15,a,b⟩) (u4:=u4) P hB s1 s2 s3
 dsimp only at R
 obtain ⟨W1,hW1⟩:=exR R
 rw [hW1] at R
 obtain ⟨c00,c01,c02,c03⟩:=R.c0
 obtain ⟨c10,c11,c12,c13⟩:=R.c1
 obtain ⟨c20,c21,c22⟩:=R.c2
 obtain ⟨l0,l1,l2⟩:=R.lt
 dsimp only at c20 c21 c22
 have HR:=hide R
 clear P s1 s2 s3
 have b1:=R.bel
 obtain ⟨sa,ds,hvs⟩:=sl_form Rs
 obtain ⟨ar,dr,hvr⟩:=O.form
 subst hvs hvr
 have Rs1:SlAt 1 IntP Bs W1 (.slice sa s.length ds) s:=ints_keep (Nat.le_refl _) (fun j hj=>b1.block j (by omega)) Rs
 have HO:=hide (O.up b1)
 have HRS:=hide Rs1
 have HWC:=hide (show Below C w W1 from b1.mono hC)
 have hC1:C≤W1.heap.size:=Nat.le_trans hC b1.size
 clear Rs O b1 R
 obtain ⟨L,hL⟩ : ∃ L,s.length=L:=⟨_,rfl⟩
 obtain ⟨q,hq⟩ : ∃ q,L - 1=q:=⟨_,rfl⟩
 have hLr:L=r.length+2:=by rw [← hL,hs];simp
 have hy:s[q]?=some y:=by rw [hs,← hq,hLr,List.getElem?_append_right (by omega)];simp
 have hx:s[r.length]?=some x:=by rw [hs,List.getElem?_append_right (by omega)];simp
 obtain ⟨g',o',c',hv',hg',hcx,_,_⟩:=il_at Rs1 hx
 obtain ⟨g,o,c,hv,hg,hcy,_,_⟩:=il_at Rs1 hy
 cases hv'
 cases hv
 rw [hL] at HRS ⊢
 have hgw:=Nat.lt_of_lt_of_le hg (Nat.le_trans hsC hC1)
 have hql:q<L:=by omega
 have dq:decide (q<L)=true:=by simpa using hql
 have dL:decide (0<L)=true:=by simp;omega
 have dL2:decide ((0:Int)<(L:Int))=true:=by simp;omega
 have hwq:IntKind.i64.wrap ((L:Int) - 1)=(q:Int):=by
  rw [show (L:Int) - 1=(q:Int) by omega]
  exact wrap_nat (by omega)
 have hrl:r.length<L:=by omega
 have drl:decide (r.length<L)=true:=by simpa using hrl
 clear hLr hy hs hL hq hx
 have HPT:=hide (rptr_any W1 (k:=x) ⟨by have:=hkd.1;omega,hkd.2⟩)
 rw [hpt] at HPT
 go_enter Tryd.func52,Tryd.ntmps52
 go_wp2_with fail
 refine HPT.out.mono ?_
 rintro e w5 ⟨rfl,hw5⟩
 subst hw5
 go_wp2_with fail
 go_ret2
 exact ⟨HWC.out,rfl⟩
theorem ob_15r (P:PgAt B w v1 v2 v3 v4 p) (hB:B≤w.heap.size) (s1:SlAt 1 IntP B w u1 f.lo) (s2:SlAt 1 IntP B w u2 f.re) (s3:SlAt 1 IntP B w u3 f.ar) (Rs:SlAt 1 IntP Bs w vs s) (O:OwI C w vr r) (hsC:Bs≤C) (hC:C≤w.heap.size) (hr:r.length≤300000000) {x y:Int} (hs:s=r++[x,y]) (hkd:Kd x) (hpt:ptrB x=true) {t:Nat} (hbt:bareK x=2+2*(t:Int)) {l:List Int} (hl:p.ty[t]?=some l) (hty:p.ty.length≤1024) (hin:inB a l.length=false):Calls Tryd.prog 52 #[.agg #[v1,v2,v3,v4],.agg #[.int .i64 f.pa,u1,u2,u3,u4],.agg #[.int .i64 15,.int .i64 a,.int .i64 b],vs,vr] w (EfNo C 11 w):=by
 obtain ⟨⟨a1,d1,rfl⟩,⟨a2,d2,rfl⟩,⟨a3,d3,rfl⟩,a4,d4,rfl⟩:=fm4 P
 obtain ⟨⟨b1,x1,rfl⟩,⟨b2,x2,rfl⟩,b3,x3,rfl⟩:=fm3 s1 s2 s3
 have R:=Rx.new (i:=⟨15,a,b⟩) (u4:=u4) P hB s1 s2 s3
 dsimp only at R
 obtain ⟨W1,hW1⟩:=exR R
 rw [hW1] at R
 obtain ⟨c00,c01,c02,c03⟩:=R.c0
 obtain ⟨c10,c11,c12,c13⟩:=R.c1
 obtain ⟨c20,c21,c22⟩:=R.c2
 obtain ⟨l0,l1,l2⟩:=R.lt
 dsimp only at c20 c21 c22
 have HR:=hide R
 clear P s1 s2 s3
 have b1:=R.bel
 obtain ⟨sa,ds,hvs⟩:=sl_form Rs
 obtain ⟨ar,dr,hvr⟩:=O.form
 subst hvs hvr
 have Rs1:SlAt 1 IntP Bs W1 (.slice sa s.length ds) s:=ints_keep (Nat.le_refl _) (fun j hj=>b1.block j (by omega)) Rs
 have HO:=hide (O.up b1)
 have HRS:=hide Rs1
 have HWC:=hide (show Below C w W1 from b1.mono hC)
 have hC1:C≤W1.heap.size:=Nat.le_trans hC b1.size
 clear Rs O b1 R
 obtain ⟨L,hL⟩ : ∃ L,s.length=L:=⟨_,rfl⟩
 obtain ⟨q,hq⟩ : ∃ q,L - 1=q:=⟨_,rfl⟩
 have hLr:L=r.length+2:=by rw [← hL,hs];simp
 have hy:s[q]?=some y:=by rw [hs,← hq,hLr,List.getElem?_append_right (by omega)];simp
 have hx:s[r.length]?=some x:=by rw [hs,List.getElem?_append_right (by omega)];simp
 obtain ⟨g',o',c',hv',hg',hcx,_,_⟩:=il_at Rs1 hx
 obtain ⟨g,o,c,hv,hg,hcy,_,_⟩:=il_at Rs1 hy
 cases hv'
 cases hv
 rw [hL] at HRS ⊢
 have hgw:=Nat.lt_of_lt_of_le hg (Nat.le_trans hsC hC1)
 have hql:q<L:=by omega
 have dq:decide (q<L)=true:=by simpa using hql
 have dL:decide (0<L)=true:=by simp;omega
 have dL2:decide ((0:Int)<(L:Int))=true:=by simp;omega
 have hwq:IntKind.i64.wrap ((L:Int) - 1)=(q:Int):=by
  rw [show (L:Int) - 1=(q:Int) by omega]
  exact wrap_nat (by omega)
 have hrl:r.length<L:=by omega
 have drl:decide (r.length<L)=true:=by simpa using hrl
 clear hLr hy hs hL hq hx
 have HPT:=hide (rptr_any W1 (k:=x) ⟨by have:=hkd.1;omega,hkd.2⟩)
 rw [hpt] at HPT
 have HBA:=hide (rbase_any W1.drew (k:=x) ⟨by have:=hkd.1;omega,hkd.2⟩)
 have htl:t<p.ty.length:=get_lt hl
 obtain ⟨m,hm⟩ : ∃ m:Nat,m=2*t:=⟨_,rfl⟩
 have hbm:bareK x=((m+2:Nat):Int):=by rw [hbt];omega
 rw [hbm] at HBA
 have hwb:IntKind.i64.wrap (((m+2:Nat):Int) - 2)=(m:Int):=by
  rw [show ((m+2:Nat):Int) - 2=(m:Int) by omega]
  exact wrap_nat (by omega)
 have hdv:(m:Int) / 2=(t:Int):=by omega
 have hdv2:m / 2=t:=by omega
 have hwt:IntKind.i64.wrap (t:Int)=(t:Int):=wrap_nat (by omega)
 obtain ⟨g2,o2,c2,nn,u,hv2,hnn,_,hg2,hc2,hsl⟩:=lst_at HR.out.pg.ty hl
 cases hv2
 obtain ⟨ua,uc,hu⟩:=sl_form hsl
 subst hu
 have HSL:=hide hsl
 have hg2w:g2<W1.heap.size:=by have:=HR.out.hB;have:=HR.out.bel.size;omega
 have dt:decide (t<p.ty.length)=true:=by simpa using htl
 clear hnn hsl hl hbt hbm hm
 generalize m+2=m2 at *
 go_enter Tryd.func52,Tryd.ntmps52
 go_wp2_with fail
 refine HPT.out.mono ?_
 rintro e w5 ⟨rfl,hw5⟩
 rw [hw5]
 clear hw5
 go_upto_region 27 with (fail)
 refine wp_region_held_drew (S:=(fun W:World=>W=W1.drew∧W.cell? ⟨w.heap.size,0,none⟩=some (.slice (some ⟨g2,o2,none⟩) p.ty.length d1)∧W.cell? ⟨g2,o2+t,none⟩=some (.slice ua l.length uc))) (by kernel_rfl) ⟨rfl,c00,hc2⟩ (fun hHeld36=>?_)
 refine tk 0 ?_;simp only [sp]
 refine tk 1 ?_;simp only [sp]
 refine tk 2 ?_;simp only [sp]
 refine rd 3 (fun K hK=>?_)
 go_simp
 go_at_call 73
 refine HBA.out.mono ?_
 rintro e w5 ⟨rfl,hw5⟩
 subst hw5
 go_wp2_with fail
 refine hK.out _ _ ⟨rfl,c00,hc2⟩ (fun hHeld40=>?_)
 clear hK K
 try simp only [sp]
 refine tk 4 ?_;simp only [sp]
 refine tk 5 ?_;simp only [sp]
 refine tk 6 ?_;simp only [sp]
 refine tk 7 ?_;simp only [sp]
 refine tk 8 ?_;simp only [sp]
 refine tk 9 ?_;simp only [sp]
 refine wpAnyH_done (by kernel_rfl) ?_ _
 have HRX:=hide (HR.out.up (below_drew (Below.refl W1.heap.size W1)))
 have HOX:=hide (HO.out.up (below_drew (Below.refl W1.heap.size W1)))
 have HWX:=hide (show Below C w W1.drew from below_drew HWC.out)
 have HSX:=hide (show SlAt 1 IntP B W1.drew (.slice ua l.length uc) l from ints_keep (Nat.le_refl _) (fun _ _=>rfl) HSL.out)
 have hCX:C≤W1.drew.heap.size:=hC1
 clear HPT HBA hwb hdv hdv2 c00 c01 c02 c03 c10 c11 c12 c13 c20 c21 c22 hc2 HR HO HWC HSL hC1 hW1
 generalize W1.drew=X at *
 have HIN:=hide (rin_any X.drew a l.length)
 rw [hin] at HIN
 have HCX:=hide (show ∀ W:World,Below X.heap.size X W→(fun W:World=>W.cell? ⟨w.heap.size,0,none⟩=some (.slice (some ⟨g2,o2,none⟩) p.ty.length d1)∧W.cell? ⟨w.heap.size,1,none⟩=some (.slice a2 p.fu.length d2)∧W.cell? ⟨w.heap.size,2,none⟩=some (.slice a3 p.ta.length d3)∧W.cell? ⟨w.heap.size,3,none⟩=some (.slice a4 p.st.length d4)∧W.cell? ⟨w.heap.size+2,0,none⟩=some (.int .i64 15)∧W.cell? ⟨w.heap.size+2,1,none⟩=some (.int .i64 a)∧W.cell? ⟨w.heap.size+2,2,none⟩=some (.int .i64 b)) W from fun W h=>by
  have R:=HRX.out.up h
  exact ⟨R.c0.1,R.c0.2.1,R.c0.2.2.1,R.c0.2.2.2,R.c2.1,R.c2.2.1,R.c2.2.2⟩)
 go_upto_region 28 with (fail)
 refine wp_region_held_drew (S:=(fun W:World=>W.cell? ⟨w.heap.size,0,none⟩=some (.slice (some ⟨g2,o2,none⟩) p.ty.length d1)∧W.cell? ⟨w.heap.size,1,none⟩=some (.slice a2 p.fu.length d2)∧W.cell? ⟨w.heap.size,2,none⟩=some (.slice a3 p.ta.length d3)∧W.cell? ⟨w.heap.size,3,none⟩=some (.slice a4 p.st.length d4)∧W.cell? ⟨w.heap.size+2,0,none⟩=some (.int .i64 15)∧W.cell? ⟨w.heap.size+2,1,none⟩=some (.int .i64 a)∧W.cell? ⟨w.heap.size+2,2,none⟩=some (.int .i64 b))) (by kernel_rfl) (HCX.out _ (below_drew (Below.refl _ _))) (fun hHeld47=>?_)
 refine tk 0 ?_;simp only [sp]
 refine tk 1 ?_;simp only [sp]
 refine tk 2 ?_;simp only [sp]
 refine tk 3 ?_;simp only [sp]
 refine rd 4 (fun K hK=>?_)
 go_simp
 go_at_call 31
 refine HIN.out.mono ?_
 rintro e w6 ⟨rfl,hw6⟩
 subst hw6
 go_wp2_with fail
 refine hK.out _ _ (HCX.out _ (below_drew (Below.refl _ _))) (fun hHeld52=>?_)
 clear hK K
 try simp only [sp]
 refine tk 5 ?_;simp only [sp]
 refine tk 6 ?_;simp only [sp]
 refine tn 7 ?_;simp only [sp]
 refine tn 8 ?_;simp only [sp]
 refine tn 9 ?_;simp only [sp]
 refine tn 10 ?_;simp only [sp]
 refine tn 11 ?_;simp only [sp]
 refine tn 12 ?_;simp only [sp]
 refine tn 13 ?_;simp only [sp]
 refine tn 14 ?_;simp only [sp]
 refine tn 15 ?_;simp only [sp]
 refine tn 16 ?_;simp only [sp]
 refine tn 17 ?_;simp only [sp]
 refine tn 18 ?_;simp only [sp]
 refine tn 19 ?_;simp only [sp]
 refine tn 20 ?_;simp only [sp]
 refine tn 21 ?_;simp only [sp]
 refine tk 22 ?_;simp only [sp]
 refine wpAnyH_done (by kernel_rfl) ?_ _
 go_wp2_with fail
 go_ret2
 exact ⟨below_drew HWX.out,rfl⟩
theorem ob_16p (P:PgAt B w v1 v2 v3 v4 p) (hB:B≤w.heap.size) (s1:SlAt 1 IntP B w u1 f.lo) (s2:SlAt 1 IntP B w u2 f.re) (s3:SlAt 1 IntP B w u3 f.ar) (Rs:SlAt 1 IntP Bs w vs s) (O:OwI C w vr r) (hsC:Bs≤C) (hC:C≤w.heap.size) (hr:r.length≤300000000) {x:Int} (hs:s=r++[x]) (hkd:Kd x) (hpt:ptrB x=false):Calls Tryd.prog 52 #[.agg #[v1,v2,v3,v4],.agg #[.int .i64 f.pa,u1,u2,u3,u4],.agg #[.int .i64 16,.int .i64 a,.int .i64 b],vs,vr] w (EfNo C 8 w):=by
 obtain ⟨⟨a1,d1,rfl⟩,⟨a2,d2,rfl⟩,⟨a3,d3,rfl⟩,a4,d4,rfl⟩:=fm4 P
 obtain ⟨⟨b1,x1,rfl⟩,⟨b2,x2,rfl⟩,b3,x3,rfl⟩:=fm3 s1 s2 s3
 have R:=Rx.new (i:=⟨16,a,b⟩) (u4:=u4) P hB s1 s2 s3
 dsimp only at R
 obtain ⟨W1,hW1⟩:=exR R
 rw [hW1] at R
 obtain ⟨c00,c01,c02,c03⟩:=R.c0
 obtain ⟨c10,c11,c12,c13⟩:=R.c1
 obtain ⟨c20,c21,c22⟩:=R.c2
 obtain ⟨l0,l1,l2⟩:=R.lt
 dsimp only at c20 c21 c22
 have HR:=hide R
 clear P s1 s2 s3
 have b1:=R.bel
 obtain ⟨sa,ds,hvs⟩:=sl_form Rs
 obtain ⟨ar,dr,hvr⟩:=O.form
 subst hvs hvr
 have Rs1:SlAt 1 IntP Bs W1 (.slice sa s.length ds) s:=ints_keep (Nat.le_refl _) (fun j hj=>b1.block j (by omega)) Rs
 have HO:=hide (O.up b1)
 have HRS:=hide Rs1
 have HWC:=hide (show Below C w W1 from b1.mono hC)
 have hC1:C≤W1.heap.size:=Nat.le_trans hC b1.size
 clear Rs O b1 R
 obtain ⟨L,hL⟩ : ∃ L,s.length=L:=⟨_,rfl⟩
 obtain ⟨q,hq⟩ : ∃ q,L - 1=q:=⟨_,rfl⟩
 have hLr:L=r.length+1:=by rw [← hL,hs];simp
 have hy:s[q]?=some x:=by rw [hs,← hq,hLr,List.getElem?_append_right (by omega)];simp
 obtain ⟨g,o,c,hv,hg,hcy,_,_⟩:=il_at Rs1 hy
 cases hv
 rw [hL] at HRS ⊢
 have hgw:=Nat.lt_of_lt_of_le hg (Nat.le_trans hsC hC1)
 have hql:q<L:=by omega
 have dq:decide (q<L)=true:=by simpa using hql
 have dL:decide (0<L)=true:=by simp;omega
 have dL2:decide ((0:Int)<(L:Int))=true:=by simp;omega
 have hwq:IntKind.i64.wrap ((L:Int) - 1)=(q:Int):=by
  rw [show (L:Int) - 1=(q:Int) by omega]
  exact wrap_nat (by omega)
 have hqr:q=r.length:=by omega
 subst hqr
 clear hLr hy hs hL hq
 have HPT:=hide (rptr_any W1 (k:=x) ⟨by have:=hkd.1;omega,hkd.2⟩)
 rw [hpt] at HPT
 go_enter Tryd.func52,Tryd.ntmps52
 go_wp2_with fail
 refine HPT.out.mono ?_
 rintro e w5 ⟨rfl,hw5⟩
 subst hw5
 go_wp2_with fail
 go_ret2
 exact ⟨HWC.out,rfl⟩
theorem ob_16r (P:PgAt B w v1 v2 v3 v4 p) (hB:B≤w.heap.size) (s1:SlAt 1 IntP B w u1 f.lo) (s2:SlAt 1 IntP B w u2 f.re) (s3:SlAt 1 IntP B w u3 f.ar) (Rs:SlAt 1 IntP Bs w vs s) (O:OwI C w vr r) (hsC:Bs≤C) (hC:C≤w.heap.size) (hr:r.length≤300000000) {x:Int} (hs:s=r++[x]) (hkd:Kd x) (hpt:ptrB x=true) {t:Nat} (hbt:bareK x=2+2*(t:Int)) {l:List Int} (hl:p.ty[t]?=some l) (hty:p.ty.length≤1024) (hin:inB a l.length=false):Calls Tryd.prog 52 #[.agg #[v1,v2,v3,v4],.agg #[.int .i64 f.pa,u1,u2,u3,u4],.agg #[.int .i64 16,.int .i64 a,.int .i64 b],vs,vr] w (EfNo C 11 w):=by
 obtain ⟨⟨a1,d1,rfl⟩,⟨a2,d2,rfl⟩,⟨a3,d3,rfl⟩,a4,d4,rfl⟩:=fm4 P
 obtain ⟨⟨b1,x1,rfl⟩,⟨b2,x2,rfl⟩,b3,x3,rfl⟩:=fm3 s1 s2 s3
 have R:=Rx.new (i:=⟨16,a,b⟩) (u4:=u4) P hB s1 s2 s3
 dsimp only at R
 obtain ⟨W1,hW1⟩:=exR R
 rw [hW1] at R
 obtain ⟨c00,c01,c02,c03⟩:=R.c0
 obtain ⟨c10,c11,c12,c13⟩:=R.c1
 obtain ⟨c20,c21,c22⟩:=R.c2
 obtain ⟨l0,l1,l2⟩:=R.lt
 dsimp only at c20 c21 c22
 have HR:=hide R
 clear P s1 s2 s3
 have b1:=R.bel
 obtain ⟨sa,ds,hvs⟩:=sl_form Rs
 obtain ⟨ar,dr,hvr⟩:=O.form
 subst hvs hvr
 have Rs1:SlAt 1 IntP Bs W1 (.slice sa s.length ds) s:=ints_keep (Nat.le_refl _) (fun j hj=>b1.block j (by omega)) Rs
 have HO:=hide (O.up b1)
 have HRS:=hide Rs1
 have HWC:=hide (show Below C w W1 from b1.mono hC)
 have hC1:C≤W1.heap.size:=Nat.le_trans hC b1.size
 clear Rs O b1 R
 obtain ⟨L,hL⟩ : ∃ L,s.length=L:=⟨_,rfl⟩
 obtain ⟨q,hq⟩ : ∃ q,L - 1=q:=⟨_,rfl⟩
 have hLr:L=r.length+1:=by rw [← hL,hs];simp
 have hy:s[q]?=some x:=by rw [hs,← hq,hLr,List.getElem?_append_right (by omega)];simp
 obtain ⟨g,o,c,hv,hg,hcy,_,_⟩:=il_at Rs1 hy
 cases hv
 rw [hL] at HRS ⊢
 have hgw:=Nat.lt_of_lt_of_le hg (Nat.le_trans hsC hC1)
 have hql:q<L:=by omega
 have dq:decide (q<L)=true:=by simpa using hql
 have dL:decide (0<L)=true:=by simp;omega
 have dL2:decide ((0:Int)<(L:Int))=true:=by simp;omega
 have hwq:IntKind.i64.wrap ((L:Int) - 1)=(q:Int):=by
  rw [show (L:Int) - 1=(q:Int) by omega]
  exact wrap_nat (by omega)
 have hqr:q=r.length:=by omega
 subst hqr
 clear hLr hy hs hL hq
 have HPT:=hide (rptr_any W1 (k:=x) ⟨by have:=hkd.1;omega,hkd.2⟩)
 rw [hpt] at HPT
 have HBA:=hide (rbase_any W1.drew (k:=x) ⟨by have:=hkd.1;omega,hkd.2⟩)
 have htl:t<p.ty.length:=get_lt hl
 obtain ⟨m,hm⟩ : ∃ m:Nat,m=2*t:=⟨_,rfl⟩
 have hbm:bareK x=((m+2:Nat):Int):=by rw [hbt];omega
 rw [hbm] at HBA
 have hwb:IntKind.i64.wrap (((m+2:Nat):Int) - 2)=(m:Int):=by
  rw [show ((m+2:Nat):Int) - 2=(m:Int) by omega]
  exact wrap_nat (by omega)
 have hdv:(m:Int) / 2=(t:Int):=by omega
 have hdv2:m / 2=t:=by omega
 have hwt:IntKind.i64.wrap (t:Int)=(t:Int):=wrap_nat (by omega)
 obtain ⟨g2,o2,c2,nn,u,hv2,hnn,_,hg2,hc2,hsl⟩:=lst_at HR.out.pg.ty hl
 cases hv2
 obtain ⟨ua,uc,hu⟩:=sl_form hsl
 subst hu
 have HSL:=hide hsl
 have hg2w:g2<W1.heap.size:=by have:=HR.out.hB;have:=HR.out.bel.size;omega
 have dt:decide (t<p.ty.length)=true:=by simpa using htl
 clear hnn hsl hl hbt hbm hm
 generalize m+2=m2 at *
 go_enter Tryd.func52,Tryd.ntmps52
 go_wp2_with fail
 refine HPT.out.mono ?_
 rintro e w5 ⟨rfl,hw5⟩
 rw [hw5]
 clear hw5
 go_upto_region 27 with (fail)
 refine wp_region_held_drew (S:=(fun W:World=>W=W1.drew∧W.cell? ⟨w.heap.size,0,none⟩=some (.slice (some ⟨g2,o2,none⟩) p.ty.length d1)∧W.cell? ⟨g2,o2+t,none⟩=some (.slice ua l.length uc))) (by kernel_rfl) ⟨rfl,c00,hc2⟩ (fun hHeld71=>?_)
 refine tk 0 ?_;simp only [sp]
 refine tk 1 ?_;simp only [sp]
 refine tk 2 ?_;simp only [sp]
 refine rd 3 (fun K hK=>?_)
 go_simp
 go_at_call 73
 refine HBA.out.mono ?_
 rintro e w5 ⟨rfl,hw5⟩
 subst hw5
 go_wp2_with fail
 refine hK.out _ _ ⟨rfl,c00,hc2⟩ (fun hHeld75=>?_)
 clear hK K
 try simp only [sp]
 refine tk 4 ?_;simp only [sp]
 refine tk 5 ?_;simp only [sp]
 refine tk 6 ?_;simp only [sp]
 refine tk 7 ?_;simp only [sp]
 refine tk 8 ?_;simp only [sp]
 refine tk 9 ?_;simp only [sp]
 refine wpAnyH_done (by kernel_rfl) ?_ _
 have HRX:=hide (HR.out.up (below_drew (Below.refl W1.heap.size W1)))
 have HOX:=hide (HO.out.up (below_drew (Below.refl W1.heap.size W1)))
 have HWX:=hide (show Below C w W1.drew from below_drew HWC.out)
 have HSX:=hide (show SlAt 1 IntP B W1.drew (.slice ua l.length uc) l from ints_keep (Nat.le_refl _) (fun _ _=>rfl) HSL.out)
 have hCX:C≤W1.drew.heap.size:=hC1
 clear HPT HBA hwb hdv hdv2 c00 c01 c02 c03 c10 c11 c12 c13 c20 c21 c22 hc2 HR HO HWC HSL hC1 hW1
 generalize W1.drew=X at *
 have HIN:=hide (rin_any X.drew a l.length)
 rw [hin] at HIN
 have HCX:=hide (show ∀ W:World,Below X.heap.size X W→(fun W:World=>W.cell? ⟨w.heap.size,0,none⟩=some (.slice (some ⟨g2,o2,none⟩) p.ty.length d1)∧W.cell? ⟨w.heap.size,1,none⟩=some (.slice a2 p.fu.length d2)∧W.cell? ⟨w.heap.size,2,none⟩=some (.slice a3 p.ta.length d3)∧W.cell? ⟨w.heap.size,3,none⟩=some (.slice a4 p.st.length d4)∧W.cell? ⟨w.heap.size+2,0,none⟩=some (.int .i64 16)∧W.cell? ⟨w.heap.size+2,1,none⟩=some (.int .i64 a)∧W.cell? ⟨w.heap.size+2,2,none⟩=some (.int .i64 b)) W from fun W h=>by
  have R:=HRX.out.up h
  exact ⟨R.c0.1,R.c0.2.1,R.c0.2.2.1,R.c0.2.2.2,R.c2.1,R.c2.2.1,R.c2.2.2⟩)
 go_upto_region 28 with (fail)
 refine wp_region_held_drew (S:=(fun W:World=>W.cell? ⟨w.heap.size,0,none⟩=some (.slice (some ⟨g2,o2,none⟩) p.ty.length d1)∧W.cell? ⟨w.heap.size,1,none⟩=some (.slice a2 p.fu.length d2)∧W.cell? ⟨w.heap.size,2,none⟩=some (.slice a3 p.ta.length d3)∧W.cell? ⟨w.heap.size,3,none⟩=some (.slice a4 p.st.length d4)∧W.cell? ⟨w.heap.size+2,0,none⟩=some (.int .i64 16)∧W.cell? ⟨w.heap.size+2,1,none⟩=some (.int .i64 a)∧W.cell? ⟨w.heap.size+2,2,none⟩=some (.int .i64 b))) (by kernel_rfl) (HCX.out _ (below_drew (Below.refl _ _))) (fun hHeld82=>?_)
 refine tk 0 ?_;simp only [sp]
 refine tk 1 ?_;simp only [sp]
 refine tk 2 ?_;simp only [sp]
 refine tk 3 ?_;simp only [sp]
 refine rd 4 (fun K hK=>?_)
 go_simp
 go_at_call 31
 refine HIN.out.mono ?_
 rintro e w6 ⟨rfl,hw6⟩
 subst hw6
 go_wp2_with fail
 refine hK.out _ _ (HCX.out _ (below_drew (Below.refl _ _))) (fun hHeld87=>?_)
 clear hK K
 try simp only [sp]
 refine tk 5 ?_;simp only [sp]
 refine tk 6 ?_;simp only [sp]
 refine tn 7 ?_;simp only [sp]
 refine tn 8 ?_;simp only [sp]
 refine tn 9 ?_;simp only [sp]
 refine tn 10 ?_;simp only [sp]
 refine tn 11 ?_;simp only [sp]
 refine tn 12 ?_;simp only [sp]
 refine tn 13 ?_;simp only [sp]
 refine tn 14 ?_;simp only [sp]
 refine tn 15 ?_;simp only [sp]
 refine tn 16 ?_;simp only [sp]
 refine tn 17 ?_;simp only [sp]
 refine tn 18 ?_;simp only [sp]
 refine tn 19 ?_;simp only [sp]
 refine tn 20 ?_;simp only [sp]
 refine tn 21 ?_;simp only [sp]
 refine tk 22 ?_;simp only [sp]
 refine wpAnyH_done (by kernel_rfl) ?_ _
 go_wp2_with fail
 go_ret2
 exact ⟨below_drew HWX.out,rfl⟩
theorem ob_14k (P:PgAt B w v1 v2 v3 v4 p) (hB:B≤w.heap.size) (s1:SlAt 1 IntP B w u1 f.lo) (s2:SlAt 1 IntP B w u2 f.re) (s3:SlAt 1 IntP B w u3 f.ar) (Rs:SlAt 1 IntP Bs w vs s) (O:OwI C w vr r) (hsC:Bs≤C) (hC:C≤w.heap.size) (hr:r.length≤300000000) {x:Int} (hs:s=r++[x]) (hkd:Kd x) (hpt:ptrB x=true) {t:Nat} (hbt:bareK x=2+2*(t:Int)) {l:List Int} (hl:p.ty[t]?=some l) (hty:p.ty.length≤1024) {n:Nat} {z:Int} (ha:a=(n:Int)) (hin:inB (n:Int) l.length=true) (hz:l[n]?=some z):Calls Tryd.prog 52 #[.agg #[v1,v2,v3,v4],.agg #[.int .i64 f.pa,u1,u2,u3,u4],.agg #[.int .i64 14,.int .i64 a,.int .i64 b],vs,vr] w (EfOk C (r++[z]) w):=by
 obtain ⟨⟨a1,d1,rfl⟩,⟨a2,d2,rfl⟩,⟨a3,d3,rfl⟩,a4,d4,rfl⟩:=fm4 P
 obtain ⟨⟨b1,x1,rfl⟩,⟨b2,x2,rfl⟩,b3,x3,rfl⟩:=fm3 s1 s2 s3
 have R:=Rx.new (i:=⟨14,a,b⟩) (u4:=u4) P hB s1 s2 s3
 dsimp only at R
 obtain ⟨W1,hW1⟩:=exR R
 rw [hW1] at R
 obtain ⟨c00,c01,c02,c03⟩:=R.c0
 obtain ⟨c10,c11,c12,c13⟩:=R.c1
 obtain ⟨c20,c21,c22⟩:=R.c2
 obtain ⟨l0,l1,l2⟩:=R.lt
 dsimp only at c20 c21 c22
 have HR:=hide R
 clear P s1 s2 s3
 have b1:=R.bel
 obtain ⟨sa,ds,hvs⟩:=sl_form Rs
 obtain ⟨ar,dr,hvr⟩:=O.form
 subst hvs hvr
 have Rs1:SlAt 1 IntP Bs W1 (.slice sa s.length ds) s:=ints_keep (Nat.le_refl _) (fun j hj=>b1.block j (by omega)) Rs
 have HO:=hide (O.up b1)
 have HRS:=hide Rs1
 have HWC:=hide (show Below C w W1 from b1.mono hC)
 have hC1:C≤W1.heap.size:=Nat.le_trans hC b1.size
 clear Rs O b1 R
 obtain ⟨L,hL⟩ : ∃ L,s.length=L:=⟨_,rfl⟩
 obtain ⟨q,hq⟩ : ∃ q,L - 1=q:=⟨_,rfl⟩
 have hLr:L=r.length+1:=by rw [← hL,hs];simp
 have hy:s[q]?=some x:=by rw [hs,← hq,hLr,List.getElem?_append_right (by omega)];simp
 obtain ⟨g,o,c,hv,hg,hcy,_,_⟩:=il_at Rs1 hy
 cases hv
 rw [hL] at HRS ⊢
 have hgw:=Nat.lt_of_lt_of_le hg (Nat.le_trans hsC hC1)
 have hql:q<L:=by omega
 have dq:decide (q<L)=true:=by simpa using hql
 have dL:decide (0<L)=true:=by simp;omega
 have dL2:decide ((0:Int)<(L:Int))=true:=by simp;omega
 have hwq:IntKind.i64.wrap ((L:Int) - 1)=(q:Int):=by
  rw [show (L:Int) - 1=(q:Int) by omega]
  exact wrap_nat (by omega)
 have hqr:q=r.length:=by omega
 subst hqr
 clear hLr hy hs hL hq
 subst ha
 have HPT:=hide (rptr_any W1 (k:=x) ⟨by have:=hkd.1;omega,hkd.2⟩)
 rw [hpt] at HPT
 have HBA:=hide (rbase_any W1.drew (k:=x) ⟨by have:=hkd.1;omega,hkd.2⟩)
 have htl:t<p.ty.length:=get_lt hl
 obtain ⟨m,hm⟩ : ∃ m:Nat,m=2*t:=⟨_,rfl⟩
 have hbm:bareK x=((m+2:Nat):Int):=by rw [hbt];omega
 rw [hbm] at HBA
 have hwb:IntKind.i64.wrap (((m+2:Nat):Int) - 2)=(m:Int):=by
  rw [show ((m+2:Nat):Int) - 2=(m:Int) by omega]
  exact wrap_nat (by omega)
 have hdv:(m:Int) / 2=(t:Int):=by omega
 have hdv2:m / 2=t:=by omega
 have hwt:IntKind.i64.wrap (t:Int)=(t:Int):=wrap_nat (by omega)
 obtain ⟨g2,o2,c2,nn,u,hv2,hnn,_,hg2,hc2,hsl⟩:=lst_at HR.out.pg.ty hl
 cases hv2
 obtain ⟨ua,uc,hu⟩:=sl_form hsl
 subst hu
 have HSL:=hide hsl
 have hg2w:g2<W1.heap.size:=by have:=HR.out.hB;have:=HR.out.bel.size;omega
 have dt:decide (t<p.ty.length)=true:=by simpa using htl
 clear hnn hsl hl hbt hbm hm
 generalize m+2=m2 at *
 go_enter Tryd.func52,Tryd.ntmps52
 go_wp2_with fail
 refine HPT.out.mono ?_
 rintro e w5 ⟨rfl,hw5⟩
 rw [hw5]
 clear hw5
 go_upto_region 27 with (fail)
 refine wp_region_held_drew (S:=(fun W:World=>W=W1.drew∧W.cell? ⟨w.heap.size,0,none⟩=some (.slice (some ⟨g2,o2,none⟩) p.ty.length d1)∧W.cell? ⟨g2,o2+t,none⟩=some (.slice ua l.length uc))) (by kernel_rfl) ⟨rfl,c00,hc2⟩ (fun hHeld106=>?_)
 refine tk 0 ?_;simp only [sp]
 refine tk 1 ?_;simp only [sp]
 refine tk 2 ?_;simp only [sp]
 refine rd 3 (fun K hK=>?_)
 go_simp
 go_at_call 73
 refine HBA.out.mono ?_
 rintro e w5 ⟨rfl,hw5⟩
 subst hw5
 go_wp2_with fail
 refine hK.out _ _ ⟨rfl,c00,hc2⟩ (fun hHeld110=>?_)
 clear hK K
 try simp only [sp]
 refine tk 4 ?_;simp only [sp]
 refine tk 5 ?_;simp only [sp]
 refine tk 6 ?_;simp only [sp]
 refine tk 7 ?_;simp only [sp]
 refine tk 8 ?_;simp only [sp]
 refine tk 9 ?_;simp only [sp]
 refine wpAnyH_done (by kernel_rfl) ?_ _
 have HRX:=hide (HR.out.up (below_drew (Below.refl W1.heap.size W1)))
 have HOX:=hide (HO.out.up (below_drew (Below.refl W1.heap.size W1)))
 have HWX:=hide (show Below C w W1.drew from below_drew HWC.out)
 have HSX:=hide (show SlAt 1 IntP B W1.drew (.slice ua l.length uc) l from ints_keep (Nat.le_refl _) (fun _ _=>rfl) HSL.out)
 have hCX:C≤W1.drew.heap.size:=hC1
 clear HPT HBA hwb hdv hdv2 c00 c01 c02 c03 c10 c11 c12 c13 c20 c21 c22 hc2 HR HO HWC HSL hC1 hW1
 generalize W1.drew=X at *
 have HIN:=hide (rin_any X.drew (n:Int) l.length)
 rw [hin] at HIN
 obtain ⟨gz,oz,cz,hvz,hgzB,hcz,hz1,hz2⟩:=il_at HSX.out hz
 cases hvz
 have hgz:gz<X.heap.size:=by have:=HRX.out.hB;have:=HRX.out.bel.size;omega
 have hnl:n<l.length:=get_lt hz
 have dn:decide (n<l.length)=true:=by simpa using hnl
 have HCX:=hide (show ∀ W:World,Below X.heap.size X W→(fun W:World=>W.cell? ⟨w.heap.size,0,none⟩=some (.slice (some ⟨g2,o2,none⟩) p.ty.length d1)∧W.cell? ⟨w.heap.size,1,none⟩=some (.slice a2 p.fu.length d2)∧W.cell? ⟨w.heap.size,2,none⟩=some (.slice a3 p.ta.length d3)∧W.cell? ⟨w.heap.size,3,none⟩=some (.slice a4 p.st.length d4)∧W.cell? ⟨w.heap.size+2,0,none⟩=some (.int .i64 14)∧W.cell? ⟨w.heap.size+2,1,none⟩=some (.int .i64 (n:Int))∧W.cell? ⟨w.heap.size+2,2,none⟩=some (.int .i64 b)∧W.cell? ⟨gz,oz+n,none⟩=some (.int .i64 z)) W from fun W h=>by
  have R:=HRX.out.up h
  exact ⟨R.c0.1,R.c0.2.1,R.c0.2.2.1,R.c0.2.2.2,R.c2.1,R.c2.2.1,R.c2.2.2,(h.cell (p:=⟨gz,oz+n,none⟩) hgz).trans hcz⟩)
 clear hz hin
 go_upto_region 28 with (fail)
 refine wp_region_held_drew (S:=(fun W:World=>W.cell? ⟨w.heap.size,0,none⟩=some (.slice (some ⟨g2,o2,none⟩) p.ty.length d1)∧W.cell? ⟨w.heap.size,1,none⟩=some (.slice a2 p.fu.length d2)∧W.cell? ⟨w.heap.size,2,none⟩=some (.slice a3 p.ta.length d3)∧W.cell? ⟨w.heap.size,3,none⟩=some (.slice a4 p.st.length d4)∧W.cell? ⟨w.heap.size+2,0,none⟩=some (.int .i64 14)∧W.cell? ⟨w.heap.size+2,1,none⟩=some (.int .i64 (n:Int))∧W.cell? ⟨w.heap.size+2,2,none⟩=some (.int .i64 b)∧W.cell? ⟨gz,oz+n,none⟩=some (.int .i64 z))) (by kernel_rfl) (HCX.out _ (below_drew (Below.refl _ _))) (fun hHeld117=>?_)
 refine tk 0 ?_;simp only [sp]
 refine tk 1 ?_;simp only [sp]
 refine tk 2 ?_;simp only [sp]
 refine tk 3 ?_;simp only [sp]
 refine rd 4 (fun K hK=>?_)
 go_simp
 go_at_call 31
 refine HIN.out.mono ?_
 rintro e w6 ⟨rfl,hw6⟩
 subst hw6
 go_wp2_with fail
 refine hK.out _ _ (HCX.out _ (below_drew (Below.refl _ _))) (fun hHeld122=>?_)
 clear hK K
 try simp only [sp]
 refine tk 5 ?_;simp only [sp]
 refine tk 6 ?_;simp only [sp]
 refine tk 7 ?_;simp only [sp]
 refine tk 8 ?_;simp only [sp]
 refine tk 9 ?_;simp only [sp]
 refine tk 10 ?_;simp only [sp]
 refine tn 11 ?_;simp only [sp]
 refine tn 12 ?_;simp only [sp]
 refine tn 13 ?_;simp only [sp]
 refine tn 14 ?_;simp only [sp]
 refine tn 15 ?_;simp only [sp]
 refine tn 16 ?_;simp only [sp]
 refine tn 17 ?_;simp only [sp]
 refine tn 18 ?_;simp only [sp]
 refine tn 19 ?_;simp only [sp]
 refine tn 20 ?_;simp only [sp]
 refine tk 21 ?_;simp only [sp]
 refine tk 22 ?_;simp only [sp]
 refine wpAnyH_done (by kernel_rfl) ?_ _
 obtain ⟨k00,k01,k02,k03,k20,k21,k22,kz⟩:=HCX.out X.drew (below_drew (Below.refl _ _))
 have HOY:=hide (HOX.out.up (below_drew (Below.refl X.heap.size X)))
 have HWY:=hide (show Below C w X.drew from below_drew HWX.out)
 have hCY:C≤X.drew.heap.size:=hCX
 have hgY:gz<X.drew.heap.size:=hgz
 have hlY:w.heap.size<X.drew.heap.size∧w.heap.size+1<X.drew.heap.size∧w.heap.size+2<X.drew.heap.size:=HRX.out.lt
 obtain ⟨m0,m1,m2'⟩:=hlY
 clear HCX HIN
 generalize X.drew=Y at *
 obtain ⟨a8,c8,W8,r1,q1,q2⟩:=HOY.out.put [z] (fun y hy=>by simp at hy;subst hy;exact ⟨hz1,hz2⟩) (by simp;omega) (by simp) hCY
 have HQ1:=hide q1
 have HQ2:=hide (HWY.out.trans q2)
 clear q1 q2
 have r1:(Builtin.append_ #[37,37] 37 #[.slice ar r.length dr,.slice (some ⟨Y.heap.size,0,none⟩) 1 1]).run Tryd.prog (Y.alloc (.cells #[.int .i64 (z)] 3))=.ok (.slice a8 (r++[z]).length c8) W8:=r1
 go_wp2_with (at_builtin;(refine wpList_append_eq rfl _ _ 37 37 rfl rfl rfl r1 ?_;clear r1))
 go_ret2
 exact ⟨HQ2.out,a8,c8,by rw [List.length_append];rfl,HQ1.out⟩
theorem ob_15t (P:PgAt B w v1 v2 v3 v4 p) (hB:B≤w.heap.size) (s1:SlAt 1 IntP B w u1 f.lo) (s2:SlAt 1 IntP B w u2 f.re) (s3:SlAt 1 IntP B w u3 f.ar) (Rs:SlAt 1 IntP Bs w vs s) (O:OwI C w vr r) (hsC:Bs≤C) (hC:C≤w.heap.size) (hr:r.length≤300000000) {x y:Int} (hs:s=r++[x,y]) (hkd:Kd x) (hpt:ptrB x=true) {t:Nat} (hbt:bareK x=2+2*(t:Int)) {l:List Int} (hl:p.ty[t]?=some l) (hty:p.ty.length≤1024) {n:Nat} {z:Int} (ha:a=(n:Int)) (hin:inB (n:Int) l.length=true) (hz:l[n]?=some z) (hyz:y=z):Calls Tryd.prog 52 #[.agg #[v1,v2,v3,v4],.agg #[.int .i64 f.pa,u1,u2,u3,u4],.agg #[.int .i64 15,.int .i64 a,.int .i64 b],vs,vr] w (EfOk C r w):=by
 obtain ⟨⟨a1,d1,rfl⟩,⟨a2,d2,rfl⟩,⟨a3,d3,rfl⟩,a4,d4,rfl⟩:=fm4 P
 obtain ⟨⟨b1,x1,rfl⟩,⟨b2,x2,rfl⟩,b3,x3,rfl⟩:=fm3 s1 s2 s3
 have R:=Rx.new (i:=⟨15,a,b⟩) (u4:=u4) P hB s1 s2 s3
 dsimp only at R
 obtain ⟨W1,hW1⟩:=exR R
 rw [hW1] at R
 obtain ⟨c00,c01,c02,c03⟩:=R.c0
 obtain ⟨c10,c11,c12,c13⟩:=R.c1
 obtain ⟨c20,c21,c22⟩:=R.c2
 obtain ⟨l0,l1,l2⟩:=R.lt
 dsimp only at c20 c21 c22
 have HR:=hide R
 clear P s1 s2 s3
 have b1:=R.bel
 obtain ⟨sa,ds,hvs⟩:=sl_form Rs
 obtain ⟨ar,dr,hvr⟩:=O.form
 subst hvs hvr
 have Rs1:SlAt 1 IntP Bs W1 (.slice sa s.length ds) s:=ints_keep (Nat.le_refl _) (fun j hj=>b1.block j (by omega)) Rs
 have HO:=hide (O.up b1)
 have HRS:=hide Rs1
 have HWC:=hide (show Below C w W1 from b1.mono hC)
 have hC1:C≤W1.heap.size:=Nat.le_trans hC b1.size
 clear Rs O b1 R
 obtain ⟨L,hL⟩ : ∃ L,s.length=L:=⟨_,rfl⟩
 obtain ⟨q,hq⟩ : ∃ q,L - 1=q:=⟨_,rfl⟩
 have hLr:L=r.length+2:=by rw [← hL,hs];simp
 have hy:s[q]?=some y:=by rw [hs,← hq,hLr,List.getElem?_append_right (by omega)];simp
 have hx:s[r.length]?=some x:=by rw [hs,List.getElem?_append_right (by omega)];simp
 obtain ⟨g',o',c',hv',hg',hcx,_,_⟩:=il_at Rs1 hx
 obtain ⟨g,o,c,hv,hg,hcy,_,_⟩:=il_at Rs1 hy
 cases hv'
 cases hv
 rw [hL] at HRS ⊢
 have hgw:=Nat.lt_of_lt_of_le hg (Nat.le_trans hsC hC1)
 have hql:q<L:=by omega
 have dq:decide (q<L)=true:=by simpa using hql
 have dL:decide (0<L)=true:=by simp;omega
 have dL2:decide ((0:Int)<(L:Int))=true:=by simp;omega
 have hwq:IntKind.i64.wrap ((L:Int) - 1)=(q:Int):=by
  rw [show (L:Int) - 1=(q:Int) by omega]
  exact wrap_nat (by omega)
 have hrl:r.length<L:=by omega
 have drl:decide (r.length<L)=true:=by simpa using hrl
 clear hLr hy hs hL hq hx
 subst ha
 have HPT:=hide (rptr_any W1 (k:=x) ⟨by have:=hkd.1;omega,hkd.2⟩)
 rw [hpt] at HPT
 have HBA:=hide (rbase_any W1.drew (k:=x) ⟨by have:=hkd.1;omega,hkd.2⟩)
 have htl:t<p.ty.length:=get_lt hl
 obtain ⟨m,hm⟩ : ∃ m:Nat,m=2*t:=⟨_,rfl⟩
 have hbm:bareK x=((m+2:Nat):Int):=by rw [hbt];omega
 rw [hbm] at HBA
 have hwb:IntKind.i64.wrap (((m+2:Nat):Int) - 2)=(m:Int):=by
  rw [show ((m+2:Nat):Int) - 2=(m:Int) by omega]
  exact wrap_nat (by omega)
 have hdv:(m:Int) / 2=(t:Int):=by omega
 have hdv2:m / 2=t:=by omega
 have hwt:IntKind.i64.wrap (t:Int)=(t:Int):=wrap_nat (by omega)
 obtain ⟨g2,o2,c2,nn,u,hv2,hnn,_,hg2,hc2,hsl⟩:=lst_at HR.out.pg.ty hl
 cases hv2
 obtain ⟨ua,uc,hu⟩:=sl_form hsl
 subst hu
 have HSL:=hide hsl
 have hg2w:g2<W1.heap.size:=by have:=HR.out.hB;have:=HR.out.bel.size;omega
 have dt:decide (t<p.ty.length)=true:=by simpa using htl
 clear hnn hsl hl hbt hbm hm
 generalize m+2=m2 at *
 go_enter Tryd.func52,Tryd.ntmps52
 go_wp2_with fail
 refine HPT.out.mono ?_
 rintro e w5 ⟨rfl,hw5⟩
 rw [hw5]
 clear hw5
 go_upto_region 27 with (fail)
 refine wp_region_held_drew (S:=(fun W:World=>W=W1.drew∧W.cell? ⟨w.heap.size,0,none⟩=some (.slice (some ⟨g2,o2,none⟩) p.ty.length d1)∧W.cell? ⟨g2,o2+t,none⟩=some (.slice ua l.length uc))) (by kernel_rfl) ⟨rfl,c00,hc2⟩ (fun hHeld141=>?_)
 refine tk 0 ?_;simp only [sp]
 refine tk 1 ?_;simp only [sp]
 refine tk 2 ?_;simp only [sp]
 refine rd 3 (fun K hK=>?_)
 go_simp
 go_at_call 73
 refine HBA.out.mono ?_
 rintro e w5 ⟨rfl,hw5⟩
 subst hw5
 go_wp2_with fail
 refine hK.out _ _ ⟨rfl,c00,hc2⟩ (fun hHeld145=>?_)
 clear hK K
 try simp only [sp]
 refine tk 4 ?_;simp only [sp]
 refine tk 5 ?_;simp only [sp]
 refine tk 6 ?_;simp only [sp]
 refine tk 7 ?_;simp only [sp]
 refine tk 8 ?_;simp only [sp]
 refine tk 9 ?_;simp only [sp]
 refine wpAnyH_done (by kernel_rfl) ?_ _
 have HRX:=hide (HR.out.up (below_drew (Below.refl W1.heap.size W1)))
 have HOX:=hide (HO.out.up (below_drew (Below.refl W1.heap.size W1)))
 have HWX:=hide (show Below C w W1.drew from below_drew HWC.out)
 have HSX:=hide (show SlAt 1 IntP B W1.drew (.slice ua l.length uc) l from ints_keep (Nat.le_refl _) (fun _ _=>rfl) HSL.out)
 have hCX:C≤W1.drew.heap.size:=hC1
 clear HPT HBA hwb hdv hdv2 c00 c01 c02 c03 c10 c11 c12 c13 c20 c21 c22 hc2 HR HO HWC HSL hC1 hW1
 generalize W1.drew=X at *
 have HIN:=hide (rin_any X.drew (n:Int) l.length)
 rw [hin] at HIN
 obtain ⟨gz,oz,cz,hvz,hgzB,hcz,hz1,hz2⟩:=il_at HSX.out hz
 cases hvz
 have hgz:gz<X.heap.size:=by have:=HRX.out.hB;have:=HRX.out.bel.size;omega
 have hnl:n<l.length:=get_lt hz
 have dn:decide (n<l.length)=true:=by simpa using hnl
 have HCX:=hide (show ∀ W:World,Below X.heap.size X W→(fun W:World=>W.cell? ⟨w.heap.size,0,none⟩=some (.slice (some ⟨g2,o2,none⟩) p.ty.length d1)∧W.cell? ⟨w.heap.size,1,none⟩=some (.slice a2 p.fu.length d2)∧W.cell? ⟨w.heap.size,2,none⟩=some (.slice a3 p.ta.length d3)∧W.cell? ⟨w.heap.size,3,none⟩=some (.slice a4 p.st.length d4)∧W.cell? ⟨w.heap.size+2,0,none⟩=some (.int .i64 15)∧W.cell? ⟨w.heap.size+2,1,none⟩=some (.int .i64 (n:Int))∧W.cell? ⟨w.heap.size+2,2,none⟩=some (.int .i64 b)∧W.cell? ⟨gz,oz+n,none⟩=some (.int .i64 z)) W from fun W h=>by
  have R:=HRX.out.up h
  exact ⟨R.c0.1,R.c0.2.1,R.c0.2.2.1,R.c0.2.2.2,R.c2.1,R.c2.2.1,R.c2.2.2,(h.cell (p:=⟨gz,oz+n,none⟩) hgz).trans hcz⟩)
 clear hz hin
 go_upto_region 28 with (fail)
 refine wp_region_held_drew (S:=(fun W:World=>W.cell? ⟨w.heap.size,0,none⟩=some (.slice (some ⟨g2,o2,none⟩) p.ty.length d1)∧W.cell? ⟨w.heap.size,1,none⟩=some (.slice a2 p.fu.length d2)∧W.cell? ⟨w.heap.size,2,none⟩=some (.slice a3 p.ta.length d3)∧W.cell? ⟨w.heap.size,3,none⟩=some (.slice a4 p.st.length d4)∧W.cell? ⟨w.heap.size+2,0,none⟩=some (.int .i64 15)∧W.cell? ⟨w.heap.size+2,1,none⟩=some (.int .i64 (n:Int))∧W.cell? ⟨w.heap.size+2,2,none⟩=some (.int .i64 b)∧W.cell? ⟨gz,oz+n,none⟩=some (.int .i64 z))) (by kernel_rfl) (HCX.out _ (below_drew (Below.refl _ _))) (fun hHeld152=>?_)
 refine tk 0 ?_;simp only [sp]
 refine tk 1 ?_;simp only [sp]
 refine tk 2 ?_;simp only [sp]
 refine tk 3 ?_;simp only [sp]
 refine rd 4 (fun K hK=>?_)
 go_simp
 go_at_call 31
 refine HIN.out.mono ?_
 rintro e w6 ⟨rfl,hw6⟩
 subst hw6
 go_wp2_with fail
 refine hK.out _ _ (HCX.out _ (below_drew (Below.refl _ _))) (fun hHeld157=>?_)
 clear hK K
 try simp only [sp]
 refine tk 5 ?_;simp only [sp]
 refine tk 6 ?_;simp only [sp]
 refine tk 7 ?_;simp only [sp]
 refine tk 8 ?_;simp only [sp]
 refine tk 9 ?_;simp only [sp]
 refine tk 10 ?_;simp only [sp]
 refine tn 11 ?_;simp only [sp]
 refine tn 12 ?_;simp only [sp]
 refine tn 13 ?_;simp only [sp]
 refine tn 14 ?_;simp only [sp]
 refine tn 15 ?_;simp only [sp]
 refine tn 16 ?_;simp only [sp]
 refine tn 17 ?_;simp only [sp]
 refine tn 18 ?_;simp only [sp]
 refine tn 19 ?_;simp only [sp]
 refine tn 20 ?_;simp only [sp]
 refine tk 21 ?_;simp only [sp]
 refine tk 22 ?_;simp only [sp]
 refine wpAnyH_done (by kernel_rfl) ?_ _
 obtain ⟨k00,k01,k02,k03,k20,k21,k22,kz⟩:=HCX.out X.drew (below_drew (Below.refl _ _))
 have HOY:=hide (HOX.out.up (below_drew (Below.refl X.heap.size X)))
 have HWY:=hide (show Below C w X.drew from below_drew HWX.out)
 have hCY:C≤X.drew.heap.size:=hCX
 have hgY:gz<X.drew.heap.size:=hgz
 have hlY:w.heap.size<X.drew.heap.size∧w.heap.size+1<X.drew.heap.size∧w.heap.size+2<X.drew.heap.size:=HRX.out.lt
 obtain ⟨m0,m1,m2'⟩:=hlY
 clear HCX HIN
 generalize X.drew=Y at *
 have eyz:(y == z)=true:=by simp [hyz]
 have HKD:=hide (rkt_any (w:=Y) ar r.length dr)
 clear hyz
 go_wp2_with fail
 refine HKD.out.mono ?_
 rintro e w9 ⟨rfl,hw9⟩
 subst hw9
 go_wp2_with fail
 go_ret2
 exact ⟨HWY.out,ar,dr,rfl,HOY.out⟩
theorem ob_15f (P:PgAt B w v1 v2 v3 v4 p) (hB:B≤w.heap.size) (s1:SlAt 1 IntP B w u1 f.lo) (s2:SlAt 1 IntP B w u2 f.re) (s3:SlAt 1 IntP B w u3 f.ar) (Rs:SlAt 1 IntP Bs w vs s) (O:OwI C w vr r) (hsC:Bs≤C) (hC:C≤w.heap.size) (hr:r.length≤300000000) {x y:Int} (hs:s=r++[x,y]) (hkd:Kd x) (hpt:ptrB x=true) {t:Nat} (hbt:bareK x=2+2*(t:Int)) {l:List Int} (hl:p.ty[t]?=some l) (hty:p.ty.length≤1024) {n:Nat} {z:Int} (ha:a=(n:Int)) (hin:inB (n:Int) l.length=true) (hz:l[n]?=some z) (hyz:¬ y=z):Calls Tryd.prog 52 #[.agg #[v1,v2,v3,v4],.agg #[.int .i64 f.pa,u1,u2,u3,u4],.agg #[.int .i64 15,.int .i64 a,.int .i64 b],vs,vr] w (EfNo C 8 w):=by
 obtain ⟨⟨a1,d1,rfl⟩,⟨a2,d2,rfl⟩,⟨a3,d3,rfl⟩,a4,d4,rfl⟩:=fm4 P
 obtain ⟨⟨b1,x1,rfl⟩,⟨b2,x2,rfl⟩,b3,x3,rfl⟩:=fm3 s1 s2 s3
 have R:=Rx.new (i:=⟨15,a,b⟩) (u4:=u4) P hB s1 s2 s3
 dsimp only at R
 obtain ⟨W1,hW1⟩:=exR R
 rw [hW1] at R
 obtain ⟨c00,c01,c02,c03⟩:=R.c0
 obtain ⟨c10,c11,c12,c13⟩:=R.c1
 obtain ⟨c20,c21,c22⟩:=R.c2
 obtain ⟨l0,l1,l2⟩:=R.lt
 dsimp only at c20 c21 c22
 have HR:=hide R
 clear P s1 s2 s3
 have b1:=R.bel
 obtain ⟨sa,ds,hvs⟩:=sl_form Rs
 obtain ⟨ar,dr,hvr⟩:=O.form
 subst hvs hvr
 have Rs1:SlAt 1 IntP Bs W1 (.slice sa s.length ds) s:=ints_keep (Nat.le_refl _) (fun j hj=>b1.block j (by omega)) Rs
 have HO:=hide (O.up b1)
 have HRS:=hide Rs1
 have HWC:=hide (show Below C w W1 from b1.mono hC)
 have hC1:C≤W1.heap.size:=Nat.le_trans hC b1.size
 clear Rs O b1 R
 obtain ⟨L,hL⟩ : ∃ L,s.length=L:=⟨_,rfl⟩
 obtain ⟨q,hq⟩ : ∃ q,L - 1=q:=⟨_,rfl⟩
 have hLr:L=r.length+2:=by rw [← hL,hs];simp
 have hy:s[q]?=some y:=by rw [hs,← hq,hLr,List.getElem?_append_right (by omega)];simp
 have hx:s[r.length]?=some x:=by rw [hs,List.getElem?_append_right (by omega)];simp
 obtain ⟨g',o',c',hv',hg',hcx,_,_⟩:=il_at Rs1 hx
 obtain ⟨g,o,c,hv,hg,hcy,_,_⟩:=il_at Rs1 hy
 cases hv'
 cases hv
 rw [hL] at HRS ⊢
 have hgw:=Nat.lt_of_lt_of_le hg (Nat.le_trans hsC hC1)
 have hql:q<L:=by omega
 have dq:decide (q<L)=true:=by simpa using hql
 have dL:decide (0<L)=true:=by simp;omega
 have dL2:decide ((0:Int)<(L:Int))=true:=by simp;omega
 have hwq:IntKind.i64.wrap ((L:Int) - 1)=(q:Int):=by
  rw [show (L:Int) - 1=(q:Int) by omega]
  exact wrap_nat (by omega)
 have hrl:r.length<L:=by omega
 have drl:decide (r.length<L)=true:=by simpa using hrl
 clear hLr hy hs hL hq hx
 subst ha
 have HPT:=hide (rptr_any W1 (k:=x) ⟨by have:=hkd.1;omega,hkd.2⟩)
 rw [hpt] at HPT
 have HBA:=hide (rbase_any W1.drew (k:=x) ⟨by have:=hkd.1;omega,hkd.2⟩)
 have htl:t<p.ty.length:=get_lt hl
 obtain ⟨m,hm⟩ : ∃ m:Nat,m=2*t:=⟨_,rfl⟩
 have hbm:bareK x=((m+2:Nat):Int):=by rw [hbt];omega
 rw [hbm] at HBA
 have hwb:IntKind.i64.wrap (((m+2:Nat):Int) - 2)=(m:Int):=by
  rw [show ((m+2:Nat):Int) - 2=(m:Int) by omega]
  exact wrap_nat (by omega)
 have hdv:(m:Int) / 2=(t:Int):=by omega
 have hdv2:m / 2=t:=by omega
 have hwt:IntKind.i64.wrap (t:Int)=(t:Int):=wrap_nat (by omega)
 obtain ⟨g2,o2,c2,nn,u,hv2,hnn,_,hg2,hc2,hsl⟩:=lst_at HR.out.pg.ty hl
 cases hv2
 obtain ⟨ua,uc,hu⟩:=sl_form hsl
 subst hu
 have HSL:=hide hsl
 have hg2w:g2<W1.heap.size:=by have:=HR.out.hB;have:=HR.out.bel.size;omega
 have dt:decide (t<p.ty.length)=true:=by simpa using htl
 clear hnn hsl hl hbt hbm hm
 generalize m+2=m2 at *
 go_enter Tryd.func52,Tryd.ntmps52
 go_wp2_with fail
 refine HPT.out.mono ?_
 rintro e w5 ⟨rfl,hw5⟩
 rw [hw5]
 clear hw5
 go_upto_region 27 with (fail)
 refine wp_region_held_drew (S:=(fun W:World=>W=W1.drew∧W.cell? ⟨w.heap.size,0,none⟩=some (.slice (some ⟨g2,o2,none⟩) p.ty.length d1)∧W.cell? ⟨g2,o2+t,none⟩=some (.slice ua l.length uc))) (by kernel_rfl) ⟨rfl,c00,hc2⟩ (fun hHeld176=>?_)
 refine tk 0 ?_;simp only [sp]
 refine tk 1 ?_;simp only [sp]
 refine tk 2 ?_;simp only [sp]
 refine rd 3 (fun K hK=>?_)
 go_simp
 go_at_call 73
 refine HBA.out.mono ?_
 rintro e w5 ⟨rfl,hw5⟩
 subst hw5
 go_wp2_with fail
 refine hK.out _ _ ⟨rfl,c00,hc2⟩ (fun hHeld180=>?_)
 clear hK K
 try simp only [sp]
 refine tk 4 ?_;simp only [sp]
 refine tk 5 ?_;simp only [sp]
 refine tk 6 ?_;simp only [sp]
 refine tk 7 ?_;simp only [sp]
 refine tk 8 ?_;simp only [sp]
 refine tk 9 ?_;simp only [sp]
 refine wpAnyH_done (by kernel_rfl) ?_ _
 have HRX:=hide (HR.out.up (below_drew (Below.refl W1.heap.size W1)))
 have HOX:=hide (HO.out.up (below_drew (Below.refl W1.heap.size W1)))
 have HWX:=hide (show Below C w W1.drew from below_drew HWC.out)
 have HSX:=hide (show SlAt 1 IntP B W1.drew (.slice ua l.length uc) l from ints_keep (Nat.le_refl _) (fun _ _=>rfl) HSL.out)
 have hCX:C≤W1.drew.heap.size:=hC1
 clear HPT HBA hwb hdv hdv2 c00 c01 c02 c03 c10 c11 c12 c13 c20 c21 c22 hc2 HR HO HWC HSL hC1 hW1
 generalize W1.drew=X at *
 have HIN:=hide (rin_any X.drew (n:Int) l.length)
 rw [hin] at HIN
 obtain ⟨gz,oz,cz,hvz,hgzB,hcz,hz1,hz2⟩:=il_at HSX.out hz
 cases hvz
 have hgz:gz<X.heap.size:=by have:=HRX.out.hB;have:=HRX.out.bel.size;omega
 have hnl:n<l.length:=get_lt hz
 have dn:decide (n<l.length)=true:=by simpa using hnl
 have HCX:=hide (show ∀ W:World,Below X.heap.size X W→(fun W:World=>W.cell? ⟨w.heap.size,0,none⟩=some (.slice (some ⟨g2,o2,none⟩) p.ty.length d1)∧W.cell? ⟨w.heap.size,1,none⟩=some (.slice a2 p.fu.length d2)∧W.cell? ⟨w.heap.size,2,none⟩=some (.slice a3 p.ta.length d3)∧W.cell? ⟨w.heap.size,3,none⟩=some (.slice a4 p.st.length d4)∧W.cell? ⟨w.heap.size+2,0,none⟩=some (.int .i64 15)∧W.cell? ⟨w.heap.size+2,1,none⟩=some (.int .i64 (n:Int))∧W.cell? ⟨w.heap.size+2,2,none⟩=some (.int .i64 b)∧W.cell? ⟨gz,oz+n,none⟩=some (.int .i64 z)) W from fun W h=>by
  have R:=HRX.out.up h
  exact ⟨R.c0.1,R.c0.2.1,R.c0.2.2.1,R.c0.2.2.2,R.c2.1,R.c2.2.1,R.c2.2.2,(h.cell (p:=⟨gz,oz+n,none⟩) hgz).trans hcz⟩)
 clear hz hin
 go_upto_region 28 with (fail)
 refine wp_region_held_drew (S:=(fun W:World=>W.cell? ⟨w.heap.size,0,none⟩=some (.slice (some ⟨g2,o2,none⟩) p.ty.length d1)∧W.cell? ⟨w.heap.size,1,none⟩=some (.slice a2 p.fu.length d2)∧W.cell? ⟨w.heap.size,2,none⟩=some (.slice a3 p.ta.length d3)∧W.cell? ⟨w.heap.size,3,none⟩=some (.slice a4 p.st.length d4)∧W.cell? ⟨w.heap.size+2,0,none⟩=some (.int .i64 15)∧W.cell? ⟨w.heap.size+2,1,none⟩=some (.int .i64 (n:Int))∧W.cell? ⟨w.heap.size+2,2,none⟩=some (.int .i64 b)∧W.cell? ⟨gz,oz+n,none⟩=some (.int .i64 z))) (by kernel_rfl) (HCX.out _ (below_drew (Below.refl _ _))) (fun hHeld187=>?_)
 refine tk 0 ?_;simp only [sp]
 refine tk 1 ?_;simp only [sp]
 refine tk 2 ?_;simp only [sp]
 refine tk 3 ?_;simp only [sp]
 refine rd 4 (fun K hK=>?_)
 go_simp
 go_at_call 31
 refine HIN.out.mono ?_
 rintro e w6 ⟨rfl,hw6⟩
 subst hw6
 go_wp2_with fail
 refine hK.out _ _ (HCX.out _ (below_drew (Below.refl _ _))) (fun hHeld192=>?_)
 clear hK K
 try simp only [sp]
 refine tk 5 ?_;simp only [sp]
 refine tk 6 ?_;simp only [sp]
 refine tk 7 ?_;simp only [sp]
 refine tk 8 ?_;simp only [sp]
 refine tk 9 ?_;simp only [sp]
 refine tk 10 ?_;simp only [sp]
 refine tn 11 ?_;simp only [sp]
 refine tn 12 ?_;simp only [sp]
 refine tn 13 ?_;simp only [sp]
 refine tn 14 ?_;simp only [sp]
 refine tn 15 ?_;simp only [sp]
 refine tn 16 ?_;simp only [sp]
 refine tn 17 ?_;simp only [sp]
 refine tn 18 ?_;simp only [sp]
 refine tn 19 ?_;simp only [sp]
 refine tn 20 ?_;simp only [sp]
 refine tk 21 ?_;simp only [sp]
 refine tk 22 ?_;simp only [sp]
 refine wpAnyH_done (by kernel_rfl) ?_ _
 obtain ⟨k00,k01,k02,k03,k20,k21,k22,kz⟩:=HCX.out X.drew (below_drew (Below.refl _ _))
 have HOY:=hide (HOX.out.up (below_drew (Below.refl X.heap.size X)))
 have HWY:=hide (show Below C w X.drew from below_drew HWX.out)
 have hCY:C≤X.drew.heap.size:=hCX
 have hgY:gz<X.drew.heap.size:=hgz
 have hlY:w.heap.size<X.drew.heap.size∧w.heap.size+1<X.drew.heap.size∧w.heap.size+2<X.drew.heap.size:=HRX.out.lt
 obtain ⟨m0,m1,m2'⟩:=hlY
 clear HCX HIN
 generalize X.drew=Y at *
 have eyz:(y == z)=false:=by simpa using hyz
 have HKD:=hide (rkf_any (w:=Y) ar r.length dr)
 clear hyz
 go_wp2_with fail
 refine HKD.out.mono ?_
 rintro e w9 ⟨rfl,hw9⟩
 subst hw9
 go_wp2_with fail
 go_ret2
 exact ⟨HWY.out,rfl⟩
theorem ob_16f (P:PgAt B w v1 v2 v3 v4 p) (hB:B≤w.heap.size) (s1:SlAt 1 IntP B w u1 f.lo) (s2:SlAt 1 IntP B w u2 f.re) (s3:SlAt 1 IntP B w u3 f.ar) (Rs:SlAt 1 IntP Bs w vs s) (O:OwI C w vr r) (hsC:Bs≤C) (hC:C≤w.heap.size) (hr:r.length≤300000000) {x:Int} (hs:s=r++[x]) (hkd:Kd x) (hpt:ptrB x=true) {t:Nat} (hbt:bareK x=2+2*(t:Int)) {l:List Int} (hl:p.ty[t]?=some l) (hty:p.ty.length≤1024) {n:Nat} {z:Int} (ha:a=(n:Int)) (hin:inB (n:Int) l.length=true) (hz:l[n]?=some z) (hsg:(inB b p.ty.length && onlyB p b z)=false):Calls Tryd.prog 52 #[.agg #[v1,v2,v3,v4],.agg #[.int .i64 f.pa,u1,u2,u3,u4],.agg #[.int .i64 16,.int .i64 a,.int .i64 b],vs,vr] w (EfNo C 11 w):=by
 obtain ⟨⟨a1,d1,rfl⟩,⟨a2,d2,rfl⟩,⟨a3,d3,rfl⟩,a4,d4,rfl⟩:=fm4 P
 obtain ⟨⟨b1,x1,rfl⟩,⟨b2,x2,rfl⟩,b3,x3,rfl⟩:=fm3 s1 s2 s3
 have R:=Rx.new (i:=⟨16,a,b⟩) (u4:=u4) P hB s1 s2 s3
 dsimp only at R
 obtain ⟨W1,hW1⟩:=exR R
 rw [hW1] at R
 obtain ⟨c00,c01,c02,c03⟩:=R.c0
 obtain ⟨c10,c11,c12,c13⟩:=R.c1
 obtain ⟨c20,c21,c22⟩:=R.c2
 obtain ⟨l0,l1,l2⟩:=R.lt
 dsimp only at c20 c21 c22
 have HR:=hide R
 clear P s1 s2 s3
 have b1:=R.bel
 obtain ⟨sa,ds,hvs⟩:=sl_form Rs
 obtain ⟨ar,dr,hvr⟩:=O.form
 subst hvs hvr
 have Rs1:SlAt 1 IntP Bs W1 (.slice sa s.length ds) s:=ints_keep (Nat.le_refl _) (fun j hj=>b1.block j (by omega)) Rs
 have HO:=hide (O.up b1)
 have HRS:=hide Rs1
 have HWC:=hide (show Below C w W1 from b1.mono hC)
 have hC1:C≤W1.heap.size:=Nat.le_trans hC b1.size
 clear Rs O b1 R
 obtain ⟨L,hL⟩ : ∃ L,s.length=L:=⟨_,rfl⟩
 obtain ⟨q,hq⟩ : ∃ q,L - 1=q:=⟨_,rfl⟩
 have hLr:L=r.length+1:=by rw [← hL,hs];simp
 have hy:s[q]?=some x:=by rw [hs,← hq,hLr,List.getElem?_append_right (by omega)];simp
 obtain ⟨g,o,c,hv,hg,hcy,_,_⟩:=il_at Rs1 hy
 cases hv
 rw [hL] at HRS ⊢
 have hgw:=Nat.lt_of_lt_of_le hg (Nat.le_trans hsC hC1)
 have hql:q<L:=by omega
 have dq:decide (q<L)=true:=by simpa using hql
 have dL:decide (0<L)=true:=by simp;omega
 have dL2:decide ((0:Int)<(L:Int))=true:=by simp;omega
 have hwq:IntKind.i64.wrap ((L:Int) - 1)=(q:Int):=by
  rw [show (L:Int) - 1=(q:Int) by omega]
  exact wrap_nat (by omega)
 have hqr:q=r.length:=by omega
 subst hqr
 clear hLr hy hs hL hq
 subst ha
 have HPT:=hide (rptr_any W1 (k:=x) ⟨by have:=hkd.1;omega,hkd.2⟩)
 rw [hpt] at HPT
 have HBA:=hide (rbase_any W1.drew (k:=x) ⟨by have:=hkd.1;omega,hkd.2⟩)
 have htl:t<p.ty.length:=get_lt hl
 obtain ⟨m,hm⟩ : ∃ m:Nat,m=2*t:=⟨_,rfl⟩
 have hbm:bareK x=((m+2:Nat):Int):=by rw [hbt];omega
 rw [hbm] at HBA
 have hwb:IntKind.i64.wrap (((m+2:Nat):Int) - 2)=(m:Int):=by
  rw [show ((m+2:Nat):Int) - 2=(m:Int) by omega]
  exact wrap_nat (by omega)
 have hdv:(m:Int) / 2=(t:Int):=by omega
 have hdv2:m / 2=t:=by omega
 have hwt:IntKind.i64.wrap (t:Int)=(t:Int):=wrap_nat (by omega)
 obtain ⟨g2,o2,c2,nn,u,hv2,hnn,_,hg2,hc2,hsl⟩:=lst_at HR.out.pg.ty hl
 cases hv2
 obtain ⟨ua,uc,hu⟩:=sl_form hsl
 subst hu
 have HSL:=hide hsl
 have hg2w:g2<W1.heap.size:=by have:=HR.out.hB;have:=HR.out.bel.size;omega
 have dt:decide (t<p.ty.length)=true:=by simpa using htl
 clear hnn hsl hl hbt hbm hm
 generalize m+2=m2 at *
 go_enter Tryd.func52,Tryd.ntmps52
 go_wp2_with fail
 refine HPT.out.mono ?_
 rintro e w5 ⟨rfl,hw5⟩
 rw [hw5]
 clear hw5
 go_upto_region 27 with (fail)
 refine wp_region_held_drew (S:=(fun W:World=>W=W1.drew∧W.cell? ⟨w.heap.size,0,none⟩=some (.slice (some ⟨g2,o2,none⟩) p.ty.length d1)∧W.cell? ⟨g2,o2+t,none⟩=some (.slice ua l.length uc))) (by kernel_rfl) ⟨rfl,c00,hc2⟩ (fun hHeld211=>?_)
 refine tk 0 ?_;simp only [sp]
 refine tk 1 ?_;simp only [sp]
 refine tk 2 ?_;simp only [sp]
 refine rd 3 (fun K hK=>?_)
 go_simp
 go_at_call 73
 refine HBA.out.mono ?_
 rintro e w5 ⟨rfl,hw5⟩
 subst hw5
 go_wp2_with fail
 refine hK.out _ _ ⟨rfl,c00,hc2⟩ (fun hHeld215=>?_)
 clear hK K
 try simp only [sp]
 refine tk 4 ?_;simp only [sp]
 refine tk 5 ?_;simp only [sp]
 refine tk 6 ?_;simp only [sp]
 refine tk 7 ?_;simp only [sp]
 refine tk 8 ?_;simp only [sp]
 refine tk 9 ?_;simp only [sp]
 refine wpAnyH_done (by kernel_rfl) ?_ _
 have HRX:=hide (HR.out.up (below_drew (Below.refl W1.heap.size W1)))
 have HOX:=hide (HO.out.up (below_drew (Below.refl W1.heap.size W1)))
 have HWX:=hide (show Below C w W1.drew from below_drew HWC.out)
 have HSX:=hide (show SlAt 1 IntP B W1.drew (.slice ua l.length uc) l from ints_keep (Nat.le_refl _) (fun _ _=>rfl) HSL.out)
 have hCX:C≤W1.drew.heap.size:=hC1
 clear HPT HBA hwb hdv hdv2 c00 c01 c02 c03 c10 c11 c12 c13 c20 c21 c22 hc2 HR HO HWC HSL hC1 hW1
 generalize W1.drew=X at *
 have HIN:=hide (rin_any X.drew (n:Int) l.length)
 rw [hin] at HIN
 obtain ⟨gz,oz,cz,hvz,hgzB,hcz,hz1,hz2⟩:=il_at HSX.out hz
 cases hvz
 have hgz:gz<X.heap.size:=by have:=HRX.out.hB;have:=HRX.out.bel.size;omega
 have hnl:n<l.length:=get_lt hz
 have dn:decide (n<l.length)=true:=by simpa using hnl
 have HCX:=hide (show ∀ W:World,Below X.heap.size X W→(fun W:World=>W.cell? ⟨w.heap.size,0,none⟩=some (.slice (some ⟨g2,o2,none⟩) p.ty.length d1)∧W.cell? ⟨w.heap.size,1,none⟩=some (.slice a2 p.fu.length d2)∧W.cell? ⟨w.heap.size,2,none⟩=some (.slice a3 p.ta.length d3)∧W.cell? ⟨w.heap.size,3,none⟩=some (.slice a4 p.st.length d4)∧W.cell? ⟨w.heap.size+2,0,none⟩=some (.int .i64 16)∧W.cell? ⟨w.heap.size+2,1,none⟩=some (.int .i64 (n:Int))∧W.cell? ⟨w.heap.size+2,2,none⟩=some (.int .i64 b)∧W.cell? ⟨gz,oz+n,none⟩=some (.int .i64 z)) W from fun W h=>by
  have R:=HRX.out.up h
  exact ⟨R.c0.1,R.c0.2.1,R.c0.2.2.1,R.c0.2.2.2,R.c2.1,R.c2.2.1,R.c2.2.2,(h.cell (p:=⟨gz,oz+n,none⟩) hgz).trans hcz⟩)
 have HSG:=hide (rsingle_any (HRX.out.up (below_drew (Below.refl X.heap.size X))).pg (Nat.le_trans HRX.out.hB HRX.out.bel.size) b z)
 rw [hsg] at HSG
 clear hz hin
 go_upto_region 28 with (fail)
 refine wp_region_held_drew (S:=(fun W:World=>W.cell? ⟨w.heap.size,0,none⟩=some (.slice (some ⟨g2,o2,none⟩) p.ty.length d1)∧W.cell? ⟨w.heap.size,1,none⟩=some (.slice a2 p.fu.length d2)∧W.cell? ⟨w.heap.size,2,none⟩=some (.slice a3 p.ta.length d3)∧W.cell? ⟨w.heap.size,3,none⟩=some (.slice a4 p.st.length d4)∧W.cell? ⟨w.heap.size+2,0,none⟩=some (.int .i64 16)∧W.cell? ⟨w.heap.size+2,1,none⟩=some (.int .i64 (n:Int))∧W.cell? ⟨w.heap.size+2,2,none⟩=some (.int .i64 b)∧W.cell? ⟨gz,oz+n,none⟩=some (.int .i64 z))) (by kernel_rfl) (HCX.out _ (below_drew (Below.refl _ _))) (fun hHeld222=>?_)
 refine tk 0 ?_;simp only [sp]
 refine tk 1 ?_;simp only [sp]
 refine tk 2 ?_;simp only [sp]
 refine tk 3 ?_;simp only [sp]
 refine rd 4 (fun K hK=>?_)
 go_simp
 go_at_call 31
 refine HIN.out.mono ?_
 rintro e w6 ⟨rfl,hw6⟩
 subst hw6
 go_wp2_with fail
 refine hK.out _ _ (HCX.out _ (below_drew (Below.refl _ _))) (fun hHeld227=>?_)
 clear hK K
 try simp only [sp]
 refine tk 5 ?_;simp only [sp]
 refine tk 6 ?_;simp only [sp]
 refine tk 7 ?_;simp only [sp]
 refine tk 8 ?_;simp only [sp]
 refine tk 9 ?_;simp only [sp]
 refine tk 10 ?_;simp only [sp]
 refine tk 11 ?_;simp only [sp]
 refine tk 12 ?_;simp only [sp]
 refine tk 13 ?_;simp only [sp]
 refine tk 14 ?_;simp only [sp]
 refine tk 15 ?_;simp only [sp]
 refine tk 16 ?_;simp only [sp]
 refine tk 17 ?_;simp only [sp]
 refine tk 18 ?_;simp only [sp]
 refine rd 19 (fun K hK=>?_)
 go_simp
 go_at_call 49
 refine HSG.out.mono ?_
 rintro e w6 ⟨rfl,hw6⟩
 have HB6:=hide (show Below X.heap.size X w6 from (below_drew (Below.refl _ _)).trans hw6)
 clear hw6
 go_wp2_with fail
 refine hK.out _ _ (HCX.out _ HB6.out) (fun hHeld242=>?_)
 clear hK K
 try simp only [sp]
 refine tk 20 ?_;simp only [sp]
 refine tk 21 ?_;simp only [sp]
 refine tk 22 ?_;simp only [sp]
 refine wpAnyH_done (by kernel_rfl) ?_ _
 go_wp2_with fail
 go_ret2
 exact ⟨HWX.out.trans (HB6.out.mono hCX),rfl⟩
theorem ob_16t (P:PgAt B w v1 v2 v3 v4 p) (hB:B≤w.heap.size) (s1:SlAt 1 IntP B w u1 f.lo) (s2:SlAt 1 IntP B w u2 f.re) (s3:SlAt 1 IntP B w u3 f.ar) (Rs:SlAt 1 IntP Bs w vs s) (O:OwI C w vr r) (hsC:Bs≤C) (hC:C≤w.heap.size) (hr:r.length≤300000000) {x:Int} (hs:s=r++[x]) (hkd:Kd x) (hpt:ptrB x=true) {t:Nat} (hbt:bareK x=2+2*(t:Int)) {l:List Int} (hl:p.ty[t]?=some l) (hty:p.ty.length≤1024) {n:Nat} {z:Int} (ha:a=(n:Int)) (hin:inB (n:Int) l.length=true) (hz:l[n]?=some z) (hsg:(inB b p.ty.length && onlyB p b z)=true) (hb:0≤b∧b≤1024):Calls Tryd.prog 52 #[.agg #[v1,v2,v3,v4],.agg #[.int .i64 f.pa,u1,u2,u3,u4],.agg #[.int .i64 16,.int .i64 a,.int .i64 b],vs,vr] w (EfOk C (r++[2+2*b+locK x]) w):=by
 obtain ⟨⟨a1,d1,rfl⟩,⟨a2,d2,rfl⟩,⟨a3,d3,rfl⟩,a4,d4,rfl⟩:=fm4 P
 obtain ⟨⟨b1,x1,rfl⟩,⟨b2,x2,rfl⟩,b3,x3,rfl⟩:=fm3 s1 s2 s3
 have R:=Rx.new (i:=⟨16,a,b⟩) (u4:=u4) P hB s1 s2 s3
 dsimp only at R
 obtain ⟨W1,hW1⟩:=exR R
 rw [hW1] at R
 obtain ⟨c00,c01,c02,c03⟩:=R.c0
 obtain ⟨c10,c11,c12,c13⟩:=R.c1
 obtain ⟨c20,c21,c22⟩:=R.c2
 obtain ⟨l0,l1,l2⟩:=R.lt
 dsimp only at c20 c21 c22
 have HR:=hide R
 clear P s1 s2 s3
 have b1:=R.bel
 obtain ⟨sa,ds,hvs⟩:=sl_form Rs
 obtain ⟨ar,dr,hvr⟩:=O.form
 subst hvs hvr
 have Rs1:SlAt 1 IntP Bs W1 (.slice sa s.length ds) s:=ints_keep (Nat.le_refl _) (fun j hj=>b1.block j (by omega)) Rs
 have HO:=hide (O.up b1)
 have HRS:=hide Rs1
 have HWC:=hide (show Below C w W1 from b1.mono hC)
 have hC1:C≤W1.heap.size:=Nat.le_trans hC b1.size
 have HOWN:=hide (show ∀ j,(Value.slice ar r.length dr).ownBlock=some j→j<w.heap.size from fun j hj=>(own_ge O.1 j hj).2)
 clear Rs O b1 R
 obtain ⟨L,hL⟩ : ∃ L,s.length=L:=⟨_,rfl⟩
 obtain ⟨q,hq⟩ : ∃ q,L - 1=q:=⟨_,rfl⟩
 have hLr:L=r.length+1:=by rw [← hL,hs];simp
 have hy:s[q]?=some x:=by rw [hs,← hq,hLr,List.getElem?_append_right (by omega)];simp
 obtain ⟨g,o,c,hv,hg,hcy,_,_⟩:=il_at Rs1 hy
 cases hv
 rw [hL] at HRS ⊢
 have hgw:=Nat.lt_of_lt_of_le hg (Nat.le_trans hsC hC1)
 have hql:q<L:=by omega
 have dq:decide (q<L)=true:=by simpa using hql
 have dL:decide (0<L)=true:=by simp;omega
 have dL2:decide ((0:Int)<(L:Int))=true:=by simp;omega
 have hwq:IntKind.i64.wrap ((L:Int) - 1)=(q:Int):=by
  rw [show (L:Int) - 1=(q:Int) by omega]
  exact wrap_nat (by omega)
 have hqr:q=r.length:=by omega
 subst hqr
 clear hLr hy hs hL hq
 subst ha
 have HOW:=hide (show ∀ j,(Value.slice ar r.length dr).ownBlock=some j→j<w.heap.size from fun j hj=>(HOWN.out j hj))
 have HPT:=hide (rptr_any W1 (k:=x) ⟨by have:=hkd.1;omega,hkd.2⟩)
 rw [hpt] at HPT
 have HBA:=hide (rbase_any W1.drew (k:=x) ⟨by have:=hkd.1;omega,hkd.2⟩)
 have htl:t<p.ty.length:=get_lt hl
 obtain ⟨m,hm⟩ : ∃ m:Nat,m=2*t:=⟨_,rfl⟩
 have hbm:bareK x=((m+2:Nat):Int):=by rw [hbt];omega
 rw [hbm] at HBA
 have hwb:IntKind.i64.wrap (((m+2:Nat):Int) - 2)=(m:Int):=by
  rw [show ((m+2:Nat):Int) - 2=(m:Int) by omega]
  exact wrap_nat (by omega)
 have hdv:(m:Int) / 2=(t:Int):=by omega
 have hdv2:m / 2=t:=by omega
 have hwt:IntKind.i64.wrap (t:Int)=(t:Int):=wrap_nat (by omega)
 obtain ⟨g2,o2,c2,nn,u,hv2,hnn,_,hg2,hc2,hsl⟩:=lst_at HR.out.pg.ty hl
 cases hv2
 obtain ⟨ua,uc,hu⟩:=sl_form hsl
 subst hu
 have HSL:=hide hsl
 have hg2w:g2<W1.heap.size:=by have:=HR.out.hB;have:=HR.out.bel.size;omega
 have dt:decide (t<p.ty.length)=true:=by simpa using htl
 clear hnn hsl hl hbt hbm hm
 generalize m+2=m2 at *
 go_enter Tryd.func52,Tryd.ntmps52
 go_wp2_with fail
 refine HPT.out.mono ?_
 rintro e w5 ⟨rfl,hw5⟩
 rw [hw5]
 clear hw5
 go_upto_region 27 with (fail)
 refine wp_region_held_drew (S:=(fun W:World=>W=W1.drew∧W.cell? ⟨w.heap.size,0,none⟩=some (.slice (some ⟨g2,o2,none⟩) p.ty.length d1)∧W.cell? ⟨g2,o2+t,none⟩=some (.slice ua l.length uc))) (by kernel_rfl) ⟨rfl,c00,hc2⟩ (fun hHeld246=>?_)
 refine tk 0 ?_;simp only [sp]
 refine tk 1 ?_;simp only [sp]
 refine tk 2 ?_;simp only [sp]
 refine rd 3 (fun K hK=>?_)
 go_simp
 go_at_call 73
 refine HBA.out.mono ?_
 rintro e w5 ⟨rfl,hw5⟩
 subst hw5
 go_wp2_with fail
 refine hK.out _ _ ⟨rfl,c00,hc2⟩ (fun hHeld250=>?_)
 clear hK K
 try simp only [sp]
 refine tk 4 ?_;simp only [sp]
 refine tk 5 ?_;simp only [sp]
 refine tk 6 ?_;simp only [sp]
 refine tk 7 ?_;simp only [sp]
 refine tk 8 ?_;simp only [sp]
 refine tk 9 ?_;simp only [sp]
 refine wpAnyH_done (by kernel_rfl) ?_ _
 have HRX:=hide (HR.out.up (below_drew (Below.refl W1.heap.size W1)))
 have HOX:=hide (HO.out.up (below_drew (Below.refl W1.heap.size W1)))
 have HWX:=hide (show Below C w W1.drew from below_drew HWC.out)
 have HSX:=hide (show SlAt 1 IntP B W1.drew (.slice ua l.length uc) l from ints_keep (Nat.le_refl _) (fun _ _=>rfl) HSL.out)
 have hCX:C≤W1.drew.heap.size:=hC1
 clear HPT HBA hwb hdv hdv2 c00 c01 c02 c03 c10 c11 c12 c13 c20 c21 c22 hc2 HR HO HWC HSL hC1 hW1
 generalize W1.drew=X at *
 have HIN:=hide (rin_any X.drew (n:Int) l.length)
 rw [hin] at HIN
 obtain ⟨gz,oz,cz,hvz,hgzB,hcz,hz1,hz2⟩:=il_at HSX.out hz
 cases hvz
 have hgz:gz<X.heap.size:=by have:=HRX.out.hB;have:=HRX.out.bel.size;omega
 have hnl:n<l.length:=get_lt hz
 have dn:decide (n<l.length)=true:=by simpa using hnl
 have HCX:=hide (show ∀ W:World,Below X.heap.size X W→(fun W:World=>W.cell? ⟨w.heap.size,0,none⟩=some (.slice (some ⟨g2,o2,none⟩) p.ty.length d1)∧W.cell? ⟨w.heap.size,1,none⟩=some (.slice a2 p.fu.length d2)∧W.cell? ⟨w.heap.size,2,none⟩=some (.slice a3 p.ta.length d3)∧W.cell? ⟨w.heap.size,3,none⟩=some (.slice a4 p.st.length d4)∧W.cell? ⟨w.heap.size+2,0,none⟩=some (.int .i64 16)∧W.cell? ⟨w.heap.size+2,1,none⟩=some (.int .i64 (n:Int))∧W.cell? ⟨w.heap.size+2,2,none⟩=some (.int .i64 b)∧W.cell? ⟨gz,oz+n,none⟩=some (.int .i64 z)) W from fun W h=>by
  have R:=HRX.out.up h
  exact ⟨R.c0.1,R.c0.2.1,R.c0.2.2.1,R.c0.2.2.2,R.c2.1,R.c2.2.1,R.c2.2.2,(h.cell (p:=⟨gz,oz+n,none⟩) hgz).trans hcz⟩)
 have HSG:=hide (rsingle_any (HRX.out.up (below_drew (Below.refl X.heap.size X))).pg (Nat.le_trans HRX.out.hB HRX.out.bel.size) b z)
 rw [hsg] at HSG
 clear hz hin
 go_upto_region 28 with (fail)
 refine wp_region_held_drew (S:=(fun W:World=>W.cell? ⟨w.heap.size,0,none⟩=some (.slice (some ⟨g2,o2,none⟩) p.ty.length d1)∧W.cell? ⟨w.heap.size,1,none⟩=some (.slice a2 p.fu.length d2)∧W.cell? ⟨w.heap.size,2,none⟩=some (.slice a3 p.ta.length d3)∧W.cell? ⟨w.heap.size,3,none⟩=some (.slice a4 p.st.length d4)∧W.cell? ⟨w.heap.size+2,0,none⟩=some (.int .i64 16)∧W.cell? ⟨w.heap.size+2,1,none⟩=some (.int .i64 (n:Int))∧W.cell? ⟨w.heap.size+2,2,none⟩=some (.int .i64 b)∧W.cell? ⟨gz,oz+n,none⟩=some (.int .i64 z))) (by kernel_rfl) (HCX.out _ (below_drew (Below.refl _ _))) (fun hHeld257=>?_)
 refine tk 0 ?_;simp only [sp]
 refine tk 1 ?_;simp only [sp]
 refine tk 2 ?_;simp only [sp]
 refine tk 3 ?_;simp only [sp]
 refine rd 4 (fun K hK=>?_)
 go_simp
 go_at_call 31
 refine HIN.out.mono ?_
 rintro e w6 ⟨rfl,hw6⟩
 subst hw6
 go_wp2_with fail
 refine hK.out _ _ (HCX.out _ (below_drew (Below.refl _ _))) (fun hHeld262=>?_)
 clear hK K
 try simp only [sp]
 refine tk 5 ?_;simp only [sp]
 refine tk 6 ?_;simp only [sp]
 refine tk 7 ?_;simp only [sp]
 refine tk 8 ?_;simp only [sp]
 refine tk 9 ?_;simp only [sp]
 refine tk 10 ?_;simp only [sp]
 refine tk 11 ?_;simp only [sp]
 refine tk 12 ?_;simp only [sp]
 refine tk 13 ?_;simp only [sp]
 refine tk 14 ?_;simp only [sp]
 refine tk 15 ?_;simp only [sp]
 refine tk 16 ?_;simp only [sp]
 refine tk 17 ?_;simp only [sp]
 refine tk 18 ?_;simp only [sp]
 refine rd 19 (fun K hK=>?_)
 go_simp
 go_at_call 49
 refine HSG.out.mono ?_
 rintro e w6 ⟨rfl,hw6⟩
 have HB6:=hide (show Below X.heap.size X w6 from (below_drew (Below.refl _ _)).trans hw6)
 clear hw6
 go_wp2_with fail
 refine hK.out _ _ (HCX.out _ HB6.out) (fun hHeld277=>?_)
 clear hK K
 try simp only [sp]
 refine tk 20 ?_;simp only [sp]
 refine tk 21 ?_;simp only [sp]
 refine tk 22 ?_;simp only [sp]
 refine wpAnyH_done (by kernel_rfl) ?_ _
 have hlk:locK x=0∨locK x=1048576:=by unfold locK;split <;> simp
 have HLC:=hide (rloc_any w6.drew (k:=x) ⟨by have:=hkd.1;omega,hkd.2⟩)
 have h1w:IntKind.i64.wrap (2*b)=2*b:=wrapI (by omega) (by omega)
 have h2w:IntKind.i64.wrap (2+2*b)=2+2*b:=wrapI (by omega) (by omega)
 have h3w:IntKind.i64.wrap (2+2*b+locK x)=2+2*b+locK x:=wrapI (by omega) (by omega)
 have hbd : -9223372036854775808≤2+2*b+locK x∧2+2*b+locK x≤9223372036854775807:=⟨by omega,by omega⟩
 have HBD:=hide (show Below X.heap.size X w6.drew from below_drew HB6.out)
 obtain ⟨k00,k01,k02,k03,k20,k21,k22,kz⟩:=HCX.out w6 HB6.out
 have HOY:=hide (HOX.out.up HBD.out)
 have HWY:=hide (show Below C w w6.drew from HWX.out.trans (HBD.out.mono hCX))
 have hCY:C≤w6.drew.heap.size:=Nat.le_trans hCX HBD.out.size
 have hl6:w.heap.size+2<w6.heap.size:=(HRX.out.up HB6.out).lt.2.2
 obtain ⟨a8,c8,W8,r1,q1,q2,q3⟩:=HOY.out.put2 (x:=2+2*b+locK x) hbd (by omega) hCY
 have HQ1:=hide q1
 have HQ2:=hide (HWY.out.trans q2)
 have HK8:=hide (show W8.cell? ⟨w.heap.size+2,2,none⟩=some (.int .i64 b) from (World.cell?_of_block (a:=⟨w.heap.size+2,2,none⟩) (q3 (w.heap.size+2) hl6 (fun e=>by have:=HOW.out _ e;omega))).trans k22)
 clear q1 q2 q3 hlk hbd
 generalize locK x=lk at *
 go_upto_region 34 with (fail)
 refine wp_region_held_drew (S:=(fun W:World=>W.cell? ⟨w.heap.size+2,2,none⟩=some (.int .i64 b))) (by kernel_rfl) k22 (fun hHeld281=>?_)
 refine tk 0 ?_;simp only [sp]
 refine tk 1 ?_;simp only [sp]
 refine tk 2 ?_;simp only [sp]
 refine tk 3 ?_;simp only [sp]
 refine tk 4 ?_;simp only [sp]
 refine tk 5 ?_;simp only [sp]
 refine rd 6 (fun K hK=>?_)
 go_simp
 go_at_call 74
 refine HLC.out.mono ?_
 rintro e w9 ⟨rfl,hw9⟩
 subst hw9
 go_wp2_with fail
 refine hK.out _ _ k22 (fun hHeld288=>?_)
 clear hK K
 try simp only [sp]
 refine tk 7 ?_;simp only [sp]
 refine rd 8 (fun K hK=>?_)
 go_simp
 go_wp2_with fail
 refine hK.out _ _ ((((Below.refl w6.drew.heap.size w6.drew).alloc (Nat.le_refl _) _).cell (p:=⟨w.heap.size+2,2,none⟩) hl6).trans k22) (fun hHeld290=>?_)
 clear hK K
 try simp only [sp]
 refine wpAnyH_ready (rs:=[9]) (by kernel_rfl) (by simp) ?_
 refine AllReadyH.cons (Go.Proofs.YtkdojpnihinpbaaDoor.dr rfl) (fun K hK=>?_) AllReadyH.nil
 refine step_append_eq (by rfl) _ _ 37 37 (by rfl) (by rfl) (by rfl) r1 ?_
 refine hK.out _ _ HK8.out (fun hHeld291=>?_)
 clear hK K
 try simp only [sp]
 clear r1
 refine tk 10 ?_;simp only [sp]
 refine tk 11 ?_;simp only [sp]
 refine wpAnyH_done (by kernel_rfl) ?_ _
 go_wp2_with fail
 go_ret2
 exact ⟨HQ2.out,a8,c8,by rw [List.length_append];rfl,by rw [List.length_append];exact HQ1.out⟩
end
end Go.Proofs.YtkdojpnihinpbaaDoor
