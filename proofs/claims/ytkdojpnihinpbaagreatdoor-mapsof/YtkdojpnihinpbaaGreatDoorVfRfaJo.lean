/- The document's effect. -/
import Derived.Test.YtkdojpnihinpbaaGreatDoorVfRgJo
namespace Go.Proofs.YtkdojpnihinpbaaGreatDoor
set_option maxRecDepth 100000
set_option maxHeartbeats 4000000
open Go.RowKit
section
variable {B Bs:Nat} {w:World} {p:Pg} {f:Fd} {a b:Int} {v1 v2 v3 v4 u1 u2 u3 u4 vs:Value} {s r:List Int}
theorem ef_1 (P:PgAt B w v1 v2 v3 v4 p) (hB:B≤w.heap.size) (s1:SlAt 1 IntP B w u1 f.lo) (s2:SlAt 1 IntP B w u2 f.re) (s3:SlAt 1 IntP B w u3 f.ar) (s4:SlAt 3 InsP B w u4 f.co) (H:Hok p) (Rs:SlAt 1 IntP Bs w vs s) (hsB:Bs≤w.heap.size) (hsl:s.length≤300000000) (hs:s=r++[]):Calls Tryz.prog 27 #[.agg #[v1,v2,v3,v4],.agg #[.int .i64 f.pa,u1,u2,u3,u4],.agg #[.int .i64 1,.int .i64 a,.int .i64 b],vs] w (EfOk w.heap.size (r++[0]) w):=by
 obtain ⟨b4,x4,hu4⟩:=sl_form s4
 subst hu4
 obtain ⟨⟨a1,d1,rfl⟩,⟨a2,d2,rfl⟩,⟨a3,d3,rfl⟩,a4,d4,rfl⟩:=fm4 P
 obtain ⟨⟨b1,x1,rfl⟩,⟨b2,x2,rfl⟩,b3,x3,rfl⟩:=fm3 s1 s2 s3
 have R:=Rx.new (i:=⟨1,a,b⟩) (u4:=.slice b4 f.co.length x4) P hB s1 s2 s3
 dsimp only at R
 obtain ⟨W1,hW1⟩:=exR R
 rw [hW1] at R
 obtain ⟨c00,c01,c02,c03⟩:=R.c0
 obtain ⟨c10,c11,c12,c13⟩:=R.c1
 obtain ⟨c20,c21,c22⟩:=R.c2
 obtain ⟨l0,l1,l2⟩:=R.lt
 dsimp only at c20 c21 c22
 have HR:=hide R
 have c14:W1.cell? ⟨w.heap.size+1,4,none⟩=some (.slice b4 f.co.length x4):=cell_of R.e1 rfl
 clear P s1 s2 s3 s4
 have b1:=R.bel
 obtain ⟨sa,ds,hvs⟩:=sl_form Rs
 subst hvs
 have HND:=hide (needs_any (i:=⟨1,a,b⟩) (u4:=.slice b4 f.co.length x4) R.pg (Nat.le_trans R.hB b1.size) R.lo R.re R.ar H ⟨by show (1:Int)≤1;decide,by show (1:Int)≤29;decide⟩ (by simp [namesB]))
 dsimp only at HND
 rw [show (takesP p f ⟨1,a,b⟩).n=0 by simp [takesP,Must.n]] at HND
 have HRS:=hide (show ∀ W:World,Below w.heap.size w W→SlAt 1 IntP Bs W (.slice sa s.length ds) s from fun W h=>ints_keep (Nat.le_refl _) (fun j hj=>h.block j (by omega)) Rs)
 have hcap:s.length≤ds:=by
  obtain ⟨_,_,hv,h,_⟩:=Rs
  cases hv
  exact h.2.1
 obtain ⟨rl,hL⟩ : ∃ rl,s.length=rl:=⟨_,rfl⟩
 have hrl:r.length=rl:=by rw [← hL,hs];simp
 have hLr:rl=rl+0:=rfl
 rw [hL] at HRS hcap hsl ⊢
 have HTK:=hide (show s.take rl=r from by rw [hs,← hrl];simp)
 have hwn:IntKind.i64.wrap (rl:Int)=(rl:Int):=by
  exact wrap_nat (by omega)
 have hrd:rl≤ds:=by omega
 have hrd2:(rl:Int)≤(ds:Int):=by omega
 have HHL:=hide hL
 have HRLN:=hide hrl
 have HHS:=hide hs
 have HLR:=hide hLr
 have hrl3:rl≤300000000:=by omega
 have hrlL0:rl≤rl:=by omega
 clear Rs hs hL hrl hLr
 go_enter Tryz.func27,Tryz.ntmps27
 go_wp2_with fail
 refine HND.out.mono ?_
 rintro e w2 ⟨rfl,hb2⟩
 have HR2:=hide (HR.out.up hb2)
 have hbw:=HR2.out.bel
 have hB2:Bs≤w2.heap.size:=Nat.le_trans hsB hbw.size
 have c3:Below w2.heap.size w2 (w2.alloc (.cells #[] 3)):=(Below.refl _ _).alloc (Nat.le_refl _) _
 have R3:SlAt 1 IntP Bs (w2.alloc (.cells #[] 3)) (.slice sa rl ds) r:=by
  have h:=HRS.out (w2.alloc (.cells #[] 3)) (bel_tr hbw c3)
  rw [← HHL.out] at h
  have h2:=sl_take h (n:=rl) (by rw [HHL.out];exact hrlL0)
  rw [HTK.out] at h2
  exact h2
 obtain ⟨a5,c5,W5,r5,q5,q6⟩:=(OwI.new (heap_new w2 (.cells #[] 3) rfl)).app R3 (by rw [HRLN.out];simp;omega) (Nat.le_of_lt (lt_of_block (heap_new w2 (.cells #[] 3) rfl)))
 rw [List.nil_append,HRLN.out] at r5 q5
 have HO5:=hide q5
 have HB5:=hide (show Below w2.heap.size w2 W5 from c3.trans q6)
 have HR5:=hide (HR2.out.up HB5.out)
 have HBW:=hide (show Below w.heap.size w W5 from bel_tr hbw HB5.out)
 have hC5:w2.heap.size≤W5.heap.size:=HB5.out.size
 have h2w:w.heap.size≤w2.heap.size:=hbw.size
 clear hb2 c3 R3 q5 q6 hbw
 by_cases h0:rl=0
 · have dL:decide (0<rl)=false:=by simp;omega
   have dL2:decide ((0:Int)<(rl:Int))=false:=by simp;omega
   clear h0
   obtain ⟨k00,k01,k02,k03⟩:=HR5.out.c0
   obtain ⟨k10,k11,k12,k13⟩:=HR5.out.c1
   obtain ⟨k20,k21,k22⟩:=HR5.out.c2
   have k14:W5.cell? ⟨w.heap.size+1,4,none⟩=some (.slice b4 f.co.length x4):=cell_of HR5.out.e1 rfl
   obtain ⟨l50,l51,l52⟩:=HR5.out.lt
   dsimp only at k20 k21 k22
   clear c00 c01 c02 c03 c10 c11 c12 c13 c14 c20 c21 c22
   obtain ⟨a8,c8,W8,r1,q1,q2⟩:=HO5.out.put [0] (fun z hz=>by simp at hz;subst hz;exact ⟨by decide,by decide⟩) (by rw [HRLN.out];simp;omega) (by simp) hC5
   rw [List.length_append,HRLN.out] at r1
   have HQ1:=hide q1
   have HQ2:=hide (show Below w.heap.size w W8 from HBW.out.trans (q2.mono h2w))
   clear q1 q2
   have r1:(Builtin.append_ #[37,37] 37 #[.slice a5 rl c5,.slice (some ⟨W5.heap.size,0,none⟩) 1 1]).run Tryz.prog (W5.alloc (.cells #[.int .i64 (0)] 3))=.ok (.slice a8 (rl+1) c8) W8:=r1
   have HFIN:=hide (show EfOk w.heap.size (r++[0]) w (.returned (.tuple #[.slice a8 (rl+1) c8,.int .i64 0])) W8 from ⟨HQ2.out,a8,c8,by rw [List.length_append,HRLN.out];rfl,HQ1.out.weak h2w⟩)
   go_wp2_with (at_builtin;first | (refine wpList_append_eq rfl _ _ 37 37 rfl rfl rfl r5 ?_;clear r5) | (refine wpList_append_eq rfl _ _ 37 37 rfl rfl rfl r1 ?_;clear r1))
   go_ret2
   exact HFIN.out
 · obtain ⟨q,hq⟩ : ∃ q,rl - 1=q:=⟨_,rfl⟩
   obtain ⟨y,hy⟩ : ∃ y,s[q]?=some y:=⟨s[q]'(by rw [HHL.out];omega),by simp⟩
   have RS5:=HRS.out W5 HBW.out
   rw [← HHL.out] at RS5
   obtain ⟨g,o,c,hv,hg,hcy,_,_⟩:=il_at RS5 hy
   cases hv
   have hgw:=Nat.lt_of_lt_of_le hg (Nat.le_trans hB2 hC5)
   have hql:q<rl:=by omega
   have dq:decide (q<rl)=true:=by simpa using hql
   have dL:decide (0<rl)=true:=by simp;omega
   have dL2:decide ((0:Int)<(rl:Int))=true:=by simp;omega
   have hwq:IntKind.i64.wrap ((rl:Int) - 1)=(q:Int):=by
    rw [show (rl:Int) - 1=(q:Int) by omega]
    exact wrap_nat (by omega)
   clear hy hq RS5 h0
   obtain ⟨k00,k01,k02,k03⟩:=HR5.out.c0
   obtain ⟨k10,k11,k12,k13⟩:=HR5.out.c1
   obtain ⟨k20,k21,k22⟩:=HR5.out.c2
   have k14:W5.cell? ⟨w.heap.size+1,4,none⟩=some (.slice b4 f.co.length x4):=cell_of HR5.out.e1 rfl
   obtain ⟨l50,l51,l52⟩:=HR5.out.lt
   dsimp only at k20 k21 k22
   clear c00 c01 c02 c03 c10 c11 c12 c13 c14 c20 c21 c22
   obtain ⟨a8,c8,W8,r1,q1,q2⟩:=HO5.out.put [0] (fun z hz=>by simp at hz;subst hz;exact ⟨by decide,by decide⟩) (by rw [HRLN.out];simp;omega) (by simp) hC5
   rw [List.length_append,HRLN.out] at r1
   have HQ1:=hide q1
   have HQ2:=hide (show Below w.heap.size w W8 from HBW.out.trans (q2.mono h2w))
   clear q1 q2
   have r1:(Builtin.append_ #[37,37] 37 #[.slice a5 rl c5,.slice (some ⟨W5.heap.size,0,none⟩) 1 1]).run Tryz.prog (W5.alloc (.cells #[.int .i64 (0)] 3))=.ok (.slice a8 (rl+1) c8) W8:=r1
   have HFIN:=hide (show EfOk w.heap.size (r++[0]) w (.returned (.tuple #[.slice a8 (rl+1) c8,.int .i64 0])) W8 from ⟨HQ2.out,a8,c8,by rw [List.length_append,HRLN.out];rfl,HQ1.out.weak h2w⟩)
   go_wp2_with (at_builtin;first | (refine wpList_append_eq rfl _ _ 37 37 rfl rfl rfl r5 ?_;clear r5) | (refine wpList_append_eq rfl _ _ 37 37 rfl rfl rfl r1 ?_;clear r1))
   go_ret2
   exact HFIN.out
theorem ef_4f (P:PgAt B w v1 v2 v3 v4 p) (hB:B≤w.heap.size) (s1:SlAt 1 IntP B w u1 f.lo) (s2:SlAt 1 IntP B w u2 f.re) (s3:SlAt 1 IntP B w u3 f.ar) (s4:SlAt 3 InsP B w u4 f.co) (H:Hok p) (Rs:SlAt 1 IntP Bs w vs s) (hsB:Bs≤w.heap.size) (hsl:s.length≤300000000) {x:Int} (hs:s=r++[x]) {n:Nat} {k:Int} (hN:namesB p f ⟨4,(n:Int),b⟩=true) (ha:a=(n:Int)) (hk:f.lo[n]?=some k) (hkd:Kd x) (hf:fitB x k=false):Calls Tryz.prog 27 #[.agg #[v1,v2,v3,v4],.agg #[.int .i64 f.pa,u1,u2,u3,u4],.agg #[.int .i64 4,.int .i64 a,.int .i64 b],vs] w (EfNo w.heap.size 8 w):=by
 obtain ⟨b4,x4,hu4⟩:=sl_form s4
 subst hu4
 obtain ⟨⟨a1,d1,rfl⟩,⟨a2,d2,rfl⟩,⟨a3,d3,rfl⟩,a4,d4,rfl⟩:=fm4 P
 obtain ⟨⟨b1,x1,rfl⟩,⟨b2,x2,rfl⟩,b3,x3,rfl⟩:=fm3 s1 s2 s3
 have R:=Rx.new (i:=⟨4,a,b⟩) (u4:=.slice b4 f.co.length x4) P hB s1 s2 s3
 dsimp only at R
 obtain ⟨W1,hW1⟩:=exR R
 rw [hW1] at R
 obtain ⟨c00,c01,c02,c03⟩:=R.c0
 obtain ⟨c10,c11,c12,c13⟩:=R.c1
 obtain ⟨c20,c21,c22⟩:=R.c2
 obtain ⟨l0,l1,l2⟩:=R.lt
 dsimp only at c20 c21 c22
 have HR:=hide R
 have c14:W1.cell? ⟨w.heap.size+1,4,none⟩=some (.slice b4 f.co.length x4):=cell_of R.e1 rfl
 clear P s1 s2 s3 s4
 have b1:=R.bel
 obtain ⟨sa,ds,hvs⟩:=sl_form Rs
 subst hvs
 have HND:=hide (needs_any (i:=⟨4,a,b⟩) (u4:=.slice b4 f.co.length x4) R.pg (Nat.le_trans R.hB b1.size) R.lo R.re R.ar H ⟨by show (1:Int)≤4;decide,by show (4:Int)≤29;decide⟩ (by rw [ha];exact hN))
 dsimp only at HND
 rw [show (takesP p f ⟨4,a,b⟩).n=1 by simp [takesP,Must.n]] at HND
 have HRS:=hide (show ∀ W:World,Below w.heap.size w W→SlAt 1 IntP Bs W (.slice sa s.length ds) s from fun W h=>ints_keep (Nat.le_refl _) (fun j hj=>h.block j (by omega)) Rs)
 have hcap:s.length≤ds:=by
  obtain ⟨_,_,hv,h,_⟩:=Rs
  cases hv
  exact h.2.1
 obtain ⟨L,hL⟩ : ∃ L,s.length=L:=⟨_,rfl⟩
 obtain ⟨rl,hrl⟩ : ∃ l,r.length=l:=⟨_,rfl⟩
 have hLr:L=rl+1:=by rw [← hL,hs,← hrl];simp
 rw [hL] at HRS hcap hsl ⊢
 have HTK:=hide (show s.take rl=r from by rw [hs,← hrl];simp)
 have hwn:IntKind.i64.wrap ((L:Int) - 1)=(rl:Int):=by
  rw [show (L:Int) - 1=(rl:Int) by omega]
  exact wrap_nat (by omega)
 have hrd:rl≤ds:=by omega
 have hrd2:(rl:Int)≤(ds:Int):=by omega
 have HHL:=hide hL
 have HRLN:=hide hrl
 have HHS:=hide hs
 have HLR:=hide hLr
 have hrl3:rl≤300000000:=by omega
 have hrlL0:rl≤L:=by omega
 clear Rs hs hL hrl hLr
 subst ha
 go_enter Tryz.func27,Tryz.ntmps27
 go_wp2_with fail
 refine HND.out.mono ?_
 rintro e w2 ⟨rfl,hb2⟩
 have HR2:=hide (HR.out.up hb2)
 have hbw:=HR2.out.bel
 have hB2:Bs≤w2.heap.size:=Nat.le_trans hsB hbw.size
 have c3:Below w2.heap.size w2 (w2.alloc (.cells #[] 3)):=(Below.refl _ _).alloc (Nat.le_refl _) _
 have R3:SlAt 1 IntP Bs (w2.alloc (.cells #[] 3)) (.slice sa rl ds) r:=by
  have h:=HRS.out (w2.alloc (.cells #[] 3)) (bel_tr hbw c3)
  rw [← HHL.out] at h
  have h2:=sl_take h (n:=rl) (by rw [HHL.out];exact hrlL0)
  rw [HTK.out] at h2
  exact h2
 obtain ⟨a5,c5,W5,r5,q5,q6⟩:=(OwI.new (heap_new w2 (.cells #[] 3) rfl)).app R3 (by rw [HRLN.out];simp;omega) (Nat.le_of_lt (lt_of_block (heap_new w2 (.cells #[] 3) rfl)))
 rw [List.nil_append,HRLN.out] at r5 q5
 have HO5:=hide q5
 have HB5:=hide (show Below w2.heap.size w2 W5 from c3.trans q6)
 have HR5:=hide (HR2.out.up HB5.out)
 have HBW:=hide (show Below w.heap.size w W5 from bel_tr hbw HB5.out)
 have hC5:w2.heap.size≤W5.heap.size:=HB5.out.size
 have h2w:w.heap.size≤w2.heap.size:=hbw.size
 have hq:L - 1=rl:=by have:=HLR.out;omega
 have hy:s[rl]?=some x:=by rw [HHS.out,List.getElem?_append_right (by rw [HRLN.out];exact Nat.le_refl _),HRLN.out];simp
 have RS5:=HRS.out W5 HBW.out
 rw [← HHL.out] at RS5
 obtain ⟨g,o,c,hv,hg,hcy,hy1,hy2⟩:=il_at RS5 hy
 cases hv
 have hgw:=Nat.lt_of_lt_of_le hg (Nat.le_trans hB2 hC5)
 have hql:rl<L:=by have:=HLR.out;omega
 have dq:decide (rl<L)=true:=by simpa using hql
 have dL:decide (0<L)=true:=by have:=HLR.out;simp;omega
 have dL2:decide ((0:Int)<(L:Int))=true:=by have:=HLR.out;simp;omega
 clear hb2 c3 R3 q5 q6 hy hq RS5 hbw
 obtain ⟨k00,k01,k02,k03⟩:=HR5.out.c0
 obtain ⟨k10,k11,k12,k13⟩:=HR5.out.c1
 obtain ⟨k20,k21,k22⟩:=HR5.out.c2
 have k14:W5.cell? ⟨w.heap.size+1,4,none⟩=some (.slice b4 f.co.length x4):=cell_of HR5.out.e1 rfl
 obtain ⟨l50,l51,l52⟩:=HR5.out.lt
 dsimp only at k20 k21 k22
 clear c00 c01 c02 c03 c10 c11 c12 c13 c14 c20 c21 c22
 have hnl:n<f.lo.length:=get_lt hk
 have dn:decide (n<f.lo.length)=true:=by simpa using hnl
 obtain ⟨gk,ok,ck,hvk,hgk,hck,hk1,hk2⟩:=il_at HR5.out.lo hk
 cases hvk
 have hgkw:gk<W5.heap.size:=by have:=HR5.out.hB;have:=HR5.out.bel.size;omega
 have HFT:=hide (rfits_any W5 (k:=x) (o:=k) ⟨by have:=hkd.1;omega,hkd.2⟩)
 rw [hf] at HFT
 clear hk hN hf
 go_wp2_with (at_builtin;(refine wpList_append_eq rfl _ _ 37 37 rfl rfl rfl r5 ?_;clear r5))
 refine HFT.out.mono ?_
 rintro e w6 ⟨rfl,hw6⟩
 rw [hw6]
 clear hw6
 have HFIN:=hide (show EfNo w.heap.size 8 w (.returned (.tuple #[.slice none 0 0,.int .i64 8])) W5 from ⟨HBW.out,rfl⟩)
 go_wp2_with fail
 go_ret2
 exact HFIN.out
theorem ef_6 (P:PgAt B w v1 v2 v3 v4 p) (hB:B≤w.heap.size) (s1:SlAt 1 IntP B w u1 f.lo) (s2:SlAt 1 IntP B w u2 f.re) (s3:SlAt 1 IntP B w u3 f.ar) (s4:SlAt 3 InsP B w u4 f.co) (H:Hok p) (Rs:SlAt 1 IntP Bs w vs s) (hsB:Bs≤w.heap.size) (hsl:s.length≤300000000) {x:Int} (hs:s=r++[x]):Calls Tryz.prog 27 #[.agg #[v1,v2,v3,v4],.agg #[.int .i64 f.pa,u1,u2,u3,u4],.agg #[.int .i64 6,.int .i64 a,.int .i64 b],vs] w (EfOk w.heap.size (r++[x,x]) w):=by
 obtain ⟨b4,x4,hu4⟩:=sl_form s4
 subst hu4
 obtain ⟨⟨a1,d1,rfl⟩,⟨a2,d2,rfl⟩,⟨a3,d3,rfl⟩,a4,d4,rfl⟩:=fm4 P
 obtain ⟨⟨b1,x1,rfl⟩,⟨b2,x2,rfl⟩,b3,x3,rfl⟩:=fm3 s1 s2 s3
 have R:=Rx.new (i:=⟨6,a,b⟩) (u4:=.slice b4 f.co.length x4) P hB s1 s2 s3
 dsimp only at R
 obtain ⟨W1,hW1⟩:=exR R
 rw [hW1] at R
 obtain ⟨c00,c01,c02,c03⟩:=R.c0
 obtain ⟨c10,c11,c12,c13⟩:=R.c1
 obtain ⟨c20,c21,c22⟩:=R.c2
 obtain ⟨l0,l1,l2⟩:=R.lt
 dsimp only at c20 c21 c22
 have HR:=hide R
 have c14:W1.cell? ⟨w.heap.size+1,4,none⟩=some (.slice b4 f.co.length x4):=cell_of R.e1 rfl
 clear P s1 s2 s3 s4
 have b1:=R.bel
 obtain ⟨sa,ds,hvs⟩:=sl_form Rs
 subst hvs
 have HND:=hide (needs_any (i:=⟨6,a,b⟩) (u4:=.slice b4 f.co.length x4) R.pg (Nat.le_trans R.hB b1.size) R.lo R.re R.ar H ⟨by show (1:Int)≤6;decide,by show (6:Int)≤29;decide⟩ (by simp [namesB]))
 dsimp only at HND
 rw [show (takesP p f ⟨6,a,b⟩).n=1 by simp [takesP,Must.n]] at HND
 have HRS:=hide (show ∀ W:World,Below w.heap.size w W→SlAt 1 IntP Bs W (.slice sa s.length ds) s from fun W h=>ints_keep (Nat.le_refl _) (fun j hj=>h.block j (by omega)) Rs)
 have hcap:s.length≤ds:=by
  obtain ⟨_,_,hv,h,_⟩:=Rs
  cases hv
  exact h.2.1
 obtain ⟨L,hL⟩ : ∃ L,s.length=L:=⟨_,rfl⟩
 obtain ⟨rl,hrl⟩ : ∃ l,r.length=l:=⟨_,rfl⟩
 have hLr:L=rl+1:=by rw [← hL,hs,← hrl];simp
 rw [hL] at HRS hcap hsl ⊢
 have HTK:=hide (show s.take rl=r from by rw [hs,← hrl];simp)
 have hwn:IntKind.i64.wrap ((L:Int) - 1)=(rl:Int):=by
  rw [show (L:Int) - 1=(rl:Int) by omega]
  exact wrap_nat (by omega)
 have hrd:rl≤ds:=by omega
 have hrd2:(rl:Int)≤(ds:Int):=by omega
 have HHL:=hide hL
 have HRLN:=hide hrl
 have HHS:=hide hs
 have HLR:=hide hLr
 have hrl3:rl≤300000000:=by omega
 have hrlL0:rl≤L:=by omega
 clear Rs hs hL hrl hLr
 go_enter Tryz.func27,Tryz.ntmps27
 go_wp2_with fail
 refine HND.out.mono ?_
 rintro e w2 ⟨rfl,hb2⟩
 have HR2:=hide (HR.out.up hb2)
 have hbw:=HR2.out.bel
 have hB2:Bs≤w2.heap.size:=Nat.le_trans hsB hbw.size
 have c3:Below w2.heap.size w2 (w2.alloc (.cells #[] 3)):=(Below.refl _ _).alloc (Nat.le_refl _) _
 have R3:SlAt 1 IntP Bs (w2.alloc (.cells #[] 3)) (.slice sa rl ds) r:=by
  have h:=HRS.out (w2.alloc (.cells #[] 3)) (bel_tr hbw c3)
  rw [← HHL.out] at h
  have h2:=sl_take h (n:=rl) (by rw [HHL.out];exact hrlL0)
  rw [HTK.out] at h2
  exact h2
 obtain ⟨a5,c5,W5,r5,q5,q6⟩:=(OwI.new (heap_new w2 (.cells #[] 3) rfl)).app R3 (by rw [HRLN.out];simp;omega) (Nat.le_of_lt (lt_of_block (heap_new w2 (.cells #[] 3) rfl)))
 rw [List.nil_append,HRLN.out] at r5 q5
 have HO5:=hide q5
 have HB5:=hide (show Below w2.heap.size w2 W5 from c3.trans q6)
 have HR5:=hide (HR2.out.up HB5.out)
 have HBW:=hide (show Below w.heap.size w W5 from bel_tr hbw HB5.out)
 have hC5:w2.heap.size≤W5.heap.size:=HB5.out.size
 have h2w:w.heap.size≤w2.heap.size:=hbw.size
 have hq:L - 1=rl:=by have:=HLR.out;omega
 have hy:s[rl]?=some x:=by rw [HHS.out,List.getElem?_append_right (by rw [HRLN.out];exact Nat.le_refl _),HRLN.out];simp
 have RS5:=HRS.out W5 HBW.out
 rw [← HHL.out] at RS5
 obtain ⟨g,o,c,hv,hg,hcy,hy1,hy2⟩:=il_at RS5 hy
 cases hv
 have hgw:=Nat.lt_of_lt_of_le hg (Nat.le_trans hB2 hC5)
 have hql:rl<L:=by have:=HLR.out;omega
 have dq:decide (rl<L)=true:=by simpa using hql
 have dL:decide (0<L)=true:=by have:=HLR.out;simp;omega
 have dL2:decide ((0:Int)<(L:Int))=true:=by have:=HLR.out;simp;omega
 clear hb2 c3 R3 q5 q6 hy hq RS5 hbw
 obtain ⟨k00,k01,k02,k03⟩:=HR5.out.c0
 obtain ⟨k10,k11,k12,k13⟩:=HR5.out.c1
 obtain ⟨k20,k21,k22⟩:=HR5.out.c2
 have k14:W5.cell? ⟨w.heap.size+1,4,none⟩=some (.slice b4 f.co.length x4):=cell_of HR5.out.e1 rfl
 obtain ⟨l50,l51,l52⟩:=HR5.out.lt
 dsimp only at k20 k21 k22
 clear c00 c01 c02 c03 c10 c11 c12 c13 c14 c20 c21 c22
 obtain ⟨a8,c8,W8,r1,q1,q2⟩:=HO5.out.put [x,x] (fun z hz=>by simp at hz;rcases hz with rfl | rfl <;> exact ⟨hy1,hy2⟩) (by rw [HRLN.out];simp;omega) (by simp) hC5
 rw [List.length_append,HRLN.out] at r1
 have HQ1:=hide q1
 have HQ2:=hide (show Below w.heap.size w W8 from HBW.out.trans (q2.mono h2w))
 clear q1 q2
 have r1:(Builtin.append_ #[37,37] 37 #[.slice a5 rl c5,.slice (some ⟨W5.heap.size,0,none⟩) 2 2]).run Tryz.prog (W5.alloc (.cells #[.int .i64 (x),.int .i64 (x)] 3))=.ok (.slice a8 (rl+2) c8) W8:=r1
 have HFIN:=hide (show EfOk w.heap.size (r++[x,x]) w (.returned (.tuple #[.slice a8 (rl+2) c8,.int .i64 0])) W8 from ⟨HQ2.out,a8,c8,by rw [List.length_append,HRLN.out];rfl,HQ1.out.weak h2w⟩)
 go_wp2_with (at_builtin;first | (refine wpList_append_eq rfl _ _ 37 37 rfl rfl rfl r5 ?_;clear r5) | (refine wpList_append_eq rfl _ _ 37 37 rfl rfl rfl r1 ?_;clear r1))
 go_ret2
 exact HFIN.out
theorem ef_25f (P:PgAt B w v1 v2 v3 v4 p) (hB:B≤w.heap.size) (s1:SlAt 1 IntP B w u1 f.lo) (s2:SlAt 1 IntP B w u2 f.re) (s3:SlAt 1 IntP B w u3 f.ar) (s4:SlAt 3 InsP B w u4 f.co) (H:Hok p) (Rs:SlAt 1 IntP Bs w vs s) (hsB:Bs≤w.heap.size) (hsl:s.length≤300000000) {x:Int} (hs:s=r++[x]) (hx0:¬ x=0):Calls Tryz.prog 27 #[.agg #[v1,v2,v3,v4],.agg #[.int .i64 f.pa,u1,u2,u3,u4],.agg #[.int .i64 25,.int .i64 a,.int .i64 b],vs] w (EfNo w.heap.size 8 w):=by
 obtain ⟨b4,x4,hu4⟩:=sl_form s4
 subst hu4
 obtain ⟨⟨a1,d1,rfl⟩,⟨a2,d2,rfl⟩,⟨a3,d3,rfl⟩,a4,d4,rfl⟩:=fm4 P
 obtain ⟨⟨b1,x1,rfl⟩,⟨b2,x2,rfl⟩,b3,x3,rfl⟩:=fm3 s1 s2 s3
 have R:=Rx.new (i:=⟨25,a,b⟩) (u4:=.slice b4 f.co.length x4) P hB s1 s2 s3
 dsimp only at R
 obtain ⟨W1,hW1⟩:=exR R
 rw [hW1] at R
 obtain ⟨c00,c01,c02,c03⟩:=R.c0
 obtain ⟨c10,c11,c12,c13⟩:=R.c1
 obtain ⟨c20,c21,c22⟩:=R.c2
 obtain ⟨l0,l1,l2⟩:=R.lt
 dsimp only at c20 c21 c22
 have HR:=hide R
 have c14:W1.cell? ⟨w.heap.size+1,4,none⟩=some (.slice b4 f.co.length x4):=cell_of R.e1 rfl
 clear P s1 s2 s3 s4
 have b1:=R.bel
 obtain ⟨sa,ds,hvs⟩:=sl_form Rs
 subst hvs
 have HND:=hide (needs_any (i:=⟨25,a,b⟩) (u4:=.slice b4 f.co.length x4) R.pg (Nat.le_trans R.hB b1.size) R.lo R.re R.ar H ⟨by show (1:Int)≤25;decide,by show (25:Int)≤29;decide⟩ (by simp [namesB]))
 dsimp only at HND
 rw [show (takesP p f ⟨25,a,b⟩).n=1 by simp [takesP,Must.n]] at HND
 have HRS:=hide (show ∀ W:World,Below w.heap.size w W→SlAt 1 IntP Bs W (.slice sa s.length ds) s from fun W h=>ints_keep (Nat.le_refl _) (fun j hj=>h.block j (by omega)) Rs)
 have hcap:s.length≤ds:=by
  obtain ⟨_,_,hv,h,_⟩:=Rs
  cases hv
  exact h.2.1
 obtain ⟨L,hL⟩ : ∃ L,s.length=L:=⟨_,rfl⟩
 obtain ⟨rl,hrl⟩ : ∃ l,r.length=l:=⟨_,rfl⟩
 have hLr:L=rl+1:=by rw [← hL,hs,← hrl];simp
 rw [hL] at HRS hcap hsl ⊢
 have HTK:=hide (show s.take rl=r from by rw [hs,← hrl];simp)
 have hwn:IntKind.i64.wrap ((L:Int) - 1)=(rl:Int):=by
  rw [show (L:Int) - 1=(rl:Int) by omega]
  exact wrap_nat (by omega)
 have hrd:rl≤ds:=by omega
 have hrd2:(rl:Int)≤(ds:Int):=by omega
 have HHL:=hide hL
 have HRLN:=hide hrl
 have HHS:=hide hs
 have HLR:=hide hLr
 have hrl3:rl≤300000000:=by omega
 have hrlL0:rl≤L:=by omega
 clear Rs hs hL hrl hLr
 have e0:(x == 0)=false:=by simpa using hx0
 go_enter Tryz.func27,Tryz.ntmps27
 go_wp2_with fail
 refine HND.out.mono ?_
 rintro e w2 ⟨rfl,hb2⟩
 have HR2:=hide (HR.out.up hb2)
 have hbw:=HR2.out.bel
 have hB2:Bs≤w2.heap.size:=Nat.le_trans hsB hbw.size
 have c3:Below w2.heap.size w2 (w2.alloc (.cells #[] 3)):=(Below.refl _ _).alloc (Nat.le_refl _) _
 have R3:SlAt 1 IntP Bs (w2.alloc (.cells #[] 3)) (.slice sa rl ds) r:=by
  have h:=HRS.out (w2.alloc (.cells #[] 3)) (bel_tr hbw c3)
  rw [← HHL.out] at h
  have h2:=sl_take h (n:=rl) (by rw [HHL.out];exact hrlL0)
  rw [HTK.out] at h2
  exact h2
 obtain ⟨a5,c5,W5,r5,q5,q6⟩:=(OwI.new (heap_new w2 (.cells #[] 3) rfl)).app R3 (by rw [HRLN.out];simp;omega) (Nat.le_of_lt (lt_of_block (heap_new w2 (.cells #[] 3) rfl)))
 rw [List.nil_append,HRLN.out] at r5 q5
 have HO5:=hide q5
 have HB5:=hide (show Below w2.heap.size w2 W5 from c3.trans q6)
 have HR5:=hide (HR2.out.up HB5.out)
 have HBW:=hide (show Below w.heap.size w W5 from bel_tr hbw HB5.out)
 have hC5:w2.heap.size≤W5.heap.size:=HB5.out.size
 have h2w:w.heap.size≤w2.heap.size:=hbw.size
 have hq:L - 1=rl:=by have:=HLR.out;omega
 have hy:s[rl]?=some x:=by rw [HHS.out,List.getElem?_append_right (by rw [HRLN.out];exact Nat.le_refl _),HRLN.out];simp
 have RS5:=HRS.out W5 HBW.out
 rw [← HHL.out] at RS5
 obtain ⟨g,o,c,hv,hg,hcy,hy1,hy2⟩:=il_at RS5 hy
 cases hv
 have hgw:=Nat.lt_of_lt_of_le hg (Nat.le_trans hB2 hC5)
 have hql:rl<L:=by have:=HLR.out;omega
 have dq:decide (rl<L)=true:=by simpa using hql
 have dL:decide (0<L)=true:=by have:=HLR.out;simp;omega
 have dL2:decide ((0:Int)<(L:Int))=true:=by have:=HLR.out;simp;omega
 clear hb2 c3 R3 q5 q6 hy hq RS5 hbw
 obtain ⟨k00,k01,k02,k03⟩:=HR5.out.c0
 obtain ⟨k10,k11,k12,k13⟩:=HR5.out.c1
 obtain ⟨k20,k21,k22⟩:=HR5.out.c2
 have k14:W5.cell? ⟨w.heap.size+1,4,none⟩=some (.slice b4 f.co.length x4):=cell_of HR5.out.e1 rfl
 obtain ⟨l50,l51,l52⟩:=HR5.out.lt
 dsimp only at k20 k21 k22
 clear c00 c01 c02 c03 c10 c11 c12 c13 c14 c20 c21 c22
 have HFIN:=hide (show EfNo w.heap.size 8 w (.returned (.tuple #[.slice none 0 0,.int .i64 8])) W5 from ⟨HBW.out,rfl⟩)
 go_wp2_with (at_builtin;(refine wpList_append_eq rfl _ _ 37 37 rfl rfl rfl r5 ?_;clear r5))
 go_ret2
 exact HFIN.out
theorem ef_27f (P:PgAt B w v1 v2 v3 v4 p) (hB:B≤w.heap.size) (s1:SlAt 1 IntP B w u1 f.lo) (s2:SlAt 1 IntP B w u2 f.re) (s3:SlAt 1 IntP B w u3 f.ar) (s4:SlAt 3 InsP B w u4 f.co) (H:Hok p) (Rs:SlAt 1 IntP Bs w vs s) (hsB:Bs≤w.heap.size) (hsl:s.length≤300000000) {x:Int} (hs:s=r++[x]) (hx0:¬ x=0):Calls Tryz.prog 27 #[.agg #[v1,v2,v3,v4],.agg #[.int .i64 f.pa,u1,u2,u3,u4],.agg #[.int .i64 27,.int .i64 a,.int .i64 b],vs] w (EfNo w.heap.size 8 w):=by
 obtain ⟨b4,x4,hu4⟩:=sl_form s4
 subst hu4
 obtain ⟨⟨a1,d1,rfl⟩,⟨a2,d2,rfl⟩,⟨a3,d3,rfl⟩,a4,d4,rfl⟩:=fm4 P
 obtain ⟨⟨b1,x1,rfl⟩,⟨b2,x2,rfl⟩,b3,x3,rfl⟩:=fm3 s1 s2 s3
 have R:=Rx.new (i:=⟨27,a,b⟩) (u4:=.slice b4 f.co.length x4) P hB s1 s2 s3
 dsimp only at R
 obtain ⟨W1,hW1⟩:=exR R
 rw [hW1] at R
 obtain ⟨c00,c01,c02,c03⟩:=R.c0
 obtain ⟨c10,c11,c12,c13⟩:=R.c1
 obtain ⟨c20,c21,c22⟩:=R.c2
 obtain ⟨l0,l1,l2⟩:=R.lt
 dsimp only at c20 c21 c22
 have HR:=hide R
 have c14:W1.cell? ⟨w.heap.size+1,4,none⟩=some (.slice b4 f.co.length x4):=cell_of R.e1 rfl
 clear P s1 s2 s3 s4
 have b1:=R.bel
 obtain ⟨sa,ds,hvs⟩:=sl_form Rs
 subst hvs
 have HND:=hide (needs_any (i:=⟨27,a,b⟩) (u4:=.slice b4 f.co.length x4) R.pg (Nat.le_trans R.hB b1.size) R.lo R.re R.ar H ⟨by show (1:Int)≤27;decide,by show (27:Int)≤29;decide⟩ (by simp [namesB]))
 dsimp only at HND
 rw [show (takesP p f ⟨27,a,b⟩).n=1 by simp [takesP,Must.n]] at HND
 have HRS:=hide (show ∀ W:World,Below w.heap.size w W→SlAt 1 IntP Bs W (.slice sa s.length ds) s from fun W h=>ints_keep (Nat.le_refl _) (fun j hj=>h.block j (by omega)) Rs)
 have hcap:s.length≤ds:=by
  obtain ⟨_,_,hv,h,_⟩:=Rs
  cases hv
  exact h.2.1
 obtain ⟨L,hL⟩ : ∃ L,s.length=L:=⟨_,rfl⟩
 obtain ⟨rl,hrl⟩ : ∃ l,r.length=l:=⟨_,rfl⟩
 have hLr:L=rl+1:=by rw [← hL,hs,← hrl];simp
 rw [hL] at HRS hcap hsl ⊢
 have HTK:=hide (show s.take rl=r from by rw [hs,← hrl];simp)
 have hwn:IntKind.i64.wrap ((L:Int) - 1)=(rl:Int):=by
  rw [show (L:Int) - 1=(rl:Int) by omega]
  exact wrap_nat (by omega)
 have hrd:rl≤ds:=by omega
 have hrd2:(rl:Int)≤(ds:Int):=by omega
 have HHL:=hide hL
 have HRLN:=hide hrl
 have HHS:=hide hs
 have HLR:=hide hLr
 have hrl3:rl≤300000000:=by omega
 have hrlL0:rl≤L:=by omega
 clear Rs hs hL hrl hLr
 have e0:(x == 0)=false:=by simpa using hx0
 go_enter Tryz.func27,Tryz.ntmps27
 go_wp2_with fail
 refine HND.out.mono ?_
 rintro e w2 ⟨rfl,hb2⟩
 have HR2:=hide (HR.out.up hb2)
 have hbw:=HR2.out.bel
 have hB2:Bs≤w2.heap.size:=Nat.le_trans hsB hbw.size
 have c3:Below w2.heap.size w2 (w2.alloc (.cells #[] 3)):=(Below.refl _ _).alloc (Nat.le_refl _) _
 have R3:SlAt 1 IntP Bs (w2.alloc (.cells #[] 3)) (.slice sa rl ds) r:=by
  have h:=HRS.out (w2.alloc (.cells #[] 3)) (bel_tr hbw c3)
  rw [← HHL.out] at h
  have h2:=sl_take h (n:=rl) (by rw [HHL.out];exact hrlL0)
  rw [HTK.out] at h2
  exact h2
 obtain ⟨a5,c5,W5,r5,q5,q6⟩:=(OwI.new (heap_new w2 (.cells #[] 3) rfl)).app R3 (by rw [HRLN.out];simp;omega) (Nat.le_of_lt (lt_of_block (heap_new w2 (.cells #[] 3) rfl)))
 rw [List.nil_append,HRLN.out] at r5 q5
 have HO5:=hide q5
 have HB5:=hide (show Below w2.heap.size w2 W5 from c3.trans q6)
 have HR5:=hide (HR2.out.up HB5.out)
 have HBW:=hide (show Below w.heap.size w W5 from bel_tr hbw HB5.out)
 have hC5:w2.heap.size≤W5.heap.size:=HB5.out.size
 have h2w:w.heap.size≤w2.heap.size:=hbw.size
 have hq:L - 1=rl:=by have:=HLR.out;omega
 have hy:s[rl]?=some x:=by rw [HHS.out,List.getElem?_append_right (by rw [HRLN.out];exact Nat.le_refl _),HRLN.out];simp
 have RS5:=HRS.out W5 HBW.out
 rw [← HHL.out] at RS5
 obtain ⟨g,o,c,hv,hg,hcy,hy1,hy2⟩:=il_at RS5 hy
 cases hv
 have hgw:=Nat.lt_of_lt_of_le hg (Nat.le_trans hB2 hC5)
 have hql:rl<L:=by have:=HLR.out;omega
 have dq:decide (rl<L)=true:=by simpa using hql
 have dL:decide (0<L)=true:=by have:=HLR.out;simp;omega
 have dL2:decide ((0:Int)<(L:Int))=true:=by have:=HLR.out;simp;omega
 clear hb2 c3 R3 q5 q6 hy hq RS5 hbw
 obtain ⟨k00,k01,k02,k03⟩:=HR5.out.c0
 obtain ⟨k10,k11,k12,k13⟩:=HR5.out.c1
 obtain ⟨k20,k21,k22⟩:=HR5.out.c2
 have k14:W5.cell? ⟨w.heap.size+1,4,none⟩=some (.slice b4 f.co.length x4):=cell_of HR5.out.e1 rfl
 obtain ⟨l50,l51,l52⟩:=HR5.out.lt
 dsimp only at k20 k21 k22
 clear c00 c01 c02 c03 c10 c11 c12 c13 c14 c20 c21 c22
 have HFIN:=hide (show EfNo w.heap.size 8 w (.returned (.tuple #[.slice none 0 0,.int .i64 8])) W5 from ⟨HBW.out,rfl⟩)
 go_wp2_with (at_builtin;(refine wpList_append_eq rfl _ _ 37 37 rfl rfl rfl r5 ?_;clear r5))
 go_ret2
 exact HFIN.out
theorem ef_8y (P:PgAt B w v1 v2 v3 v4 p) (hB:B≤w.heap.size) (s1:SlAt 1 IntP B w u1 f.lo) (s2:SlAt 1 IntP B w u2 f.re) (s3:SlAt 1 IntP B w u3 f.ar) (s4:SlAt 3 InsP B w u4 f.co) (H:Hok p) (Rs:SlAt 1 IntP Bs w vs s) (hsB:Bs≤w.heap.size) (hsl:s.length≤300000000) {x y:Int} (hs:s=r++[x,y]) (hy0:y=0):Calls Tryz.prog 27 #[.agg #[v1,v2,v3,v4],.agg #[.int .i64 f.pa,u1,u2,u3,u4],.agg #[.int .i64 8,.int .i64 a,.int .i64 b],vs] w (EfNo w.heap.size 8 w):=by
 obtain ⟨b4,x4,hu4⟩:=sl_form s4
 subst hu4
 obtain ⟨⟨a1,d1,rfl⟩,⟨a2,d2,rfl⟩,⟨a3,d3,rfl⟩,a4,d4,rfl⟩:=fm4 P
 obtain ⟨⟨b1,x1,rfl⟩,⟨b2,x2,rfl⟩,b3,x3,rfl⟩:=fm3 s1 s2 s3
 have R:=Rx.new (i:=⟨8,a,b⟩) (u4:=.slice b4 f.co.length x4) P hB s1 s2 s3
 dsimp only at R
 obtain ⟨W1,hW1⟩:=exR R
 rw [hW1] at R
 obtain ⟨c00,c01,c02,c03⟩:=R.c0
 obtain ⟨c10,c11,c12,c13⟩:=R.c1
 obtain ⟨c20,c21,c22⟩:=R.c2
 obtain ⟨l0,l1,l2⟩:=R.lt
 dsimp only at c20 c21 c22
 have HR:=hide R
 have c14:W1.cell? ⟨w.heap.size+1,4,none⟩=some (.slice b4 f.co.length x4):=cell_of R.e1 rfl
 clear P s1 s2 s3 s4
 have b1:=R.bel
 obtain ⟨sa,ds,hvs⟩:=sl_form Rs
 subst hvs
 have HND:=hide (needs_any (i:=⟨8,a,b⟩) (u4:=.slice b4 f.co.length x4) R.pg (Nat.le_trans R.hB b1.size) R.lo R.re R.ar H ⟨by show (1:Int)≤8;decide,by show (8:Int)≤29;decide⟩ (by simp [namesB]))
 dsimp only at HND
 rw [show (takesP p f ⟨8,a,b⟩).n=2 by simp [takesP,Must.n]] at HND
 have HRS:=hide (show ∀ W:World,Below w.heap.size w W→SlAt 1 IntP Bs W (.slice sa s.length ds) s from fun W h=>ints_keep (Nat.le_refl _) (fun j hj=>h.block j (by omega)) Rs)
 have hcap:s.length≤ds:=by
  obtain ⟨_,_,hv,h,_⟩:=Rs
  cases hv
  exact h.2.1
 obtain ⟨L,hL⟩ : ∃ L,s.length=L:=⟨_,rfl⟩
 obtain ⟨rl,hrl⟩ : ∃ l,r.length=l:=⟨_,rfl⟩
 have hLr:L=rl+2:=by rw [← hL,hs,← hrl];simp
 rw [hL] at HRS hcap hsl ⊢
 have HTK:=hide (show s.take rl=r from by rw [hs,← hrl];simp)
 have hwn:IntKind.i64.wrap ((L:Int) - 2)=(rl:Int):=by
  rw [show (L:Int) - 2=(rl:Int) by omega]
  exact wrap_nat (by omega)
 have hrd:rl≤ds:=by omega
 have hrd2:(rl:Int)≤(ds:Int):=by omega
 have HHL:=hide hL
 have HRLN:=hide hrl
 have HHS:=hide hs
 have HLR:=hide hLr
 have hrl3:rl≤300000000:=by omega
 have hrlL0:rl≤L:=by omega
 clear Rs hs hL hrl hLr
 have ey:(y != 0)=false:=by simp [hy0]
 go_enter Tryz.func27,Tryz.ntmps27
 go_wp2_with fail
 refine HND.out.mono ?_
 rintro e w2 ⟨rfl,hb2⟩
 have HR2:=hide (HR.out.up hb2)
 have hbw:=HR2.out.bel
 have hB2:Bs≤w2.heap.size:=Nat.le_trans hsB hbw.size
 have c3:Below w2.heap.size w2 (w2.alloc (.cells #[] 3)):=(Below.refl _ _).alloc (Nat.le_refl _) _
 have R3:SlAt 1 IntP Bs (w2.alloc (.cells #[] 3)) (.slice sa rl ds) r:=by
  have h:=HRS.out (w2.alloc (.cells #[] 3)) (bel_tr hbw c3)
  rw [← HHL.out] at h
  have h2:=sl_take h (n:=rl) (by rw [HHL.out];exact hrlL0)
  rw [HTK.out] at h2
  exact h2
 obtain ⟨a5,c5,W5,r5,q5,q6⟩:=(OwI.new (heap_new w2 (.cells #[] 3) rfl)).app R3 (by rw [HRLN.out];simp;omega) (Nat.le_of_lt (lt_of_block (heap_new w2 (.cells #[] 3) rfl)))
 rw [List.nil_append,HRLN.out] at r5 q5
 have HO5:=hide q5
 have HB5:=hide (show Below w2.heap.size w2 W5 from c3.trans q6)
 have HR5:=hide (HR2.out.up HB5.out)
 have HBW:=hide (show Below w.heap.size w W5 from bel_tr hbw HB5.out)
 have hC5:w2.heap.size≤W5.heap.size:=HB5.out.size
 have h2w:w.heap.size≤w2.heap.size:=hbw.size
 obtain ⟨q,hq⟩ : ∃ q,L - 1=q:=⟨_,rfl⟩
 have hy:s[q]?=some y:=by rw [HHS.out,← hq,HLR.out,List.getElem?_append_right (by rw [HRLN.out];omega),HRLN.out];simp
 have RS5:=HRS.out W5 HBW.out
 rw [← HHL.out] at RS5
 have hx:s[rl]?=some x:=by rw [HHS.out,List.getElem?_append_right (by rw [HRLN.out];omega),HRLN.out];simp
 obtain ⟨g',o',c',hv',hg',hcx,_,_⟩:=il_at RS5 hx
 obtain ⟨g,o,c,hv,hg,hcy,hy1,hy2⟩:=il_at RS5 hy
 cases hv'
 cases hv
 have hgw:=Nat.lt_of_lt_of_le hg (Nat.le_trans hB2 hC5)
 have hql:q<L:=by have:=HLR.out;omega
 have dq:decide (q<L)=true:=by simpa using hql
 have dL:decide (0<L)=true:=by have:=HLR.out;simp;omega
 have dL2:decide ((0:Int)<(L:Int))=true:=by have:=HLR.out;simp;omega
 have hwq:IntKind.i64.wrap ((L:Int) - 1)=(q:Int):=by
  rw [show (L:Int) - 1=(q:Int) by have:=HLR.out;omega]
  exact wrap_nat (by omega)
 have hrlL:rl<L:=by have:=HLR.out;omega
 have drl:decide (rl<L)=true:=by simpa using hrlL
 clear hb2 c3 R3 q5 q6 hy hq RS5 hbw hx
 obtain ⟨k00,k01,k02,k03⟩:=HR5.out.c0
 obtain ⟨k10,k11,k12,k13⟩:=HR5.out.c1
 obtain ⟨k20,k21,k22⟩:=HR5.out.c2
 have k14:W5.cell? ⟨w.heap.size+1,4,none⟩=some (.slice b4 f.co.length x4):=cell_of HR5.out.e1 rfl
 obtain ⟨l50,l51,l52⟩:=HR5.out.lt
 dsimp only at k20 k21 k22
 clear c00 c01 c02 c03 c10 c11 c12 c13 c14 c20 c21 c22
 obtain ⟨a8,c8,W8,r1,q1,q2⟩:=HO5.out.put [0] (fun z hz=>by simp at hz;subst hz;exact ⟨by decide,by decide⟩) (by rw [HRLN.out];simp;omega) (by simp) hC5
 rw [List.length_append,HRLN.out] at r1
 have HQ1:=hide q1
 have HQ2:=hide (show Below w.heap.size w W8 from HBW.out.trans (q2.mono h2w))
 clear q1 q2
 have r1:(Builtin.append_ #[37,37] 37 #[.slice a5 rl c5,.slice (some ⟨W5.heap.size,0,none⟩) 1 1]).run Tryz.prog (W5.alloc (.cells #[.int .i64 (0)] 3))=.ok (.slice a8 (rl+1) c8) W8:=r1
 have HFIN:=hide (show EfNo w.heap.size 8 w (.returned (.tuple #[.slice none 0 0,.int .i64 8])) W8 from ⟨HQ2.out,rfl⟩)
 go_wp2_with (at_builtin;first | (refine wpList_append_eq rfl _ _ 37 37 rfl rfl rfl r5 ?_;clear r5) | (refine wpList_append_eq rfl _ _ 37 37 rfl rfl rfl r1 ?_;clear r1))
 go_ret2
 exact HFIN.out
theorem ef_8c (P:PgAt B w v1 v2 v3 v4 p) (hB:B≤w.heap.size) (s1:SlAt 1 IntP B w u1 f.lo) (s2:SlAt 1 IntP B w u2 f.re) (s3:SlAt 1 IntP B w u3 f.ar) (s4:SlAt 3 InsP B w u4 f.co) (H:Hok p) (Rs:SlAt 1 IntP Bs w vs s) (hsB:Bs≤w.heap.size) (hsl:s.length≤300000000) {x y:Int} (hs:s=r++[x,y]) (hky:Kd y) (hkx:Kd x) (hy0:¬ y=0) (hx0:¬ x=0) (hf1:fitB y x=false) (hf2:fitB x y=false):Calls Tryz.prog 27 #[.agg #[v1,v2,v3,v4],.agg #[.int .i64 f.pa,u1,u2,u3,u4],.agg #[.int .i64 8,.int .i64 a,.int .i64 b],vs] w (EfNo w.heap.size 8 w):=by
 obtain ⟨b4,x4,hu4⟩:=sl_form s4
 subst hu4
 obtain ⟨⟨a1,d1,rfl⟩,⟨a2,d2,rfl⟩,⟨a3,d3,rfl⟩,a4,d4,rfl⟩:=fm4 P
 obtain ⟨⟨b1,x1,rfl⟩,⟨b2,x2,rfl⟩,b3,x3,rfl⟩:=fm3 s1 s2 s3
 have R:=Rx.new (i:=⟨8,a,b⟩) (u4:=.slice b4 f.co.length x4) P hB s1 s2 s3
 dsimp only at R
 obtain ⟨W1,hW1⟩:=exR R
 rw [hW1] at R
 obtain ⟨c00,c01,c02,c03⟩:=R.c0
 obtain ⟨c10,c11,c12,c13⟩:=R.c1
 obtain ⟨c20,c21,c22⟩:=R.c2
 obtain ⟨l0,l1,l2⟩:=R.lt
 dsimp only at c20 c21 c22
 have HR:=hide R
 have c14:W1.cell? ⟨w.heap.size+1,4,none⟩=some (.slice b4 f.co.length x4):=cell_of R.e1 rfl
 clear P s1 s2 s3 s4
 have b1:=R.bel
 obtain ⟨sa,ds,hvs⟩:=sl_form Rs
 subst hvs
 have HND:=hide (needs_any (i:=⟨8,a,b⟩) (u4:=.slice b4 f.co.length x4) R.pg (Nat.le_trans R.hB b1.size) R.lo R.re R.ar H ⟨by show (1:Int)≤8;decide,by show (8:Int)≤29;decide⟩ (by simp [namesB]))
 dsimp only at HND
 rw [show (takesP p f ⟨8,a,b⟩).n=2 by simp [takesP,Must.n]] at HND
 have HRS:=hide (show ∀ W:World,Below w.heap.size w W→SlAt 1 IntP Bs W (.slice sa s.length ds) s from fun W h=>ints_keep (Nat.le_refl _) (fun j hj=>h.block j (by omega)) Rs)
 have hcap:s.length≤ds:=by
  obtain ⟨_,_,hv,h,_⟩:=Rs
  cases hv
  exact h.2.1
 obtain ⟨L,hL⟩ : ∃ L,s.length=L:=⟨_,rfl⟩
 obtain ⟨rl,hrl⟩ : ∃ l,r.length=l:=⟨_,rfl⟩
 have hLr:L=rl+2:=by rw [← hL,hs,← hrl];simp
 rw [hL] at HRS hcap hsl ⊢
 have HTK:=hide (show s.take rl=r from by rw [hs,← hrl];simp)
 have hwn:IntKind.i64.wrap ((L:Int) - 2)=(rl:Int):=by
  rw [show (L:Int) - 2=(rl:Int) by omega]
  exact wrap_nat (by omega)
 have hrd:rl≤ds:=by omega
 have hrd2:(rl:Int)≤(ds:Int):=by omega
 have HHL:=hide hL
 have HRLN:=hide hrl
 have HHS:=hide hs
 have HLR:=hide hLr
 have hrl3:rl≤300000000:=by omega
 have hrlL0:rl≤L:=by omega
 clear Rs hs hL hrl hLr
 have ey:(y != 0)=true:=by simpa using hy0
 have ex:(x != 0)=true:=by simpa using hx0
 go_enter Tryz.func27,Tryz.ntmps27
 go_wp2_with fail
 refine HND.out.mono ?_
 rintro e w2 ⟨rfl,hb2⟩
 have HR2:=hide (HR.out.up hb2)
 have hbw:=HR2.out.bel
 have hB2:Bs≤w2.heap.size:=Nat.le_trans hsB hbw.size
 have c3:Below w2.heap.size w2 (w2.alloc (.cells #[] 3)):=(Below.refl _ _).alloc (Nat.le_refl _) _
 have R3:SlAt 1 IntP Bs (w2.alloc (.cells #[] 3)) (.slice sa rl ds) r:=by
  have h:=HRS.out (w2.alloc (.cells #[] 3)) (bel_tr hbw c3)
  rw [← HHL.out] at h
  have h2:=sl_take h (n:=rl) (by rw [HHL.out];exact hrlL0)
  rw [HTK.out] at h2
  exact h2
 obtain ⟨a5,c5,W5,r5,q5,q6⟩:=(OwI.new (heap_new w2 (.cells #[] 3) rfl)).app R3 (by rw [HRLN.out];simp;omega) (Nat.le_of_lt (lt_of_block (heap_new w2 (.cells #[] 3) rfl)))
 rw [List.nil_append,HRLN.out] at r5 q5
 have HO5:=hide q5
 have HB5:=hide (show Below w2.heap.size w2 W5 from c3.trans q6)
 have HR5:=hide (HR2.out.up HB5.out)
 have HBW:=hide (show Below w.heap.size w W5 from bel_tr hbw HB5.out)
 have hC5:w2.heap.size≤W5.heap.size:=HB5.out.size
 have h2w:w.heap.size≤w2.heap.size:=hbw.size
 obtain ⟨q,hq⟩ : ∃ q,L - 1=q:=⟨_,rfl⟩
 have hy:s[q]?=some y:=by rw [HHS.out,← hq,HLR.out,List.getElem?_append_right (by rw [HRLN.out];omega),HRLN.out];simp
 have RS5:=HRS.out W5 HBW.out
 rw [← HHL.out] at RS5
 have hx:s[rl]?=some x:=by rw [HHS.out,List.getElem?_append_right (by rw [HRLN.out];omega),HRLN.out];simp
 obtain ⟨g',o',c',hv',hg',hcx,_,_⟩:=il_at RS5 hx
 obtain ⟨g,o,c,hv,hg,hcy,hy1,hy2⟩:=il_at RS5 hy
 cases hv'
 cases hv
 have hgw:=Nat.lt_of_lt_of_le hg (Nat.le_trans hB2 hC5)
 have hql:q<L:=by have:=HLR.out;omega
 have dq:decide (q<L)=true:=by simpa using hql
 have dL:decide (0<L)=true:=by have:=HLR.out;simp;omega
 have dL2:decide ((0:Int)<(L:Int))=true:=by have:=HLR.out;simp;omega
 have hwq:IntKind.i64.wrap ((L:Int) - 1)=(q:Int):=by
  rw [show (L:Int) - 1=(q:Int) by have:=HLR.out;omega]
  exact wrap_nat (by omega)
 have hrlL:rl<L:=by have:=HLR.out;omega
 have drl:decide (rl<L)=true:=by simpa using hrlL
 clear hb2 c3 R3 q5 q6 hy hq RS5 hbw hx
 obtain ⟨k00,k01,k02,k03⟩:=HR5.out.c0
 obtain ⟨k10,k11,k12,k13⟩:=HR5.out.c1
 obtain ⟨k20,k21,k22⟩:=HR5.out.c2
 have k14:W5.cell? ⟨w.heap.size+1,4,none⟩=some (.slice b4 f.co.length x4):=cell_of HR5.out.e1 rfl
 obtain ⟨l50,l51,l52⟩:=HR5.out.lt
 dsimp only at k20 k21 k22
 clear c00 c01 c02 c03 c10 c11 c12 c13 c14 c20 c21 c22
 obtain ⟨a8,c8,W8,r1,q1,q2⟩:=HO5.out.put [0] (fun z hz=>by simp at hz;subst hz;exact ⟨by decide,by decide⟩) (by rw [HRLN.out];simp;omega) (by simp) hC5
 rw [List.length_append,HRLN.out] at r1
 have HQ1:=hide q1
 have HQ2:=hide (show Below w.heap.size w W8 from HBW.out.trans (q2.mono h2w))
 clear q1 q2
 have r1:(Builtin.append_ #[37,37] 37 #[.slice a5 rl c5,.slice (some ⟨W5.heap.size,0,none⟩) 1 1]).run Tryz.prog (W5.alloc (.cells #[.int .i64 (0)] 3))=.ok (.slice a8 (rl+1) c8) W8:=r1
 have HF1:=hide (rfits_any W5 (k:=y) (o:=x) ⟨by have:=hky.1;omega,hky.2⟩)
 rw [hf1] at HF1
 have HF2:=hide (rfits_any W5 (k:=x) (o:=y) ⟨by have:=hkx.1;omega,hkx.2⟩)
 rw [hf2] at HF2
 go_wp2_with (at_builtin;(refine wpList_append_eq rfl _ _ 37 37 rfl rfl rfl r5 ?_;clear r5))
 refine HF1.out.mono ?_
 rintro e w6 ⟨rfl,hw6⟩
 rw [hw6]
 clear hw6
 go_wp2_with fail
 refine HF2.out.mono ?_
 rintro e w6 ⟨rfl,hw6⟩
 rw [hw6]
 clear hw6
 have HFIN:=hide (show EfNo w.heap.size 8 w (.returned (.tuple #[.slice none 0 0,.int .i64 8])) W8 from ⟨HQ2.out,rfl⟩)
 go_wp2_with (at_builtin;first | (refine wpList_append_eq rfl _ _ 37 37 rfl rfl rfl r5 ?_;clear r5) | (refine wpList_append_eq rfl _ _ 37 37 rfl rfl rfl r1 ?_;clear r1))
 go_ret2
 exact HFIN.out
end
end Go.Proofs.YtkdojpnihinpbaaGreatDoor
