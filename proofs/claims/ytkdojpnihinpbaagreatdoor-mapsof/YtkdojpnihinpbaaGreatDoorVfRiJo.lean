/- The document's effect: calls, and objects. -/
import Derived.Test.YtkdojpnihinpbaaGreatDoorVfRh2Jo
import Derived.Test.YtkdojpnihinpbaaGreatDoorVfTkJo
namespace Go.Proofs.YtkdojpnihinpbaaGreatDoor
set_option maxRecDepth 100000
set_option maxHeartbeats 4000000
open Go.RowKit
section
variable {B Bs:Nat} {w:World} {p:Pg} {f:Fd} {a b:Int} {v1 v2 v3 v4 u1 u2 u3 u4 vs:Value} {s r:List Int}
theorem ef_24t (P:PgAt B w v1 v2 v3 v4 p) (hB:B≤w.heap.size) (s1:SlAt 1 IntP B w u1 f.lo) (s2:SlAt 1 IntP B w u2 f.re) (s3:SlAt 1 IntP B w u3 f.ar) (s4:SlAt 3 InsP B w u4 f.co) (H:Hok p) (Rs:SlAt 1 IntP Bs w vs s) (hsB:Bs≤w.heap.size) (hsl:s.length≤300000000) {ks:List Int} {kn:Nat} (hs:s=r++ks) (hkl:ks.length=kn) (hkn:(takesP p f ⟨24,a,b⟩).n=kn) (hkd:∀ x∈s,-1≤x∧x≤2000000) (hfi:(Must.fit f.re).fine (s.drop (s.length - f.re.length))=true) (hle:f.re.length≤s.length):Calls Tryz.prog 27 #[.agg #[v1,v2,v3,v4],.agg #[.int .i64 f.pa,u1,u2,u3,u4],.agg #[.int .i64 24,.int .i64 a,.int .i64 b],vs] w (EfOk w.heap.size (r) w):=by
 obtain ⟨b4,x4,hu4⟩:=sl_form s4
 subst hu4
 obtain ⟨⟨a1,d1,rfl⟩,⟨a2,d2,rfl⟩,⟨a3,d3,rfl⟩,a4,d4,rfl⟩:=fm4 P
 obtain ⟨⟨b1,x1,rfl⟩,⟨b2,x2,rfl⟩,b3,x3,rfl⟩:=fm3 s1 s2 s3
 have R:=Rx.new (i:=⟨24,a,b⟩) (u4:=.slice b4 f.co.length x4) P hB s1 s2 s3
 dsimp only at R
 obtain ⟨W1,hW1⟩:=exR R
 rw [hW1] at R
 obtain ⟨c00,c01,c02,c03⟩:=R.c0
 obtain ⟨c10,c11,c12,c13⟩:=R.c1
 obtain ⟨c20,c21,c22⟩:=R.c2
 obtain ⟨l0,l1,l2⟩:=R.lt
 dsimp only at c20 c21 c22
 have HR:=hide R
 have c14:W1.cell? ⟨w.heap.size+1,4,none⟩=some (.slice b4 f.co.length x4):=cell_of R.e1 rfl
 clear P s1 s2 s3 s4
 have b1:=R.bel
 obtain ⟨sa,ds,hvs⟩:=sl_form Rs
 subst hvs
 have HND:=hide (needs_any (i:=⟨24,a,b⟩) (u4:=.slice b4 f.co.length x4) R.pg (Nat.le_trans R.hB b1.size) R.lo R.re R.ar H ⟨by show (1:Int)≤24;decide,by show (24:Int)≤29;decide⟩ (by simp [namesB]))
 dsimp only at HND
 rw [hkn] at HND
 have HRS:=hide (show ∀ W:World,Below w.heap.size w W→SlAt 1 IntP Bs W (.slice sa s.length ds) s from fun W h=>ints_keep (Nat.le_refl _) (fun j hj=>h.block j (by omega)) Rs)
 have hcap:s.length≤ds:=by
  obtain ⟨_,_,hv,h,_⟩:=Rs
  cases hv
  exact h.2.1
 obtain ⟨L,hL⟩ : ∃ L,s.length=L:=⟨_,rfl⟩
 obtain ⟨rl,hrl⟩ : ∃ l,r.length=l:=⟨_,rfl⟩
 have hLr:L=rl+kn:=by rw [← hL,hs,← hrl,List.length_append,hkl]
 rw [hL] at HRS hcap hsl ⊢
 have HTK:=hide (show s.take rl=r from by rw [hs,← hrl];simp)
 have hwn:IntKind.i64.wrap ((L:Int) - (kn:Int))=(rl:Int):=by
  rw [show (L:Int) - (kn:Int)=(rl:Int) by omega]
  exact wrap_nat (by omega)
 have hrd:rl≤ds:=by omega
 have hrd2:(rl:Int)≤(ds:Int):=by omega
 have HHL:=hide hL
 have HRLN:=hide hrl
 have HHS:=hide hs
 have HLR:=hide hLr
 have hrl3:rl≤300000000:=by omega
 have hrlL0:rl≤L:=by omega
 clear Rs hs hL hrl hLr
 go_enter Tryz.func27,Tryz.ntmps27
 go_wp2_with fail
 refine HND.out.mono ?_
 rintro e w2 ⟨rfl,hb2⟩
 have HR2:=hide (HR.out.up hb2)
 have hbw:=HR2.out.bel
 have hB2:Bs≤w2.heap.size:=Nat.le_trans hsB hbw.size
 have c3:Below w2.heap.size w2 (w2.alloc (.cells #[] 3)):=(Below.refl _ _).alloc (Nat.le_refl _) _
 have R3:SlAt 1 IntP Bs (w2.alloc (.cells #[] 3)) (.slice sa rl ds) r:=by
  have h:=HRS.out (w2.alloc (.cells #[] 3)) (bel_tr hbw c3)
  rw [← HHL.out] at h
  have h2:=sl_take h (n:=rl) (by rw [HHL.out];exact hrlL0)
  rw [HTK.out] at h2
  exact h2
 obtain ⟨a5,c5,W5,r5,q5,q6⟩:=(OwI.new (heap_new w2 (.cells #[] 3) rfl)).app R3 (by rw [HRLN.out];simp;omega) (Nat.le_of_lt (lt_of_block (heap_new w2 (.cells #[] 3) rfl)))
 rw [List.nil_append,HRLN.out] at r5 q5
 have HO5:=hide q5
 have HB5:=hide (show Below w2.heap.size w2 W5 from c3.trans q6)
 have HR5:=hide (HR2.out.up HB5.out)
 have HBW:=hide (show Below w.heap.size w W5 from bel_tr hbw HB5.out)
 have hC5:w2.heap.size≤W5.heap.size:=HB5.out.size
 have h2w:w.heap.size≤w2.heap.size:=hbw.size
 clear hb2 c3 R3 q5 q6 hbw
 by_cases h0:L=0
 · have dL:decide (0<L)=false:=by simp;omega
   have dL2:decide ((0:Int)<(L:Int))=false:=by simp;omega
   clear h0
   obtain ⟨k00,k01,k02,k03⟩:=HR5.out.c0
   obtain ⟨k10,k11,k12,k13⟩:=HR5.out.c1
   obtain ⟨k20,k21,k22⟩:=HR5.out.c2
   have k14:W5.cell? ⟨w.heap.size+1,4,none⟩=some (.slice b4 f.co.length x4):=cell_of HR5.out.e1 rfl
   obtain ⟨l50,l51,l52⟩:=HR5.out.lt
   dsimp only at k20 k21 k22
   clear c00 c01 c02 c03 c10 c11 c12 c13 c14 c20 c21 c22
   have HAL:=hide (rall_any (HRS.out W5 HBW.out) HR5.out.re (Nat.le_trans hB2 hC5) (Nat.le_trans HR5.out.hB HR5.out.bel.size) hle (by have:=HHL.out;omega) hkd)
   rw [hfi] at HAL
   go_wp2_with (at_builtin;(refine wpList_append_eq rfl _ _ 37 37 rfl rfl rfl r5 ?_;clear r5))
   refine HAL.out.mono ?_
   rintro e w6 ⟨rfl,hb6⟩
   have HB6:=hide hb6
   clear hb6
   have HFIN:=hide (show EfOk w.heap.size r w (.returned (.tuple #[.slice a5 rl c5,.int .i64 0])) w6 from ⟨bel_tr HBW.out HB6.out,a5,c5,by rw [HRLN.out],by rw [HRLN.out];exact (HO5.out.up HB6.out).weak h2w⟩)
   go_wp2_with fail
   go_ret2
   exact HFIN.out
 · obtain ⟨q,hq⟩ : ∃ q,L - 1=q:=⟨_,rfl⟩
   obtain ⟨y,hy⟩ : ∃ y,s[q]?=some y:=⟨s[q]'(by rw [HHL.out];omega),by simp⟩
   have RS5:=HRS.out W5 HBW.out
   rw [← HHL.out] at RS5
   obtain ⟨g,o,c,hv,hg,hcy,_,_⟩:=il_at RS5 hy
   cases hv
   have hgw:=Nat.lt_of_lt_of_le hg (Nat.le_trans hB2 hC5)
   have hql:q<L:=by omega
   have dq:decide (q<L)=true:=by simpa using hql
   have dL:decide (0<L)=true:=by simp;omega
   have dL2:decide ((0:Int)<(L:Int))=true:=by simp;omega
   have hwq:IntKind.i64.wrap ((L:Int) - 1)=(q:Int):=by
    rw [show (L:Int) - 1=(q:Int) by omega]
    exact wrap_nat (by omega)
   clear hy hq RS5 h0
   obtain ⟨k00,k01,k02,k03⟩:=HR5.out.c0
   obtain ⟨k10,k11,k12,k13⟩:=HR5.out.c1
   obtain ⟨k20,k21,k22⟩:=HR5.out.c2
   have k14:W5.cell? ⟨w.heap.size+1,4,none⟩=some (.slice b4 f.co.length x4):=cell_of HR5.out.e1 rfl
   obtain ⟨l50,l51,l52⟩:=HR5.out.lt
   dsimp only at k20 k21 k22
   clear c00 c01 c02 c03 c10 c11 c12 c13 c14 c20 c21 c22
   have HAL:=hide (rall_any (HRS.out W5 HBW.out) HR5.out.re (Nat.le_trans hB2 hC5) (Nat.le_trans HR5.out.hB HR5.out.bel.size) hle (by have:=HHL.out;omega) hkd)
   rw [hfi] at HAL
   go_wp2_with (at_builtin;(refine wpList_append_eq rfl _ _ 37 37 rfl rfl rfl r5 ?_;clear r5))
   refine HAL.out.mono ?_
   rintro e w6 ⟨rfl,hb6⟩
   have HB6:=hide hb6
   clear hb6
   have HFIN:=hide (show EfOk w.heap.size r w (.returned (.tuple #[.slice a5 rl c5,.int .i64 0])) w6 from ⟨bel_tr HBW.out HB6.out,a5,c5,by rw [HRLN.out],by rw [HRLN.out];exact (HO5.out.up HB6.out).weak h2w⟩)
   go_wp2_with fail
   go_ret2
   exact HFIN.out
theorem ef_24f (P:PgAt B w v1 v2 v3 v4 p) (hB:B≤w.heap.size) (s1:SlAt 1 IntP B w u1 f.lo) (s2:SlAt 1 IntP B w u2 f.re) (s3:SlAt 1 IntP B w u3 f.ar) (s4:SlAt 3 InsP B w u4 f.co) (H:Hok p) (Rs:SlAt 1 IntP Bs w vs s) (hsB:Bs≤w.heap.size) (hsl:s.length≤300000000) {ks:List Int} {kn:Nat} (hs:s=r++ks) (hkl:ks.length=kn) (hkn:(takesP p f ⟨24,a,b⟩).n=kn) (hkd:∀ x∈s,-1≤x∧x≤2000000) (hfi:(Must.fit f.re).fine (s.drop (s.length - f.re.length))=false) (hle:f.re.length≤s.length):Calls Tryz.prog 27 #[.agg #[v1,v2,v3,v4],.agg #[.int .i64 f.pa,u1,u2,u3,u4],.agg #[.int .i64 24,.int .i64 a,.int .i64 b],vs] w (EfNo w.heap.size 8 w):=by
 obtain ⟨b4,x4,hu4⟩:=sl_form s4
 subst hu4
 obtain ⟨⟨a1,d1,rfl⟩,⟨a2,d2,rfl⟩,⟨a3,d3,rfl⟩,a4,d4,rfl⟩:=fm4 P
 obtain ⟨⟨b1,x1,rfl⟩,⟨b2,x2,rfl⟩,b3,x3,rfl⟩:=fm3 s1 s2 s3
 have R:=Rx.new (i:=⟨24,a,b⟩) (u4:=.slice b4 f.co.length x4) P hB s1 s2 s3
 dsimp only at R
 obtain ⟨W1,hW1⟩:=exR R
 rw [hW1] at R
 obtain ⟨c00,c01,c02,c03⟩:=R.c0
 obtain ⟨c10,c11,c12,c13⟩:=R.c1
 obtain ⟨c20,c21,c22⟩:=R.c2
 obtain ⟨l0,l1,l2⟩:=R.lt
 dsimp only at c20 c21 c22
 have HR:=hide R
 have c14:W1.cell? ⟨w.heap.size+1,4,none⟩=some (.slice b4 f.co.length x4):=cell_of R.e1 rfl
 clear P s1 s2 s3 s4
 have b1:=R.bel
 obtain ⟨sa,ds,hvs⟩:=sl_form Rs
 subst hvs
 have HND:=hide (needs_any (i:=⟨24,a,b⟩) (u4:=.slice b4 f.co.length x4) R.pg (Nat.le_trans R.hB b1.size) R.lo R.re R.ar H ⟨by show (1:Int)≤24;decide,by show (24:Int)≤29;decide⟩ (by simp [namesB]))
 dsimp only at HND
 rw [hkn] at HND
 have HRS:=hide (show ∀ W:World,Below w.heap.size w W→SlAt 1 IntP Bs W (.slice sa s.length ds) s from fun W h=>ints_keep (Nat.le_refl _) (fun j hj=>h.block j (by omega)) Rs)
 have hcap:s.length≤ds:=by
  obtain ⟨_,_,hv,h,_⟩:=Rs
  cases hv
  exact h.2.1
 obtain ⟨L,hL⟩ : ∃ L,s.length=L:=⟨_,rfl⟩
 obtain ⟨rl,hrl⟩ : ∃ l,r.length=l:=⟨_,rfl⟩
 have hLr:L=rl+kn:=by rw [← hL,hs,← hrl,List.length_append,hkl]
 rw [hL] at HRS hcap hsl ⊢
 have HTK:=hide (show s.take rl=r from by rw [hs,← hrl];simp)
 have hwn:IntKind.i64.wrap ((L:Int) - (kn:Int))=(rl:Int):=by
  rw [show (L:Int) - (kn:Int)=(rl:Int) by omega]
  exact wrap_nat (by omega)
 have hrd:rl≤ds:=by omega
 have hrd2:(rl:Int)≤(ds:Int):=by omega
 have HHL:=hide hL
 have HRLN:=hide hrl
 have HHS:=hide hs
 have HLR:=hide hLr
 have hrl3:rl≤300000000:=by omega
 have hrlL0:rl≤L:=by omega
 clear Rs hs hL hrl hLr
 go_enter Tryz.func27,Tryz.ntmps27
 go_wp2_with fail
 refine HND.out.mono ?_
 rintro e w2 ⟨rfl,hb2⟩
 have HR2:=hide (HR.out.up hb2)
 have hbw:=HR2.out.bel
 have hB2:Bs≤w2.heap.size:=Nat.le_trans hsB hbw.size
 have c3:Below w2.heap.size w2 (w2.alloc (.cells #[] 3)):=(Below.refl _ _).alloc (Nat.le_refl _) _
 have R3:SlAt 1 IntP Bs (w2.alloc (.cells #[] 3)) (.slice sa rl ds) r:=by
  have h:=HRS.out (w2.alloc (.cells #[] 3)) (bel_tr hbw c3)
  rw [← HHL.out] at h
  have h2:=sl_take h (n:=rl) (by rw [HHL.out];exact hrlL0)
  rw [HTK.out] at h2
  exact h2
 obtain ⟨a5,c5,W5,r5,q5,q6⟩:=(OwI.new (heap_new w2 (.cells #[] 3) rfl)).app R3 (by rw [HRLN.out];simp;omega) (Nat.le_of_lt (lt_of_block (heap_new w2 (.cells #[] 3) rfl)))
 rw [List.nil_append,HRLN.out] at r5 q5
 have HO5:=hide q5
 have HB5:=hide (show Below w2.heap.size w2 W5 from c3.trans q6)
 have HR5:=hide (HR2.out.up HB5.out)
 have HBW:=hide (show Below w.heap.size w W5 from bel_tr hbw HB5.out)
 have hC5:w2.heap.size≤W5.heap.size:=HB5.out.size
 have h2w:w.heap.size≤w2.heap.size:=hbw.size
 clear hb2 c3 R3 q5 q6 hbw
 by_cases h0:L=0
 · have dL:decide (0<L)=false:=by simp;omega
   have dL2:decide ((0:Int)<(L:Int))=false:=by simp;omega
   clear h0
   obtain ⟨k00,k01,k02,k03⟩:=HR5.out.c0
   obtain ⟨k10,k11,k12,k13⟩:=HR5.out.c1
   obtain ⟨k20,k21,k22⟩:=HR5.out.c2
   have k14:W5.cell? ⟨w.heap.size+1,4,none⟩=some (.slice b4 f.co.length x4):=cell_of HR5.out.e1 rfl
   obtain ⟨l50,l51,l52⟩:=HR5.out.lt
   dsimp only at k20 k21 k22
   clear c00 c01 c02 c03 c10 c11 c12 c13 c14 c20 c21 c22
   have HAL:=hide (rall_any (HRS.out W5 HBW.out) HR5.out.re (Nat.le_trans hB2 hC5) (Nat.le_trans HR5.out.hB HR5.out.bel.size) hle (by have:=HHL.out;omega) hkd)
   rw [hfi] at HAL
   go_wp2_with (at_builtin;(refine wpList_append_eq rfl _ _ 37 37 rfl rfl rfl r5 ?_;clear r5))
   refine HAL.out.mono ?_
   rintro e w6 ⟨rfl,hb6⟩
   have HB6:=hide hb6
   clear hb6
   have HFIN:=hide (show EfNo w.heap.size 8 w (.returned (.tuple #[.slice none 0 0,.int .i64 8])) w6 from ⟨bel_tr HBW.out HB6.out,rfl⟩)
   go_wp2_with fail
   go_ret2
   exact HFIN.out
 · obtain ⟨q,hq⟩ : ∃ q,L - 1=q:=⟨_,rfl⟩
   obtain ⟨y,hy⟩ : ∃ y,s[q]?=some y:=⟨s[q]'(by rw [HHL.out];omega),by simp⟩
   have RS5:=HRS.out W5 HBW.out
   rw [← HHL.out] at RS5
   obtain ⟨g,o,c,hv,hg,hcy,_,_⟩:=il_at RS5 hy
   cases hv
   have hgw:=Nat.lt_of_lt_of_le hg (Nat.le_trans hB2 hC5)
   have hql:q<L:=by omega
   have dq:decide (q<L)=true:=by simpa using hql
   have dL:decide (0<L)=true:=by simp;omega
   have dL2:decide ((0:Int)<(L:Int))=true:=by simp;omega
   have hwq:IntKind.i64.wrap ((L:Int) - 1)=(q:Int):=by
    rw [show (L:Int) - 1=(q:Int) by omega]
    exact wrap_nat (by omega)
   clear hy hq RS5 h0
   obtain ⟨k00,k01,k02,k03⟩:=HR5.out.c0
   obtain ⟨k10,k11,k12,k13⟩:=HR5.out.c1
   obtain ⟨k20,k21,k22⟩:=HR5.out.c2
   have k14:W5.cell? ⟨w.heap.size+1,4,none⟩=some (.slice b4 f.co.length x4):=cell_of HR5.out.e1 rfl
   obtain ⟨l50,l51,l52⟩:=HR5.out.lt
   dsimp only at k20 k21 k22
   clear c00 c01 c02 c03 c10 c11 c12 c13 c14 c20 c21 c22
   have HAL:=hide (rall_any (HRS.out W5 HBW.out) HR5.out.re (Nat.le_trans hB2 hC5) (Nat.le_trans HR5.out.hB HR5.out.bel.size) hle (by have:=HHL.out;omega) hkd)
   rw [hfi] at HAL
   go_wp2_with (at_builtin;(refine wpList_append_eq rfl _ _ 37 37 rfl rfl rfl r5 ?_;clear r5))
   refine HAL.out.mono ?_
   rintro e w6 ⟨rfl,hb6⟩
   have HB6:=hide hb6
   clear hb6
   have HFIN:=hide (show EfNo w.heap.size 8 w (.returned (.tuple #[.slice none 0 0,.int .i64 8])) w6 from ⟨bel_tr HBW.out HB6.out,rfl⟩)
   go_wp2_with fail
   go_ret2
   exact HFIN.out
theorem ef_22t (P:PgAt B w v1 v2 v3 v4 p) (hB:B≤w.heap.size) (s1:SlAt 1 IntP B w u1 f.lo) (s2:SlAt 1 IntP B w u2 f.re) (s3:SlAt 1 IntP B w u3 f.ar) (s4:SlAt 3 InsP B w u4 f.co) (H:Hok p) (Rs:SlAt 1 IntP Bs w vs s) (hsB:Bs≤w.heap.size) (hsl:s.length≤300000000) {ks:List Int} {kn:Nat} (hs:s=r++ks) (hkl:ks.length=kn) (hkn:(takesP p f ⟨22,a,b⟩).n=kn) (hkd:∀ x∈s,-1≤x∧x≤2000000) {n:Nat} {g0:Fd} (hN:namesB p f ⟨22,(n:Int),b⟩=true) (ha:a=(n:Int)) (hg0:p.fu[n]?=some g0) (hpk:g0.pa=(kn:Int)) (hple:kn≤g0.lo.length) (hre:g0.re.length≤4096) (hkle:kn≤s.length) (hfi:(Must.fit (g0.lo.take kn)).fine (s.drop (s.length - kn))=true):Calls Tryz.prog 27 #[.agg #[v1,v2,v3,v4],.agg #[.int .i64 f.pa,u1,u2,u3,u4],.agg #[.int .i64 22,.int .i64 a,.int .i64 b],vs] w (EfOk w.heap.size (r++g0.re) w):=by
 obtain ⟨b4,x4,hu4⟩:=sl_form s4
 subst hu4
 obtain ⟨⟨a1,d1,rfl⟩,⟨a2,d2,rfl⟩,⟨a3,d3,rfl⟩,a4,d4,rfl⟩:=fm4 P
 obtain ⟨⟨b1,x1,rfl⟩,⟨b2,x2,rfl⟩,b3,x3,rfl⟩:=fm3 s1 s2 s3
 have R:=Rx.new (i:=⟨22,a,b⟩) (u4:=.slice b4 f.co.length x4) P hB s1 s2 s3
 dsimp only at R
 obtain ⟨W1,hW1⟩:=exR R
 rw [hW1] at R
 obtain ⟨c00,c01,c02,c03⟩:=R.c0
 obtain ⟨c10,c11,c12,c13⟩:=R.c1
 obtain ⟨c20,c21,c22⟩:=R.c2
 obtain ⟨l0,l1,l2⟩:=R.lt
 dsimp only at c20 c21 c22
 have HR:=hide R
 have c14:W1.cell? ⟨w.heap.size+1,4,none⟩=some (.slice b4 f.co.length x4):=cell_of R.e1 rfl
 clear P s1 s2 s3 s4
 have b1:=R.bel
 obtain ⟨sa,ds,hvs⟩:=sl_form Rs
 subst hvs
 have HND:=hide (needs_any (i:=⟨22,a,b⟩) (u4:=.slice b4 f.co.length x4) R.pg (Nat.le_trans R.hB b1.size) R.lo R.re R.ar H ⟨by show (1:Int)≤22;decide,by show (22:Int)≤29;decide⟩ (by rw [ha];exact hN))
 dsimp only at HND
 rw [hkn] at HND
 have HRS:=hide (show ∀ W:World,Below w.heap.size w W→SlAt 1 IntP Bs W (.slice sa s.length ds) s from fun W h=>ints_keep (Nat.le_refl _) (fun j hj=>h.block j (by omega)) Rs)
 have hcap:s.length≤ds:=by
  obtain ⟨_,_,hv,h,_⟩:=Rs
  cases hv
  exact h.2.1
 obtain ⟨L,hL⟩ : ∃ L,s.length=L:=⟨_,rfl⟩
 obtain ⟨rl,hrl⟩ : ∃ l,r.length=l:=⟨_,rfl⟩
 have hLr:L=rl+kn:=by rw [← hL,hs,← hrl,List.length_append,hkl]
 rw [hL] at HRS hcap hsl ⊢
 have HTK:=hide (show s.take rl=r from by rw [hs,← hrl];simp)
 have hwn:IntKind.i64.wrap ((L:Int) - (kn:Int))=(rl:Int):=by
  rw [show (L:Int) - (kn:Int)=(rl:Int) by omega]
  exact wrap_nat (by omega)
 have hrd:rl≤ds:=by omega
 have hrd2:(rl:Int)≤(ds:Int):=by omega
 have HHL:=hide hL
 have HRLN:=hide hrl
 have HHS:=hide hs
 have HLR:=hide hLr
 have hrl3:rl≤300000000:=by omega
 have hrlL0:rl≤L:=by omega
 clear Rs hs hL hrl hLr
 subst ha
 go_enter Tryz.func27,Tryz.ntmps27
 go_wp2_with fail
 refine HND.out.mono ?_
 rintro e w2 ⟨rfl,hb2⟩
 have HR2:=hide (HR.out.up hb2)
 have hbw:=HR2.out.bel
 have hB2:Bs≤w2.heap.size:=Nat.le_trans hsB hbw.size
 have c3:Below w2.heap.size w2 (w2.alloc (.cells #[] 3)):=(Below.refl _ _).alloc (Nat.le_refl _) _
 have R3:SlAt 1 IntP Bs (w2.alloc (.cells #[] 3)) (.slice sa rl ds) r:=by
  have h:=HRS.out (w2.alloc (.cells #[] 3)) (bel_tr hbw c3)
  rw [← HHL.out] at h
  have h2:=sl_take h (n:=rl) (by rw [HHL.out];exact hrlL0)
  rw [HTK.out] at h2
  exact h2
 obtain ⟨a5,c5,W5,r5,q5,q6⟩:=(OwI.new (heap_new w2 (.cells #[] 3) rfl)).app R3 (by rw [HRLN.out];simp;omega) (Nat.le_of_lt (lt_of_block (heap_new w2 (.cells #[] 3) rfl)))
 rw [List.nil_append,HRLN.out] at r5 q5
 have HO5:=hide q5
 have HB5:=hide (show Below w2.heap.size w2 W5 from c3.trans q6)
 have HR5:=hide (HR2.out.up HB5.out)
 have HBW:=hide (show Below w.heap.size w W5 from bel_tr hbw HB5.out)
 have hC5:w2.heap.size≤W5.heap.size:=HB5.out.size
 have h2w:w.heap.size≤w2.heap.size:=hbw.size
 clear hb2 c3 R3 q5 q6 hbw
 by_cases h0:L=0
 · have dL:decide (0<L)=false:=by simp;omega
   have dL2:decide ((0:Int)<(L:Int))=false:=by simp;omega
   clear h0
   obtain ⟨k00,k01,k02,k03⟩:=HR5.out.c0
   obtain ⟨k10,k11,k12,k13⟩:=HR5.out.c1
   obtain ⟨k20,k21,k22⟩:=HR5.out.c2
   have k14:W5.cell? ⟨w.heap.size+1,4,none⟩=some (.slice b4 f.co.length x4):=cell_of HR5.out.e1 rfl
   obtain ⟨l50,l51,l52⟩:=HR5.out.lt
   dsimp only at k20 k21 k22
   clear c00 c01 c02 c03 c10 c11 c12 c13 c14 c20 c21 c22
   have hBW5:B≤W5.heap.size:=Nat.le_trans HR5.out.hB HR5.out.bel.size
   obtain ⟨qg,og,cg,ng,z1,z2,z3,z4,hvg,hng,hnl,hqg,⟨y0,y1,y2,y3,y4⟩,t1,t2,t3,t4⟩:=fd_at HR5.out.pg.fu hg0
   cases hvg
   obtain ⟨e1,j1,hz1⟩:=sl_form t1
   obtain ⟨e2,j2,hz2⟩:=sl_form t2
   obtain ⟨e3,j3,hz3⟩:=sl_form t3
   obtain ⟨e4,j4,hz4⟩:=sl_form t4
   subst hz1 hz2 hz3 hz4
   rw [hpk] at y0
   have hqgw:qg<W5.heap.size:=Nat.lt_of_lt_of_le hqg hBW5
   have dng:decide (n<p.fu.length)=true:=by simpa using hnl
   have hcj:g0.lo.length≤j1:=by
    obtain ⟨_,_,hv,h,_⟩:=t1
    cases hv
    exact h.2.1
   have hkj:kn≤j1:=by omega
   have hkj2:(kn:Int)≤(j1:Int):=by omega
   clear hng
   obtain ⟨W6,hW6⟩ : ∃ W6,W5.alloc (.cells #[.int .i64 (kn:Int),.slice e1 g0.lo.length j1,.slice e2 g0.re.length j2,.slice e3 g0.ar.length j3,.slice e4 g0.co.length j4] 40)=W6:=⟨_,rfl⟩
   have b6:Below W5.heap.size W5 W6:=by rw [← hW6];exact (Below.refl _ _).alloc (Nat.le_refl _) _
   have e6:W6.heap[W5.heap.size]?=some (.cells #[.int .i64 (kn:Int),.slice e1 g0.lo.length j1,.slice e2 g0.re.length j2,.slice e3 g0.ar.length j3,.slice e4 g0.co.length j4] 40 (0,0)):=by rw [← hW6];exact heap_new _ _ rfl
   have HB6:=hide b6
   have HE6:=hide e6
   have k60:W6.cell? ⟨W5.heap.size,0,none⟩=some (.int .i64 (kn:Int)):=cell_of e6 rfl
   have k61:W6.cell? ⟨W5.heap.size,1,none⟩=some (.slice e1 g0.lo.length j1):=cell_of e6 rfl
   have l6:W5.heap.size<W6.heap.size:=lt_of_block e6
   have HAL:=hide (rall_any (HRS.out W6 (bel_tr HBW.out HB6.out)) (show SlAt 1 IntP B W6 (.slice e1 kn j1) (g0.lo.take kn) from sl_take (ints_keep (Nat.le_refl _) (fun j hj=>HB6.out.block j (by omega)) t1) hple) (Nat.le_trans hB2 (Nat.le_trans hC5 HB6.out.size)) (Nat.le_trans hBW5 HB6.out.size) (by rw [List.length_take];omega) (by have:=HHL.out;omega) hkd)
   rw [List.length_take,Nat.min_eq_left hple,hfi] at HAL
   clear b6 e6 hg0 hpk hfi
   go_wp2_with (at_builtin;(refine wpList_append_eq rfl _ _ 37 37 rfl rfl rfl r5 ?_;clear r5))
   refine HAL.out.mono ?_
   rintro e w7 ⟨rfl,hb7⟩
   have HB7:=hide (bel_tr HB6.out hb7)
   obtain ⟨a8,c8,W8,r1,q1,q2⟩:=(HO5.out.up HB7.out).app (show SlAt 1 IntP B w7 (.slice e2 g0.re.length j2) g0.re from ints_keep (Nat.le_refl _) (fun j hj=>HB7.out.block j (by omega)) t2) (by rw [HRLN.out];omega) (Nat.le_trans hC5 HB7.out.size)
   rw [List.length_append,HRLN.out] at r1
   have HW8:=hide (show Below w.heap.size w W8 from (bel_tr HBW.out HB7.out).trans (q2.mono h2w))
   have k7:w7.cell? ⟨W5.heap.size,2,none⟩=some (.slice e2 g0.re.length j2):=(hb7.cell (p:=⟨W5.heap.size,2,none⟩) (lt_of_block HE6.out)).trans (cell_of HE6.out rfl)
   have HFIN:=hide (show EfOk w.heap.size (r++g0.re) w (.returned (.tuple #[.slice a8 (rl+g0.re.length) c8,.int .i64 0])) W8 from ⟨HW8.out,a8,c8,by rw [List.length_append,HRLN.out],by have:=q1.weak h2w;rw [List.length_append,HRLN.out] at this ⊢;exact this⟩)
   clear hb7 q1 q2
   go_wp2_with (at_builtin;(refine wpList_append_eq rfl _ _ 37 37 rfl rfl rfl r1 ?_;clear r1))
   go_ret2
   exact HFIN.out
 · obtain ⟨q,hq⟩ : ∃ q,L - 1=q:=⟨_,rfl⟩
   obtain ⟨y,hy⟩ : ∃ y,s[q]?=some y:=⟨s[q]'(by rw [HHL.out];omega),by simp⟩
   have RS5:=HRS.out W5 HBW.out
   rw [← HHL.out] at RS5
   obtain ⟨g,o,c,hv,hg,hcy,_,_⟩:=il_at RS5 hy
   cases hv
   have hgw:=Nat.lt_of_lt_of_le hg (Nat.le_trans hB2 hC5)
   have hql:q<L:=by omega
   have dq:decide (q<L)=true:=by simpa using hql
   have dL:decide (0<L)=true:=by simp;omega
   have dL2:decide ((0:Int)<(L:Int))=true:=by simp;omega
   have hwq:IntKind.i64.wrap ((L:Int) - 1)=(q:Int):=by
    rw [show (L:Int) - 1=(q:Int) by omega]
    exact wrap_nat (by omega)
   clear hy hq RS5 h0
   obtain ⟨k00,k01,k02,k03⟩:=HR5.out.c0
   obtain ⟨k10,k11,k12,k13⟩:=HR5.out.c1
   obtain ⟨k20,k21,k22⟩:=HR5.out.c2
   have k14:W5.cell? ⟨w.heap.size+1,4,none⟩=some (.slice b4 f.co.length x4):=cell_of HR5.out.e1 rfl
   obtain ⟨l50,l51,l52⟩:=HR5.out.lt
   dsimp only at k20 k21 k22
   clear c00 c01 c02 c03 c10 c11 c12 c13 c14 c20 c21 c22
   have hBW5:B≤W5.heap.size:=Nat.le_trans HR5.out.hB HR5.out.bel.size
   obtain ⟨qg,og,cg,ng,z1,z2,z3,z4,hvg,hng,hnl,hqg,⟨y0,y1,y2,y3,y4⟩,t1,t2,t3,t4⟩:=fd_at HR5.out.pg.fu hg0
   cases hvg
   obtain ⟨e1,j1,hz1⟩:=sl_form t1
   obtain ⟨e2,j2,hz2⟩:=sl_form t2
   obtain ⟨e3,j3,hz3⟩:=sl_form t3
   obtain ⟨e4,j4,hz4⟩:=sl_form t4
   subst hz1 hz2 hz3 hz4
   rw [hpk] at y0
   have hqgw:qg<W5.heap.size:=Nat.lt_of_lt_of_le hqg hBW5
   have dng:decide (n<p.fu.length)=true:=by simpa using hnl
   have hcj:g0.lo.length≤j1:=by
    obtain ⟨_,_,hv,h,_⟩:=t1
    cases hv
    exact h.2.1
   have hkj:kn≤j1:=by omega
   have hkj2:(kn:Int)≤(j1:Int):=by omega
   clear hng
   obtain ⟨W6,hW6⟩ : ∃ W6,W5.alloc (.cells #[.int .i64 (kn:Int),.slice e1 g0.lo.length j1,.slice e2 g0.re.length j2,.slice e3 g0.ar.length j3,.slice e4 g0.co.length j4] 40)=W6:=⟨_,rfl⟩
   have b6:Below W5.heap.size W5 W6:=by rw [← hW6];exact (Below.refl _ _).alloc (Nat.le_refl _) _
   have e6:W6.heap[W5.heap.size]?=some (.cells #[.int .i64 (kn:Int),.slice e1 g0.lo.length j1,.slice e2 g0.re.length j2,.slice e3 g0.ar.length j3,.slice e4 g0.co.length j4] 40 (0,0)):=by rw [← hW6];exact heap_new _ _ rfl
   have HB6:=hide b6
   have HE6:=hide e6
   have k60:W6.cell? ⟨W5.heap.size,0,none⟩=some (.int .i64 (kn:Int)):=cell_of e6 rfl
   have k61:W6.cell? ⟨W5.heap.size,1,none⟩=some (.slice e1 g0.lo.length j1):=cell_of e6 rfl
   have l6:W5.heap.size<W6.heap.size:=lt_of_block e6
   have HAL:=hide (rall_any (HRS.out W6 (bel_tr HBW.out HB6.out)) (show SlAt 1 IntP B W6 (.slice e1 kn j1) (g0.lo.take kn) from sl_take (ints_keep (Nat.le_refl _) (fun j hj=>HB6.out.block j (by omega)) t1) hple) (Nat.le_trans hB2 (Nat.le_trans hC5 HB6.out.size)) (Nat.le_trans hBW5 HB6.out.size) (by rw [List.length_take];omega) (by have:=HHL.out;omega) hkd)
   rw [List.length_take,Nat.min_eq_left hple,hfi] at HAL
   clear b6 e6 hg0 hpk hfi
   go_wp2_with (at_builtin;(refine wpList_append_eq rfl _ _ 37 37 rfl rfl rfl r5 ?_;clear r5))
   refine HAL.out.mono ?_
   rintro e w7 ⟨rfl,hb7⟩
   have HB7:=hide (bel_tr HB6.out hb7)
   obtain ⟨a8,c8,W8,r1,q1,q2⟩:=(HO5.out.up HB7.out).app (show SlAt 1 IntP B w7 (.slice e2 g0.re.length j2) g0.re from ints_keep (Nat.le_refl _) (fun j hj=>HB7.out.block j (by omega)) t2) (by rw [HRLN.out];omega) (Nat.le_trans hC5 HB7.out.size)
   rw [List.length_append,HRLN.out] at r1
   have HW8:=hide (show Below w.heap.size w W8 from (bel_tr HBW.out HB7.out).trans (q2.mono h2w))
   have k7:w7.cell? ⟨W5.heap.size,2,none⟩=some (.slice e2 g0.re.length j2):=(hb7.cell (p:=⟨W5.heap.size,2,none⟩) (lt_of_block HE6.out)).trans (cell_of HE6.out rfl)
   have HFIN:=hide (show EfOk w.heap.size (r++g0.re) w (.returned (.tuple #[.slice a8 (rl+g0.re.length) c8,.int .i64 0])) W8 from ⟨HW8.out,a8,c8,by rw [List.length_append,HRLN.out],by have:=q1.weak h2w;rw [List.length_append,HRLN.out] at this ⊢;exact this⟩)
   clear hb7 q1 q2
   go_wp2_with (at_builtin;(refine wpList_append_eq rfl _ _ 37 37 rfl rfl rfl r1 ?_;clear r1))
   go_ret2
   exact HFIN.out
theorem ef_22f (P:PgAt B w v1 v2 v3 v4 p) (hB:B≤w.heap.size) (s1:SlAt 1 IntP B w u1 f.lo) (s2:SlAt 1 IntP B w u2 f.re) (s3:SlAt 1 IntP B w u3 f.ar) (s4:SlAt 3 InsP B w u4 f.co) (H:Hok p) (Rs:SlAt 1 IntP Bs w vs s) (hsB:Bs≤w.heap.size) (hsl:s.length≤300000000) {ks:List Int} {kn:Nat} (hs:s=r++ks) (hkl:ks.length=kn) (hkn:(takesP p f ⟨22,a,b⟩).n=kn) (hkd:∀ x∈s,-1≤x∧x≤2000000) {n:Nat} {g0:Fd} (hN:namesB p f ⟨22,(n:Int),b⟩=true) (ha:a=(n:Int)) (hg0:p.fu[n]?=some g0) (hpk:g0.pa=(kn:Int)) (hple:kn≤g0.lo.length) (hre:g0.re.length≤4096) (hkle:kn≤s.length) (hfi:(Must.fit (g0.lo.take kn)).fine (s.drop (s.length - kn))=false):Calls Tryz.prog 27 #[.agg #[v1,v2,v3,v4],.agg #[.int .i64 f.pa,u1,u2,u3,u4],.agg #[.int .i64 22,.int .i64 a,.int .i64 b],vs] w (EfNo w.heap.size 8 w):=by
 obtain ⟨b4,x4,hu4⟩:=sl_form s4
 subst hu4
 obtain ⟨⟨a1,d1,rfl⟩,⟨a2,d2,rfl⟩,⟨a3,d3,rfl⟩,a4,d4,rfl⟩:=fm4 P
 obtain ⟨⟨b1,x1,rfl⟩,⟨b2,x2,rfl⟩,b3,x3,rfl⟩:=fm3 s1 s2 s3
 have R:=Rx.new (i:=⟨22,a,b⟩) (u4:=.slice b4 f.co.length x4) P hB s1 s2 s3
 dsimp only at R
 obtain ⟨W1,hW1⟩:=exR R
 rw [hW1] at R
 obtain ⟨c00,c01,c02,c03⟩:=R.c0
 obtain ⟨c10,c11,c12,c13⟩:=R.c1
 obtain ⟨c20,c21,c22⟩:=R.c2
 obtain ⟨l0,l1,l2⟩:=R.lt
 dsimp only at c20 c21 c22
 have HR:=hide R
 have c14:W1.cell? ⟨w.heap.size+1,4,none⟩=some (.slice b4 f.co.length x4):=cell_of R.e1 rfl
 clear P s1 s2 s3 s4
 have b1:=R.bel
 obtain ⟨sa,ds,hvs⟩:=sl_form Rs
 subst hvs
 have HND:=hide (needs_any (i:=⟨22,a,b⟩) (u4:=.slice b4 f.co.length x4) R.pg (Nat.le_trans R.hB b1.size) R.lo R.re R.ar H ⟨by show (1:Int)≤22;decide,by show (22:Int)≤29;decide⟩ (by rw [ha];exact hN))
 dsimp only at HND
 rw [hkn] at HND
 have HRS:=hide (show ∀ W:World,Below w.heap.size w W→SlAt 1 IntP Bs W (.slice sa s.length ds) s from fun W h=>ints_keep (Nat.le_refl _) (fun j hj=>h.block j (by omega)) Rs)
 have hcap:s.length≤ds:=by
  obtain ⟨_,_,hv,h,_⟩:=Rs
  cases hv
  exact h.2.1
 obtain ⟨L,hL⟩ : ∃ L,s.length=L:=⟨_,rfl⟩
 obtain ⟨rl,hrl⟩ : ∃ l,r.length=l:=⟨_,rfl⟩
 have hLr:L=rl+kn:=by rw [← hL,hs,← hrl,List.length_append,hkl]
 rw [hL] at HRS hcap hsl ⊢
 have HTK:=hide (show s.take rl=r from by rw [hs,← hrl];simp)
 have hwn:IntKind.i64.wrap ((L:Int) - (kn:Int))=(rl:Int):=by
  rw [show (L:Int) - (kn:Int)=(rl:Int) by omega]
  exact wrap_nat (by omega)
 have hrd:rl≤ds:=by omega
 have hrd2:(rl:Int)≤(ds:Int):=by omega
 have HHL:=hide hL
 have HRLN:=hide hrl
 have HHS:=hide hs
 have HLR:=hide hLr
 have hrl3:rl≤300000000:=by omega
 have hrlL0:rl≤L:=by omega
 clear Rs hs hL hrl hLr
 subst ha
 go_enter Tryz.func27,Tryz.ntmps27
 go_wp2_with fail
 refine HND.out.mono ?_
 rintro e w2 ⟨rfl,hb2⟩
 have HR2:=hide (HR.out.up hb2)
 have hbw:=HR2.out.bel
 have hB2:Bs≤w2.heap.size:=Nat.le_trans hsB hbw.size
 have c3:Below w2.heap.size w2 (w2.alloc (.cells #[] 3)):=(Below.refl _ _).alloc (Nat.le_refl _) _
 have R3:SlAt 1 IntP Bs (w2.alloc (.cells #[] 3)) (.slice sa rl ds) r:=by
  have h:=HRS.out (w2.alloc (.cells #[] 3)) (bel_tr hbw c3)
  rw [← HHL.out] at h
  have h2:=sl_take h (n:=rl) (by rw [HHL.out];exact hrlL0)
  rw [HTK.out] at h2
  exact h2
 obtain ⟨a5,c5,W5,r5,q5,q6⟩:=(OwI.new (heap_new w2 (.cells #[] 3) rfl)).app R3 (by rw [HRLN.out];simp;omega) (Nat.le_of_lt (lt_of_block (heap_new w2 (.cells #[] 3) rfl)))
 rw [List.nil_append,HRLN.out] at r5 q5
 have HO5:=hide q5
 have HB5:=hide (show Below w2.heap.size w2 W5 from c3.trans q6)
 have HR5:=hide (HR2.out.up HB5.out)
 have HBW:=hide (show Below w.heap.size w W5 from bel_tr hbw HB5.out)
 have hC5:w2.heap.size≤W5.heap.size:=HB5.out.size
 have h2w:w.heap.size≤w2.heap.size:=hbw.size
 clear hb2 c3 R3 q5 q6 hbw
 by_cases h0:L=0
 · have dL:decide (0<L)=false:=by simp;omega
   have dL2:decide ((0:Int)<(L:Int))=false:=by simp;omega
   clear h0
   obtain ⟨k00,k01,k02,k03⟩:=HR5.out.c0
   obtain ⟨k10,k11,k12,k13⟩:=HR5.out.c1
   obtain ⟨k20,k21,k22⟩:=HR5.out.c2
   have k14:W5.cell? ⟨w.heap.size+1,4,none⟩=some (.slice b4 f.co.length x4):=cell_of HR5.out.e1 rfl
   obtain ⟨l50,l51,l52⟩:=HR5.out.lt
   dsimp only at k20 k21 k22
   clear c00 c01 c02 c03 c10 c11 c12 c13 c14 c20 c21 c22
   have hBW5:B≤W5.heap.size:=Nat.le_trans HR5.out.hB HR5.out.bel.size
   obtain ⟨qg,og,cg,ng,z1,z2,z3,z4,hvg,hng,hnl,hqg,⟨y0,y1,y2,y3,y4⟩,t1,t2,t3,t4⟩:=fd_at HR5.out.pg.fu hg0
   cases hvg
   obtain ⟨e1,j1,hz1⟩:=sl_form t1
   obtain ⟨e2,j2,hz2⟩:=sl_form t2
   obtain ⟨e3,j3,hz3⟩:=sl_form t3
   obtain ⟨e4,j4,hz4⟩:=sl_form t4
   subst hz1 hz2 hz3 hz4
   rw [hpk] at y0
   have hqgw:qg<W5.heap.size:=Nat.lt_of_lt_of_le hqg hBW5
   have dng:decide (n<p.fu.length)=true:=by simpa using hnl
   have hcj:g0.lo.length≤j1:=by
    obtain ⟨_,_,hv,h,_⟩:=t1
    cases hv
    exact h.2.1
   have hkj:kn≤j1:=by omega
   have hkj2:(kn:Int)≤(j1:Int):=by omega
   clear hng
   obtain ⟨W6,hW6⟩ : ∃ W6,W5.alloc (.cells #[.int .i64 (kn:Int),.slice e1 g0.lo.length j1,.slice e2 g0.re.length j2,.slice e3 g0.ar.length j3,.slice e4 g0.co.length j4] 40)=W6:=⟨_,rfl⟩
   have b6:Below W5.heap.size W5 W6:=by rw [← hW6];exact (Below.refl _ _).alloc (Nat.le_refl _) _
   have e6:W6.heap[W5.heap.size]?=some (.cells #[.int .i64 (kn:Int),.slice e1 g0.lo.length j1,.slice e2 g0.re.length j2,.slice e3 g0.ar.length j3,.slice e4 g0.co.length j4] 40 (0,0)):=by rw [← hW6];exact heap_new _ _ rfl
   have HB6:=hide b6
   have HE6:=hide e6
   have k60:W6.cell? ⟨W5.heap.size,0,none⟩=some (.int .i64 (kn:Int)):=cell_of e6 rfl
   have k61:W6.cell? ⟨W5.heap.size,1,none⟩=some (.slice e1 g0.lo.length j1):=cell_of e6 rfl
   have l6:W5.heap.size<W6.heap.size:=lt_of_block e6
   have HAL:=hide (rall_any (HRS.out W6 (bel_tr HBW.out HB6.out)) (show SlAt 1 IntP B W6 (.slice e1 kn j1) (g0.lo.take kn) from sl_take (ints_keep (Nat.le_refl _) (fun j hj=>HB6.out.block j (by omega)) t1) hple) (Nat.le_trans hB2 (Nat.le_trans hC5 HB6.out.size)) (Nat.le_trans hBW5 HB6.out.size) (by rw [List.length_take];omega) (by have:=HHL.out;omega) hkd)
   rw [List.length_take,Nat.min_eq_left hple,hfi] at HAL
   clear b6 e6 hg0 hpk hfi
   go_wp2_with (at_builtin;(refine wpList_append_eq rfl _ _ 37 37 rfl rfl rfl r5 ?_;clear r5))
   refine HAL.out.mono ?_
   rintro e w7 ⟨rfl,hb7⟩
   have HB7:=hide (bel_tr HB6.out hb7)
   obtain ⟨a8,c8,W8,r1,q1,q2⟩:=(HO5.out.up HB7.out).app (show SlAt 1 IntP B w7 (.slice e2 g0.re.length j2) g0.re from ints_keep (Nat.le_refl _) (fun j hj=>HB7.out.block j (by omega)) t2) (by rw [HRLN.out];omega) (Nat.le_trans hC5 HB7.out.size)
   rw [List.length_append,HRLN.out] at r1
   have HW8:=hide (show Below w.heap.size w W8 from (bel_tr HBW.out HB7.out).trans (q2.mono h2w))
   have k7:w7.cell? ⟨W5.heap.size,2,none⟩=some (.slice e2 g0.re.length j2):=(hb7.cell (p:=⟨W5.heap.size,2,none⟩) (lt_of_block HE6.out)).trans (cell_of HE6.out rfl)
   have HFIN:=hide (show EfNo w.heap.size 8 w (.returned (.tuple #[.slice none 0 0,.int .i64 8])) W8 from ⟨HW8.out,rfl⟩)
   clear hb7 q1 q2
   go_wp2_with (at_builtin;(refine wpList_append_eq rfl _ _ 37 37 rfl rfl rfl r1 ?_;clear r1))
   go_ret2
   exact HFIN.out
 · obtain ⟨q,hq⟩ : ∃ q,L - 1=q:=⟨_,rfl⟩
   obtain ⟨y,hy⟩ : ∃ y,s[q]?=some y:=⟨s[q]'(by rw [HHL.out];omega),by simp⟩
   have RS5:=HRS.out W5 HBW.out
   rw [← HHL.out] at RS5
   obtain ⟨g,o,c,hv,hg,hcy,_,_⟩:=il_at RS5 hy
   cases hv
   have hgw:=Nat.lt_of_lt_of_le hg (Nat.le_trans hB2 hC5)
   have hql:q<L:=by omega
   have dq:decide (q<L)=true:=by simpa using hql
   have dL:decide (0<L)=true:=by simp;omega
   have dL2:decide ((0:Int)<(L:Int))=true:=by simp;omega
   have hwq:IntKind.i64.wrap ((L:Int) - 1)=(q:Int):=by
    rw [show (L:Int) - 1=(q:Int) by omega]
    exact wrap_nat (by omega)
   clear hy hq RS5 h0
   obtain ⟨k00,k01,k02,k03⟩:=HR5.out.c0
   obtain ⟨k10,k11,k12,k13⟩:=HR5.out.c1
   obtain ⟨k20,k21,k22⟩:=HR5.out.c2
   have k14:W5.cell? ⟨w.heap.size+1,4,none⟩=some (.slice b4 f.co.length x4):=cell_of HR5.out.e1 rfl
   obtain ⟨l50,l51,l52⟩:=HR5.out.lt
   dsimp only at k20 k21 k22
   clear c00 c01 c02 c03 c10 c11 c12 c13 c14 c20 c21 c22
   have hBW5:B≤W5.heap.size:=Nat.le_trans HR5.out.hB HR5.out.bel.size
   obtain ⟨qg,og,cg,ng,z1,z2,z3,z4,hvg,hng,hnl,hqg,⟨y0,y1,y2,y3,y4⟩,t1,t2,t3,t4⟩:=fd_at HR5.out.pg.fu hg0
   cases hvg
   obtain ⟨e1,j1,hz1⟩:=sl_form t1
   obtain ⟨e2,j2,hz2⟩:=sl_form t2
   obtain ⟨e3,j3,hz3⟩:=sl_form t3
   obtain ⟨e4,j4,hz4⟩:=sl_form t4
   subst hz1 hz2 hz3 hz4
   rw [hpk] at y0
   have hqgw:qg<W5.heap.size:=Nat.lt_of_lt_of_le hqg hBW5
   have dng:decide (n<p.fu.length)=true:=by simpa using hnl
   have hcj:g0.lo.length≤j1:=by
    obtain ⟨_,_,hv,h,_⟩:=t1
    cases hv
    exact h.2.1
   have hkj:kn≤j1:=by omega
   have hkj2:(kn:Int)≤(j1:Int):=by omega
   clear hng
   obtain ⟨W6,hW6⟩ : ∃ W6,W5.alloc (.cells #[.int .i64 (kn:Int),.slice e1 g0.lo.length j1,.slice e2 g0.re.length j2,.slice e3 g0.ar.length j3,.slice e4 g0.co.length j4] 40)=W6:=⟨_,rfl⟩
   have b6:Below W5.heap.size W5 W6:=by rw [← hW6];exact (Below.refl _ _).alloc (Nat.le_refl _) _
   have e6:W6.heap[W5.heap.size]?=some (.cells #[.int .i64 (kn:Int),.slice e1 g0.lo.length j1,.slice e2 g0.re.length j2,.slice e3 g0.ar.length j3,.slice e4 g0.co.length j4] 40 (0,0)):=by rw [← hW6];exact heap_new _ _ rfl
   have HB6:=hide b6
   have HE6:=hide e6
   have k60:W6.cell? ⟨W5.heap.size,0,none⟩=some (.int .i64 (kn:Int)):=cell_of e6 rfl
   have k61:W6.cell? ⟨W5.heap.size,1,none⟩=some (.slice e1 g0.lo.length j1):=cell_of e6 rfl
   have l6:W5.heap.size<W6.heap.size:=lt_of_block e6
   have HAL:=hide (rall_any (HRS.out W6 (bel_tr HBW.out HB6.out)) (show SlAt 1 IntP B W6 (.slice e1 kn j1) (g0.lo.take kn) from sl_take (ints_keep (Nat.le_refl _) (fun j hj=>HB6.out.block j (by omega)) t1) hple) (Nat.le_trans hB2 (Nat.le_trans hC5 HB6.out.size)) (Nat.le_trans hBW5 HB6.out.size) (by rw [List.length_take];omega) (by have:=HHL.out;omega) hkd)
   rw [List.length_take,Nat.min_eq_left hple,hfi] at HAL
   clear b6 e6 hg0 hpk hfi
   go_wp2_with (at_builtin;(refine wpList_append_eq rfl _ _ 37 37 rfl rfl rfl r5 ?_;clear r5))
   refine HAL.out.mono ?_
   rintro e w7 ⟨rfl,hb7⟩
   have HB7:=hide (bel_tr HB6.out hb7)
   obtain ⟨a8,c8,W8,r1,q1,q2⟩:=(HO5.out.up HB7.out).app (show SlAt 1 IntP B w7 (.slice e2 g0.re.length j2) g0.re from ints_keep (Nat.le_refl _) (fun j hj=>HB7.out.block j (by omega)) t2) (by rw [HRLN.out];omega) (Nat.le_trans hC5 HB7.out.size)
   rw [List.length_append,HRLN.out] at r1
   have HW8:=hide (show Below w.heap.size w W8 from (bel_tr HBW.out HB7.out).trans (q2.mono h2w))
   have k7:w7.cell? ⟨W5.heap.size,2,none⟩=some (.slice e2 g0.re.length j2):=(hb7.cell (p:=⟨W5.heap.size,2,none⟩) (lt_of_block HE6.out)).trans (cell_of HE6.out rfl)
   have HFIN:=hide (show EfNo w.heap.size 8 w (.returned (.tuple #[.slice none 0 0,.int .i64 8])) W8 from ⟨HW8.out,rfl⟩)
   clear hb7 q1 q2
   go_wp2_with (at_builtin;(refine wpList_append_eq rfl _ _ 37 37 rfl rfl rfl r1 ?_;clear r1))
   go_ret2
   exact HFIN.out
theorem ef_23a (P:PgAt B w v1 v2 v3 v4 p) (hB:B≤w.heap.size) (s1:SlAt 1 IntP B w u1 f.lo) (s2:SlAt 1 IntP B w u2 f.re) (s3:SlAt 1 IntP B w u3 f.ar) (s4:SlAt 3 InsP B w u4 f.co) (H:Hok p) (Rs:SlAt 1 IntP Bs w vs s) (hsB:Bs≤w.heap.size) (hsl:s.length≤300000000) {ks:List Int} {kn:Nat} (hs:s=r++ks) (hkl:ks.length=kn) (hkn:(takesP p f ⟨23,a,b⟩).n=kn) {n m kp:Nat} {tt:List Int} {g0:Fd} (hN:namesB p f ⟨23,(n:Int),b⟩=true) (ha:a=(n:Int)) (htt:p.ta[n]?=some tt) (ht0:tt[0]?=some (m:Int)) (hg0:p.fu[m]?=some g0) (hpk:g0.pa=(kp:Int)) (hkp:kn=kp+1) (hple:kp≤g0.lo.length) (hre:g0.re.length≤4096) {y:Int} (hlast:s[s.length - 1]?=some y) (hy0:¬ y=0):Calls Tryz.prog 27 #[.agg #[v1,v2,v3,v4],.agg #[.int .i64 f.pa,u1,u2,u3,u4],.agg #[.int .i64 23,.int .i64 a,.int .i64 b],vs] w (EfNo w.heap.size 8 w):=by
 obtain ⟨b4,x4,hu4⟩:=sl_form s4
 subst hu4
 obtain ⟨⟨a1,d1,rfl⟩,⟨a2,d2,rfl⟩,⟨a3,d3,rfl⟩,a4,d4,rfl⟩:=fm4 P
 obtain ⟨⟨b1,x1,rfl⟩,⟨b2,x2,rfl⟩,b3,x3,rfl⟩:=fm3 s1 s2 s3
 have R:=Rx.new (i:=⟨23,a,b⟩) (u4:=.slice b4 f.co.length x4) P hB s1 s2 s3
 dsimp only at R
 obtain ⟨W1,hW1⟩:=exR R
 rw [hW1] at R
 obtain ⟨c00,c01,c02,c03⟩:=R.c0
 obtain ⟨c10,c11,c12,c13⟩:=R.c1
 obtain ⟨c20,c21,c22⟩:=R.c2
 obtain ⟨l0,l1,l2⟩:=R.lt
 dsimp only at c20 c21 c22
 have HR:=hide R
 have c14:W1.cell? ⟨w.heap.size+1,4,none⟩=some (.slice b4 f.co.length x4):=cell_of R.e1 rfl
 clear P s1 s2 s3 s4
 have b1:=R.bel
 obtain ⟨sa,ds,hvs⟩:=sl_form Rs
 subst hvs
 have HND:=hide (needs_any (i:=⟨23,a,b⟩) (u4:=.slice b4 f.co.length x4) R.pg (Nat.le_trans R.hB b1.size) R.lo R.re R.ar H ⟨by show (1:Int)≤23;decide,by show (23:Int)≤29;decide⟩ (by rw [ha];exact hN))
 dsimp only at HND
 rw [hkn] at HND
 have HRS:=hide (show ∀ W:World,Below w.heap.size w W→SlAt 1 IntP Bs W (.slice sa s.length ds) s from fun W h=>ints_keep (Nat.le_refl _) (fun j hj=>h.block j (by omega)) Rs)
 have hcap:s.length≤ds:=by
  obtain ⟨_,_,hv,h,_⟩:=Rs
  cases hv
  exact h.2.1
 obtain ⟨L,hL⟩ : ∃ L,s.length=L:=⟨_,rfl⟩
 obtain ⟨rl,hrl⟩ : ∃ l,r.length=l:=⟨_,rfl⟩
 have hLr:L=rl+kn:=by rw [← hL,hs,← hrl,List.length_append,hkl]
 rw [hL] at HRS hcap hsl ⊢
 have HTK:=hide (show s.take rl=r from by rw [hs,← hrl];simp)
 have hwn:IntKind.i64.wrap ((L:Int) - (kn:Int))=(rl:Int):=by
  rw [show (L:Int) - (kn:Int)=(rl:Int) by omega]
  exact wrap_nat (by omega)
 have hrd:rl≤ds:=by omega
 have hrd2:(rl:Int)≤(ds:Int):=by omega
 have HHL:=hide hL
 have HRLN:=hide hrl
 have HHS:=hide hs
 have HLR:=hide hLr
 have hrl3:rl≤300000000:=by omega
 have hrlL0:rl≤L:=by omega
 clear Rs hs hL hrl hLr
 subst ha
 have HKP:=hide hkp
 clear hkp
 have hL1:0<L:=by have:=HLR.out;have:=HKP.out;omega
 go_enter Tryz.func27,Tryz.ntmps27
 go_wp2_with fail
 refine HND.out.mono ?_
 rintro e w2 ⟨rfl,hb2⟩
 have HR2:=hide (HR.out.up hb2)
 have hbw:=HR2.out.bel
 have hB2:Bs≤w2.heap.size:=Nat.le_trans hsB hbw.size
 have c3:Below w2.heap.size w2 (w2.alloc (.cells #[] 3)):=(Below.refl _ _).alloc (Nat.le_refl _) _
 have R3:SlAt 1 IntP Bs (w2.alloc (.cells #[] 3)) (.slice sa rl ds) r:=by
  have h:=HRS.out (w2.alloc (.cells #[] 3)) (bel_tr hbw c3)
  rw [← HHL.out] at h
  have h2:=sl_take h (n:=rl) (by rw [HHL.out];exact hrlL0)
  rw [HTK.out] at h2
  exact h2
 obtain ⟨a5,c5,W5,r5,q5,q6⟩:=(OwI.new (heap_new w2 (.cells #[] 3) rfl)).app R3 (by rw [HRLN.out];simp;omega) (Nat.le_of_lt (lt_of_block (heap_new w2 (.cells #[] 3) rfl)))
 rw [List.nil_append,HRLN.out] at r5 q5
 have HO5:=hide q5
 have HB5:=hide (show Below w2.heap.size w2 W5 from c3.trans q6)
 have HR5:=hide (HR2.out.up HB5.out)
 have HBW:=hide (show Below w.heap.size w W5 from bel_tr hbw HB5.out)
 have hC5:w2.heap.size≤W5.heap.size:=HB5.out.size
 have h2w:w.heap.size≤w2.heap.size:=hbw.size
 clear hb2 c3 R3 q5 q6 hbw
 have h0:¬ L=0:=by omega
 obtain ⟨q,hq⟩ : ∃ q,L - 1=q:=⟨_,rfl⟩
 obtain hy:s[q]?=some y:=by rw [← hq,← HHL.out];exact hlast
 have RS5:=HRS.out W5 HBW.out
 rw [← HHL.out] at RS5
 obtain ⟨g,o,c,hv,hg,hcy,_,_⟩:=il_at RS5 hy
 cases hv
 have hgw:=Nat.lt_of_lt_of_le hg (Nat.le_trans hB2 hC5)
 have hql:q<L:=by omega
 have dq:decide (q<L)=true:=by simpa using hql
 have dL:decide (0<L)=true:=by simp;omega
 have dL2:decide ((0:Int)<(L:Int))=true:=by simp;omega
 have hwq:IntKind.i64.wrap ((L:Int) - 1)=(q:Int):=by
  rw [show (L:Int) - 1=(q:Int) by omega]
  exact wrap_nat (by omega)
 clear hy hq RS5 h0
 obtain ⟨k00,k01,k02,k03⟩:=HR5.out.c0
 obtain ⟨k10,k11,k12,k13⟩:=HR5.out.c1
 obtain ⟨k20,k21,k22⟩:=HR5.out.c2
 have k14:W5.cell? ⟨w.heap.size+1,4,none⟩=some (.slice b4 f.co.length x4):=cell_of HR5.out.e1 rfl
 obtain ⟨l50,l51,l52⟩:=HR5.out.lt
 dsimp only at k20 k21 k22
 clear c00 c01 c02 c03 c10 c11 c12 c13 c14 c20 c21 c22
 have hBW5:B≤W5.heap.size:=Nat.le_trans HR5.out.hB HR5.out.bel.size
 obtain ⟨qg,og,cg,ng,z1,z2,z3,z4,hvg,hng,hnl,hqg,⟨y0,y1,y2,y3,y4⟩,t1,t2,t3,t4⟩:=fd_at HR5.out.pg.fu hg0
 cases hvg
 obtain ⟨e1,j1,hz1⟩:=sl_form t1
 obtain ⟨e2,j2,hz2⟩:=sl_form t2
 obtain ⟨e3,j3,hz3⟩:=sl_form t3
 obtain ⟨e4,j4,hz4⟩:=sl_form t4
 subst hz1 hz2 hz3 hz4
 rw [hpk] at y0
 have hqgw:qg<W5.heap.size:=Nat.lt_of_lt_of_le hqg hBW5
 have dng:decide (m<p.fu.length)=true:=by simpa using hnl
 have hcj:g0.lo.length≤j1:=by
  obtain ⟨_,_,hv,h,_⟩:=t1
  cases hv
  exact h.2.1
 have hkj:kp≤j1:=by omega
 have hkj2:(kp:Int)≤(j1:Int):=by omega
 obtain ⟨gt,ot,ct,nt,ut,hvt,hnt,hlt2,hgt,hct,hslt⟩:=lst_at HR5.out.pg.ta htt
 cases hvt
 obtain ⟨g3,o3,c3,hv3,hg3,hc3,_,_⟩:=il_at hslt ht0
 subst hv3
 rw [Nat.add_zero] at hc3
 have hgtw:gt<W5.heap.size:=Nat.lt_of_lt_of_le hgt hBW5
 have hg3w:g3<W5.heap.size:=Nat.lt_of_lt_of_le hg3 hBW5
 have ddt:decide (n<p.ta.length)=true:=by simpa using hlt2
 have htl0:0<tt.length:=get_lt ht0
 have dd0:decide (0<tt.length)=true:=by simpa using htl0
 clear hng hnt hslt
 have HS35:=hide (show ∀ W:World,Below W5.heap.size W5 W→(fun W:World=>W.cell? ⟨w.heap.size,1,none⟩=some (.slice (some ⟨qg,og,none⟩) p.fu.length d2)∧W.cell? ⟨w.heap.size,2,none⟩=some (.slice (some ⟨gt,ot,none⟩) p.ta.length d3)∧W.cell? ⟨w.heap.size+2,1,none⟩=some (.int .i64 (n:Int))∧W.cell? ⟨gt,ot+n,none⟩=some (.slice (some ⟨g3,o3,none⟩) tt.length c3)∧W.cell? ⟨g3,o3,none⟩=some (.int .i64 (m:Int))∧W.cell? ⟨qg,og+m*5,none⟩=some (.int .i64 (kp:Int))∧W.cell? ⟨qg,og+m*5+1,none⟩=some (.slice e1 g0.lo.length j1)∧W.cell? ⟨qg,og+m*5+2,none⟩=some (.slice e2 g0.re.length j2)∧W.cell? ⟨qg,og+m*5+3,none⟩=some (.slice e3 g0.ar.length j3)∧W.cell? ⟨qg,og+m*5+4,none⟩=some (.slice e4 g0.co.length j4)) W from fun W h=>⟨(h.cell (p:=⟨w.heap.size,1,none⟩) l50).trans k01,(h.cell (p:=⟨w.heap.size,2,none⟩) l50).trans k02,(h.cell (p:=⟨w.heap.size+2,1,none⟩) l52).trans k21,(h.cell (p:=⟨gt,ot+n,none⟩) hgtw).trans hct,(h.cell (p:=⟨g3,o3,none⟩) hg3w).trans hc3,(h.cell (p:=⟨qg,og+m*5,none⟩) hqgw).trans y0,(h.cell (p:=⟨qg,og+m*5+1,none⟩) hqgw).trans y1,(h.cell (p:=⟨qg,og+m*5+2,none⟩) hqgw).trans y2,(h.cell (p:=⟨qg,og+m*5+3,none⟩) hqgw).trans y3,(h.cell (p:=⟨qg,og+m*5+4,none⟩) hqgw).trans y4⟩)
 go_upto_region 35 with (at_builtin;(refine wpList_append_eq rfl _ _ 37 37 rfl rfl rfl r5 ?_;clear r5))
 go_cut [15] from 159 to 170 (fun v wc=>Hid (v=.pointer (some ⟨W5.heap.size,0,none⟩)∧Below W5.heap.size W5 wc∧wc.heap[W5.heap.size]?=some (.cells #[.int .i64 (kp:Int),.slice e1 g0.lo.length j1,.slice e2 g0.re.length j2,.slice e3 g0.ar.length j3,.slice e4 g0.co.length j4] 40 (0,0))))
 case first =>
  refine wp_region_held_drew (S:=(fun W:World=>W.cell? ⟨w.heap.size,1,none⟩=some (.slice (some ⟨qg,og,none⟩) p.fu.length d2)∧W.cell? ⟨w.heap.size,2,none⟩=some (.slice (some ⟨gt,ot,none⟩) p.ta.length d3)∧W.cell? ⟨w.heap.size+2,1,none⟩=some (.int .i64 (n:Int))∧W.cell? ⟨gt,ot+n,none⟩=some (.slice (some ⟨g3,o3,none⟩) tt.length c3)∧W.cell? ⟨g3,o3,none⟩=some (.int .i64 (m:Int))∧W.cell? ⟨qg,og+m*5,none⟩=some (.int .i64 (kp:Int))∧W.cell? ⟨qg,og+m*5+1,none⟩=some (.slice e1 g0.lo.length j1)∧W.cell? ⟨qg,og+m*5+2,none⟩=some (.slice e2 g0.re.length j2)∧W.cell? ⟨qg,og+m*5+3,none⟩=some (.slice e3 g0.ar.length j3)∧W.cell? ⟨qg,og+m*5+4,none⟩=some (.slice e4 g0.co.length j4))) (by kernel_rfl) (HS35.out _ (below_drew (Below.refl _ _))) (fun hHeld1=>?_)
  refine tk 0 ?_;simp only [sp]
  refine tk 1 ?_;simp only [sp]
  refine tk 2 ?_;simp only [sp]
  refine tk 3 ?_;simp only [sp]
  refine tk 4 ?_;simp only [sp]
  refine tk 5 ?_;simp only [sp]
  refine tk 6 ?_;simp only [sp]
  refine tk 7 ?_;simp only [sp]
  refine tk 8 ?_;simp only [sp]
  refine tk 9 ?_;simp only [sp]
  refine tk 10 ?_;simp only [sp]
  refine tk 11 ?_;simp only [sp]
  refine rd 12 (fun K hK=>?_)
  go_simp
  go_wp2_with fail
  refine hK.out _ _ (HS35.out _ ((below_drew (Below.refl _ _)).alloc (Nat.le_refl _) _)) (fun hHeld14=>?_)
  clear hK K
  try simp only [sp]
  refine rd 13 (fun K hK=>?_)
  go_simp
  go_wp2_with fail
  refine hK.out _ _ (HS35.out _ ((below_drew (Below.refl _ _)).alloc (Nat.le_refl _) _)) (fun hHeld15=>?_)
  clear hK K
  try simp only [sp]
  refine wpAnyH_done (by kernel_rfl) ?_ _
  go_wp2_with fail
  go_meet
  exact hide ⟨rfl,(below_drew (Below.refl _ _)).alloc (Nat.le_refl _) _,heap_new W5.drew _ rfl⟩
 case rest =>
  obtain ⟨hvp,hbc,hec⟩:=hcut.out
  subst hvp
  have HB6:=hide hbc
  have HE6:=hide hec
  have HS36:=hide (show ∀ W:World,Below wc.heap.size wc W→(fun W:World=>W.cell? ⟨W5.heap.size,0,none⟩=some (.int .i64 (kp:Int))∧W.cell? ⟨W5.heap.size,1,none⟩=some (.slice e1 g0.lo.length j1)) W from fun W h=>by
   have h1:=(h.block _ (lt_of_block hec)).trans hec
   exact ⟨cell_of h1 rfl,cell_of h1 rfl⟩)
  have ey:(y == 0)=false:=by simpa using hy0
  clear hcut hbc hec hg0 hpk hy0
  go_upto_region 36 with (fail)
  refine wp_region_held_drew (S:=(fun W:World=>W.cell? ⟨W5.heap.size,0,none⟩=some (.int .i64 (kp:Int))∧W.cell? ⟨W5.heap.size,1,none⟩=some (.slice e1 g0.lo.length j1))) (by kernel_rfl) (HS36.out _ (below_drew (Below.refl _ _))) (fun hHeld16=>?_)
  refine tk 0 ?_;simp only [sp]
  refine tk 1 ?_;simp only [sp]
  refine tk 2 ?_;simp only [sp]
  refine tn 3 ?_;simp only [sp]
  refine tn 4 ?_;simp only [sp]
  refine tn 5 ?_;simp only [sp]
  refine tn 6 ?_;simp only [sp]
  refine tn 7 ?_;simp only [sp]
  refine tn 8 ?_;simp only [sp]
  refine tn 9 ?_;simp only [sp]
  refine tn 10 ?_;simp only [sp]
  refine tn 11 ?_;simp only [sp]
  refine tn 12 ?_;simp only [sp]
  refine tn 13 ?_;simp only [sp]
  refine tk 14 ?_;simp only [sp]
  refine tk 15 ?_;simp only [sp]
  refine wpAnyH_done (by kernel_rfl) ?_ _
  have hb7:Below wc.heap.size wc wc.drew:=below_drew (Below.refl _ _)
  generalize wc.drew=w7 at *
  have HB7:=hide (bel_tr HB6.out hb7)
  obtain ⟨a8,c8,W8,r1,q1,q2⟩:=(HO5.out.up HB7.out).app (show SlAt 1 IntP B w7 (.slice e2 g0.re.length j2) g0.re from ints_keep (Nat.le_refl _) (fun j hj=>HB7.out.block j (by omega)) t2) (by rw [HRLN.out];omega) (Nat.le_trans hC5 HB7.out.size)
  rw [List.length_append,HRLN.out] at r1
  have HW8:=hide (show Below w.heap.size w W8 from (bel_tr HBW.out HB7.out).trans (q2.mono h2w))
  have k7:w7.cell? ⟨W5.heap.size,2,none⟩=some (.slice e2 g0.re.length j2):=(hb7.cell (p:=⟨W5.heap.size,2,none⟩) (lt_of_block HE6.out)).trans (cell_of HE6.out rfl)
  have HFIN:=hide (show EfNo w.heap.size 8 w (.returned (.tuple #[.slice none 0 0,.int .i64 8])) W8 from ⟨HW8.out,rfl⟩)
  clear hb7 q1 q2
  go_wp2_with (at_builtin;(refine wpList_append_eq rfl _ _ 37 37 rfl rfl rfl r1 ?_;clear r1))
  go_ret2
  exact HFIN.out
theorem ef_23t (P:PgAt B w v1 v2 v3 v4 p) (hB:B≤w.heap.size) (s1:SlAt 1 IntP B w u1 f.lo) (s2:SlAt 1 IntP B w u2 f.re) (s3:SlAt 1 IntP B w u3 f.ar) (s4:SlAt 3 InsP B w u4 f.co) (H:Hok p) (Rs:SlAt 1 IntP Bs w vs s) (hsB:Bs≤w.heap.size) (hsl:s.length≤300000000) {ks:List Int} {kn:Nat} (hs:s=r++ks) (hkl:ks.length=kn) (hkn:(takesP p f ⟨23,a,b⟩).n=kn) (hkd:∀ x∈s,-1≤x∧x≤2000000) {n m kp:Nat} {tt:List Int} {g0:Fd} (hN:namesB p f ⟨23,(n:Int),b⟩=true) (ha:a=(n:Int)) (htt:p.ta[n]?=some tt) (ht0:tt[0]?=some (m:Int)) (hg0:p.fu[m]?=some g0) (hpk:g0.pa=(kp:Int)) (hkp:kn=kp+1) (hple:kp≤g0.lo.length) (hre:g0.re.length≤4096) {y:Int} (hlast:s[s.length - 1]?=some y) (hy0:y=0) (hfi:(Must.fit (g0.lo.take kp)).fine ((s.take (s.length - 1)).drop (s.length - 1 - kp))=true):Calls Tryz.prog 27 #[.agg #[v1,v2,v3,v4],.agg #[.int .i64 f.pa,u1,u2,u3,u4],.agg #[.int .i64 23,.int .i64 a,.int .i64 b],vs] w (EfOk w.heap.size (r++g0.re) w):=by
 obtain ⟨b4,x4,hu4⟩:=sl_form s4
 subst hu4
 obtain ⟨⟨a1,d1,rfl⟩,⟨a2,d2,rfl⟩,⟨a3,d3,rfl⟩,a4,d4,rfl⟩:=fm4 P
 obtain ⟨⟨b1,x1,rfl⟩,⟨b2,x2,rfl⟩,b3,x3,rfl⟩:=fm3 s1 s2 s3
 have R:=Rx.new (i:=⟨23,a,b⟩) (u4:=.slice b4 f.co.length x4) P hB s1 s2 s3
 dsimp only at R
 obtain ⟨W1,hW1⟩:=exR R
 rw [hW1] at R
 obtain ⟨c00,c01,c02,c03⟩:=R.c0
 obtain ⟨c10,c11,c12,c13⟩:=R.c1
 obtain ⟨c20,c21,c22⟩:=R.c2
 obtain ⟨l0,l1,l2⟩:=R.lt
 dsimp only at c20 c21 c22
 have HR:=hide R
 have c14:W1.cell? ⟨w.heap.size+1,4,none⟩=some (.slice b4 f.co.length x4):=cell_of R.e1 rfl
 clear P s1 s2 s3 s4
 have b1:=R.bel
 obtain ⟨sa,ds,hvs⟩:=sl_form Rs
 subst hvs
 have HND:=hide (needs_any (i:=⟨23,a,b⟩) (u4:=.slice b4 f.co.length x4) R.pg (Nat.le_trans R.hB b1.size) R.lo R.re R.ar H ⟨by show (1:Int)≤23;decide,by show (23:Int)≤29;decide⟩ (by rw [ha];exact hN))
 dsimp only at HND
 rw [hkn] at HND
 have HRS:=hide (show ∀ W:World,Below w.heap.size w W→SlAt 1 IntP Bs W (.slice sa s.length ds) s from fun W h=>ints_keep (Nat.le_refl _) (fun j hj=>h.block j (by omega)) Rs)
 have hcap:s.length≤ds:=by
  obtain ⟨_,_,hv,h,_⟩:=Rs
  cases hv
  exact h.2.1
 obtain ⟨L,hL⟩ : ∃ L,s.length=L:=⟨_,rfl⟩
 obtain ⟨rl,hrl⟩ : ∃ l,r.length=l:=⟨_,rfl⟩
 have hLr:L=rl+kn:=by rw [← hL,hs,← hrl,List.length_append,hkl]
 rw [hL] at HRS hcap hsl ⊢
 have HTK:=hide (show s.take rl=r from by rw [hs,← hrl];simp)
 have hwn:IntKind.i64.wrap ((L:Int) - (kn:Int))=(rl:Int):=by
  rw [show (L:Int) - (kn:Int)=(rl:Int) by omega]
  exact wrap_nat (by omega)
 have hrd:rl≤ds:=by omega
 have hrd2:(rl:Int)≤(ds:Int):=by omega
 have HHL:=hide hL
 have HRLN:=hide hrl
 have HHS:=hide hs
 have HLR:=hide hLr
 have hrl3:rl≤300000000:=by omega
 have hrlL0:rl≤L:=by omega
 clear Rs hs hL hrl hLr
 subst ha
 have HKP:=hide hkp
 clear hkp
 have hL1:0<L:=by have:=HLR.out;have:=HKP.out;omega
 go_enter Tryz.func27,Tryz.ntmps27
 go_wp2_with fail
 refine HND.out.mono ?_
 rintro e w2 ⟨rfl,hb2⟩
 have HR2:=hide (HR.out.up hb2)
 have hbw:=HR2.out.bel
 have hB2:Bs≤w2.heap.size:=Nat.le_trans hsB hbw.size
 have c3:Below w2.heap.size w2 (w2.alloc (.cells #[] 3)):=(Below.refl _ _).alloc (Nat.le_refl _) _
 have R3:SlAt 1 IntP Bs (w2.alloc (.cells #[] 3)) (.slice sa rl ds) r:=by
  have h:=HRS.out (w2.alloc (.cells #[] 3)) (bel_tr hbw c3)
  rw [← HHL.out] at h
  have h2:=sl_take h (n:=rl) (by rw [HHL.out];exact hrlL0)
  rw [HTK.out] at h2
  exact h2
 obtain ⟨a5,c5,W5,r5,q5,q6⟩:=(OwI.new (heap_new w2 (.cells #[] 3) rfl)).app R3 (by rw [HRLN.out];simp;omega) (Nat.le_of_lt (lt_of_block (heap_new w2 (.cells #[] 3) rfl)))
 rw [List.nil_append,HRLN.out] at r5 q5
 have HO5:=hide q5
 have HB5:=hide (show Below w2.heap.size w2 W5 from c3.trans q6)
 have HR5:=hide (HR2.out.up HB5.out)
 have HBW:=hide (show Below w.heap.size w W5 from bel_tr hbw HB5.out)
 have hC5:w2.heap.size≤W5.heap.size:=HB5.out.size
 have h2w:w.heap.size≤w2.heap.size:=hbw.size
 clear hb2 c3 R3 q5 q6 hbw
 have h0:¬ L=0:=by omega
 obtain ⟨q,hq⟩ : ∃ q,L - 1=q:=⟨_,rfl⟩
 obtain hy:s[q]?=some y:=by rw [← hq,← HHL.out];exact hlast
 have RS5:=HRS.out W5 HBW.out
 rw [← HHL.out] at RS5
 obtain ⟨g,o,c,hv,hg,hcy,_,_⟩:=il_at RS5 hy
 cases hv
 have hgw:=Nat.lt_of_lt_of_le hg (Nat.le_trans hB2 hC5)
 have HQ1L:=hide hq
 have hql:q<L:=by omega
 have dq:decide (q<L)=true:=by simpa using hql
 have dL:decide (0<L)=true:=by simp;omega
 have dL2:decide ((0:Int)<(L:Int))=true:=by simp;omega
 have hwq:IntKind.i64.wrap ((L:Int) - 1)=(q:Int):=by
  rw [show (L:Int) - 1=(q:Int) by omega]
  exact wrap_nat (by omega)
 clear hy hq RS5 h0
 obtain ⟨k00,k01,k02,k03⟩:=HR5.out.c0
 obtain ⟨k10,k11,k12,k13⟩:=HR5.out.c1
 obtain ⟨k20,k21,k22⟩:=HR5.out.c2
 have k14:W5.cell? ⟨w.heap.size+1,4,none⟩=some (.slice b4 f.co.length x4):=cell_of HR5.out.e1 rfl
 obtain ⟨l50,l51,l52⟩:=HR5.out.lt
 dsimp only at k20 k21 k22
 clear c00 c01 c02 c03 c10 c11 c12 c13 c14 c20 c21 c22
 have hBW5:B≤W5.heap.size:=Nat.le_trans HR5.out.hB HR5.out.bel.size
 obtain ⟨qg,og,cg,ng,z1,z2,z3,z4,hvg,hng,hnl,hqg,⟨y0,y1,y2,y3,y4⟩,t1,t2,t3,t4⟩:=fd_at HR5.out.pg.fu hg0
 cases hvg
 obtain ⟨e1,j1,hz1⟩:=sl_form t1
 obtain ⟨e2,j2,hz2⟩:=sl_form t2
 obtain ⟨e3,j3,hz3⟩:=sl_form t3
 obtain ⟨e4,j4,hz4⟩:=sl_form t4
 subst hz1 hz2 hz3 hz4
 rw [hpk] at y0
 have hqgw:qg<W5.heap.size:=Nat.lt_of_lt_of_le hqg hBW5
 have dng:decide (m<p.fu.length)=true:=by simpa using hnl
 have hcj:g0.lo.length≤j1:=by
  obtain ⟨_,_,hv,h,_⟩:=t1
  cases hv
  exact h.2.1
 have hkj:kp≤j1:=by omega
 have hkj2:(kp:Int)≤(j1:Int):=by omega
 obtain ⟨gt,ot,ct,nt,ut,hvt,hnt,hlt2,hgt,hct,hslt⟩:=lst_at HR5.out.pg.ta htt
 cases hvt
 obtain ⟨g3,o3,c3,hv3,hg3,hc3,_,_⟩:=il_at hslt ht0
 subst hv3
 rw [Nat.add_zero] at hc3
 have hgtw:gt<W5.heap.size:=Nat.lt_of_lt_of_le hgt hBW5
 have hg3w:g3<W5.heap.size:=Nat.lt_of_lt_of_le hg3 hBW5
 have ddt:decide (n<p.ta.length)=true:=by simpa using hlt2
 have htl0:0<tt.length:=get_lt ht0
 have dd0:decide (0<tt.length)=true:=by simpa using htl0
 clear hng hnt hslt
 have HS35:=hide (show ∀ W:World,Below W5.heap.size W5 W→(fun W:World=>W.cell? ⟨w.heap.size,1,none⟩=some (.slice (some ⟨qg,og,none⟩) p.fu.length d2)∧W.cell? ⟨w.heap.size,2,none⟩=some (.slice (some ⟨gt,ot,none⟩) p.ta.length d3)∧W.cell? ⟨w.heap.size+2,1,none⟩=some (.int .i64 (n:Int))∧W.cell? ⟨gt,ot+n,none⟩=some (.slice (some ⟨g3,o3,none⟩) tt.length c3)∧W.cell? ⟨g3,o3,none⟩=some (.int .i64 (m:Int))∧W.cell? ⟨qg,og+m*5,none⟩=some (.int .i64 (kp:Int))∧W.cell? ⟨qg,og+m*5+1,none⟩=some (.slice e1 g0.lo.length j1)∧W.cell? ⟨qg,og+m*5+2,none⟩=some (.slice e2 g0.re.length j2)∧W.cell? ⟨qg,og+m*5+3,none⟩=some (.slice e3 g0.ar.length j3)∧W.cell? ⟨qg,og+m*5+4,none⟩=some (.slice e4 g0.co.length j4)) W from fun W h=>⟨(h.cell (p:=⟨w.heap.size,1,none⟩) l50).trans k01,(h.cell (p:=⟨w.heap.size,2,none⟩) l50).trans k02,(h.cell (p:=⟨w.heap.size+2,1,none⟩) l52).trans k21,(h.cell (p:=⟨gt,ot+n,none⟩) hgtw).trans hct,(h.cell (p:=⟨g3,o3,none⟩) hg3w).trans hc3,(h.cell (p:=⟨qg,og+m*5,none⟩) hqgw).trans y0,(h.cell (p:=⟨qg,og+m*5+1,none⟩) hqgw).trans y1,(h.cell (p:=⟨qg,og+m*5+2,none⟩) hqgw).trans y2,(h.cell (p:=⟨qg,og+m*5+3,none⟩) hqgw).trans y3,(h.cell (p:=⟨qg,og+m*5+4,none⟩) hqgw).trans y4⟩)
 go_upto_region 35 with (at_builtin;(refine wpList_append_eq rfl _ _ 37 37 rfl rfl rfl r5 ?_;clear r5))
 go_cut [15] from 159 to 170 (fun v wc=>Hid (v=.pointer (some ⟨W5.heap.size,0,none⟩)∧Below W5.heap.size W5 wc∧wc.heap[W5.heap.size]?=some (.cells #[.int .i64 (kp:Int),.slice e1 g0.lo.length j1,.slice e2 g0.re.length j2,.slice e3 g0.ar.length j3,.slice e4 g0.co.length j4] 40 (0,0))))
 case first =>
  refine wp_region_held_drew (S:=(fun W:World=>W.cell? ⟨w.heap.size,1,none⟩=some (.slice (some ⟨qg,og,none⟩) p.fu.length d2)∧W.cell? ⟨w.heap.size,2,none⟩=some (.slice (some ⟨gt,ot,none⟩) p.ta.length d3)∧W.cell? ⟨w.heap.size+2,1,none⟩=some (.int .i64 (n:Int))∧W.cell? ⟨gt,ot+n,none⟩=some (.slice (some ⟨g3,o3,none⟩) tt.length c3)∧W.cell? ⟨g3,o3,none⟩=some (.int .i64 (m:Int))∧W.cell? ⟨qg,og+m*5,none⟩=some (.int .i64 (kp:Int))∧W.cell? ⟨qg,og+m*5+1,none⟩=some (.slice e1 g0.lo.length j1)∧W.cell? ⟨qg,og+m*5+2,none⟩=some (.slice e2 g0.re.length j2)∧W.cell? ⟨qg,og+m*5+3,none⟩=some (.slice e3 g0.ar.length j3)∧W.cell? ⟨qg,og+m*5+4,none⟩=some (.slice e4 g0.co.length j4))) (by kernel_rfl) (HS35.out _ (below_drew (Below.refl _ _))) (fun hHeld33=>?_)
  refine tk 0 ?_;simp only [sp]
  refine tk 1 ?_;simp only [sp]
  refine tk 2 ?_;simp only [sp]
  refine tk 3 ?_;simp only [sp]
  refine tk 4 ?_;simp only [sp]
  refine tk 5 ?_;simp only [sp]
  refine tk 6 ?_;simp only [sp]
  refine tk 7 ?_;simp only [sp]
  refine tk 8 ?_;simp only [sp]
  refine tk 9 ?_;simp only [sp]
  refine tk 10 ?_;simp only [sp]
  refine tk 11 ?_;simp only [sp]
  refine rd 12 (fun K hK=>?_)
  go_simp
  go_wp2_with fail
  refine hK.out _ _ (HS35.out _ ((below_drew (Below.refl _ _)).alloc (Nat.le_refl _) _)) (fun hHeld46=>?_)
  clear hK K
  try simp only [sp]
  refine rd 13 (fun K hK=>?_)
  go_simp
  go_wp2_with fail
  refine hK.out _ _ (HS35.out _ ((below_drew (Below.refl _ _)).alloc (Nat.le_refl _) _)) (fun hHeld47=>?_)
  clear hK K
  try simp only [sp]
  refine wpAnyH_done (by kernel_rfl) ?_ _
  go_wp2_with fail
  go_meet
  exact hide ⟨rfl,(below_drew (Below.refl _ _)).alloc (Nat.le_refl _) _,heap_new W5.drew _ rfl⟩
 case rest =>
  obtain ⟨hvp,hbc,hec⟩:=hcut.out
  subst hvp
  have HB6:=hide hbc
  have HE6:=hide hec
  have HS36:=hide (show ∀ W:World,Below wc.heap.size wc W→(fun W:World=>W.cell? ⟨W5.heap.size,0,none⟩=some (.int .i64 (kp:Int))∧W.cell? ⟨W5.heap.size,1,none⟩=some (.slice e1 g0.lo.length j1)) W from fun W h=>by
   have h1:=(h.block _ (lt_of_block hec)).trans hec
   exact ⟨cell_of h1 rfl,cell_of h1 rfl⟩)
  have ey:(y == 0)=true:=by simp [hy0]
  have hqd:q≤ds:=by omega
  have hqd2:(q:Int)≤(ds:Int):=by omega
  have HQL:=hide (show (s.take q).length=q from by rw [List.length_take,HHL.out];omega)
  have HAL:=hide (rall_any (w:=wc.drew) (s:=s.take q) (t:=g0.lo.take kp) (va:=.slice (some ⟨g,o,none⟩) q ds) (vb:=.slice e1 kp j1) (by have h:=HRS.out wc.drew (bel_tr HBW.out (below_drew HB6.out));rw [← HHL.out] at h;exact sl_take h (by rw [HHL.out];omega)) (show SlAt 1 IntP B wc.drew (.slice e1 kp j1) (g0.lo.take kp) from sl_take (ints_keep (Nat.le_refl _) (fun j hj=>(below_drew HB6.out).block j (by omega)) t1) hple) (Nat.le_trans hB2 (Nat.le_trans hC5 HB6.out.size)) (Nat.le_trans hBW5 HB6.out.size) (by rw [HQL.out,List.length_take];have:=HLR.out;have:=HKP.out;have:=HQ1L.out;omega) (by rw [HQL.out];omega) (fun x hx=>hkd x (List.mem_of_mem_take hx)))
  rw [HQL.out,List.length_take,Nat.min_eq_left hple] at HAL
  rw [show (Must.fit (g0.lo.take kp)).fine ((s.take q).drop (q - kp))=true from by rw [← hfi,HHL.out,HQ1L.out]] at HAL
  clear hcut hbc hec hg0 hpk hy0 hfi
  go_upto_region 36 with (fail)
  refine wp_region_held_drew (S:=(fun W:World=>W.cell? ⟨W5.heap.size,0,none⟩=some (.int .i64 (kp:Int))∧W.cell? ⟨W5.heap.size,1,none⟩=some (.slice e1 g0.lo.length j1))) (by kernel_rfl) (HS36.out _ (below_drew (Below.refl _ _))) (fun hHeld48=>?_)
  refine tk 0 ?_;simp only [sp]
  refine tk 1 ?_;simp only [sp]
  refine tk 2 ?_;simp only [sp]
  refine tk 3 ?_;simp only [sp]
  refine tk 4 ?_;simp only [sp]
  refine tk 5 ?_;simp only [sp]
  refine tk 6 ?_;simp only [sp]
  refine tk 7 ?_;simp only [sp]
  refine tk 8 ?_;simp only [sp]
  refine tk 9 ?_;simp only [sp]
  refine tk 10 ?_;simp only [sp]
  refine tk 11 ?_;simp only [sp]
  refine tk 12 ?_;simp only [sp]
  refine rd 13 (fun K hK=>?_)
  go_simp
  go_at_call 45
  refine HAL.out.mono ?_
  rintro e w7 ⟨rfl,hb7'⟩
  have hb7:Below wc.heap.size wc w7:=(below_drew (Below.refl _ _)).trans hb7'
  go_wp2_with fail
  refine hK.out _ _ (HS36.out _ hb7) (fun hHeld62=>?_)
  clear hK K
  try simp only [sp]
  refine tk 14 ?_;simp only [sp]
  refine tk 15 ?_;simp only [sp]
  refine wpAnyH_done (by kernel_rfl) ?_ _
  clear hb7'
  have HB7:=hide (bel_tr HB6.out hb7)
  obtain ⟨a8,c8,W8,r1,q1,q2⟩:=(HO5.out.up HB7.out).app (show SlAt 1 IntP B w7 (.slice e2 g0.re.length j2) g0.re from ints_keep (Nat.le_refl _) (fun j hj=>HB7.out.block j (by omega)) t2) (by rw [HRLN.out];omega) (Nat.le_trans hC5 HB7.out.size)
  rw [List.length_append,HRLN.out] at r1
  have HW8:=hide (show Below w.heap.size w W8 from (bel_tr HBW.out HB7.out).trans (q2.mono h2w))
  have k7:w7.cell? ⟨W5.heap.size,2,none⟩=some (.slice e2 g0.re.length j2):=(hb7.cell (p:=⟨W5.heap.size,2,none⟩) (lt_of_block HE6.out)).trans (cell_of HE6.out rfl)
  have HFIN:=hide (show EfOk w.heap.size (r++g0.re) w (.returned (.tuple #[.slice a8 (rl+g0.re.length) c8,.int .i64 0])) W8 from ⟨HW8.out,a8,c8,by rw [List.length_append,HRLN.out],by have:=q1.weak h2w;rw [List.length_append,HRLN.out] at this ⊢;exact this⟩)
  clear hb7 q1 q2
  go_wp2_with (at_builtin;(refine wpList_append_eq rfl _ _ 37 37 rfl rfl rfl r1 ?_;clear r1))
  go_ret2
  exact HFIN.out
theorem ef_23f (P:PgAt B w v1 v2 v3 v4 p) (hB:B≤w.heap.size) (s1:SlAt 1 IntP B w u1 f.lo) (s2:SlAt 1 IntP B w u2 f.re) (s3:SlAt 1 IntP B w u3 f.ar) (s4:SlAt 3 InsP B w u4 f.co) (H:Hok p) (Rs:SlAt 1 IntP Bs w vs s) (hsB:Bs≤w.heap.size) (hsl:s.length≤300000000) {ks:List Int} {kn:Nat} (hs:s=r++ks) (hkl:ks.length=kn) (hkn:(takesP p f ⟨23,a,b⟩).n=kn) (hkd:∀ x∈s,-1≤x∧x≤2000000) {n m kp:Nat} {tt:List Int} {g0:Fd} (hN:namesB p f ⟨23,(n:Int),b⟩=true) (ha:a=(n:Int)) (htt:p.ta[n]?=some tt) (ht0:tt[0]?=some (m:Int)) (hg0:p.fu[m]?=some g0) (hpk:g0.pa=(kp:Int)) (hkp:kn=kp+1) (hple:kp≤g0.lo.length) (hre:g0.re.length≤4096) {y:Int} (hlast:s[s.length - 1]?=some y) (hy0:y=0) (hfi:(Must.fit (g0.lo.take kp)).fine ((s.take (s.length - 1)).drop (s.length - 1 - kp))=false):Calls Tryz.prog 27 #[.agg #[v1,v2,v3,v4],.agg #[.int .i64 f.pa,u1,u2,u3,u4],.agg #[.int .i64 23,.int .i64 a,.int .i64 b],vs] w (EfNo w.heap.size 8 w):=by
 obtain ⟨b4,x4,hu4⟩:=sl_form s4
 subst hu4
 obtain ⟨⟨a1,d1,rfl⟩,⟨a2,d2,rfl⟩,⟨a3,d3,rfl⟩,a4,d4,rfl⟩:=fm4 P
 obtain ⟨⟨b1,x1,rfl⟩,⟨b2,x2,rfl⟩,b3,x3,rfl⟩:=fm3 s1 s2 s3
 have R:=Rx.new (i:=⟨23,a,b⟩) (u4:=.slice b4 f.co.length x4) P hB s1 s2 s3
 dsimp only at R
 obtain ⟨W1,hW1⟩:=exR R
 rw [hW1] at R
 obtain ⟨c00,c01,c02,c03⟩:=R.c0
 obtain ⟨c10,c11,c12,c13⟩:=R.c1
 obtain ⟨c20,c21,c22⟩:=R.c2
 obtain ⟨l0,l1,l2⟩:=R.lt
 dsimp only at c20 c21 c22
 have HR:=hide R
 have c14:W1.cell? ⟨w.heap.size+1,4,none⟩=some (.slice b4 f.co.length x4):=cell_of R.e1 rfl
 clear P s1 s2 s3 s4
 have b1:=R.bel
 obtain ⟨sa,ds,hvs⟩:=sl_form Rs
 subst hvs
 have HND:=hide (needs_any (i:=⟨23,a,b⟩) (u4:=.slice b4 f.co.length x4) R.pg (Nat.le_trans R.hB b1.size) R.lo R.re R.ar H ⟨by show (1:Int)≤23;decide,by show (23:Int)≤29;decide⟩ (by rw [ha];exact hN))
 dsimp only at HND
 rw [hkn] at HND
 have HRS:=hide (show ∀ W:World,Below w.heap.size w W→SlAt 1 IntP Bs W (.slice sa s.length ds) s from fun W h=>ints_keep (Nat.le_refl _) (fun j hj=>h.block j (by omega)) Rs)
 have hcap:s.length≤ds:=by
  obtain ⟨_,_,hv,h,_⟩:=Rs
  cases hv
  exact h.2.1
 obtain ⟨L,hL⟩ : ∃ L,s.length=L:=⟨_,rfl⟩
 obtain ⟨rl,hrl⟩ : ∃ l,r.length=l:=⟨_,rfl⟩
 have hLr:L=rl+kn:=by rw [← hL,hs,← hrl,List.length_append,hkl]
 rw [hL] at HRS hcap hsl ⊢
 have HTK:=hide (show s.take rl=r from by rw [hs,← hrl];simp)
 have hwn:IntKind.i64.wrap ((L:Int) - (kn:Int))=(rl:Int):=by
  rw [show (L:Int) - (kn:Int)=(rl:Int) by omega]
  exact wrap_nat (by omega)
 have hrd:rl≤ds:=by omega
 have hrd2:(rl:Int)≤(ds:Int):=by omega
 have HHL:=hide hL
 have HRLN:=hide hrl
 have HHS:=hide hs
 have HLR:=hide hLr
 have hrl3:rl≤300000000:=by omega
 have hrlL0:rl≤L:=by omega
 clear Rs hs hL hrl hLr
 subst ha
 have HKP:=hide hkp
 clear hkp
 have hL1:0<L:=by have:=HLR.out;have:=HKP.out;omega
 go_enter Tryz.func27,Tryz.ntmps27
 go_wp2_with fail
 refine HND.out.mono ?_
 rintro e w2 ⟨rfl,hb2⟩
 have HR2:=hide (HR.out.up hb2)
 have hbw:=HR2.out.bel
 have hB2:Bs≤w2.heap.size:=Nat.le_trans hsB hbw.size
 have c3:Below w2.heap.size w2 (w2.alloc (.cells #[] 3)):=(Below.refl _ _).alloc (Nat.le_refl _) _
 have R3:SlAt 1 IntP Bs (w2.alloc (.cells #[] 3)) (.slice sa rl ds) r:=by
  have h:=HRS.out (w2.alloc (.cells #[] 3)) (bel_tr hbw c3)
  rw [← HHL.out] at h
  have h2:=sl_take h (n:=rl) (by rw [HHL.out];exact hrlL0)
  rw [HTK.out] at h2
  exact h2
 obtain ⟨a5,c5,W5,r5,q5,q6⟩:=(OwI.new (heap_new w2 (.cells #[] 3) rfl)).app R3 (by rw [HRLN.out];simp;omega) (Nat.le_of_lt (lt_of_block (heap_new w2 (.cells #[] 3) rfl)))
 rw [List.nil_append,HRLN.out] at r5 q5
 have HO5:=hide q5
 have HB5:=hide (show Below w2.heap.size w2 W5 from c3.trans q6)
 have HR5:=hide (HR2.out.up HB5.out)
 have HBW:=hide (show Below w.heap.size w W5 from bel_tr hbw HB5.out)
 have hC5:w2.heap.size≤W5.heap.size:=HB5.out.size
 have h2w:w.heap.size≤w2.heap.size:=hbw.size
 clear hb2 c3 R3 q5 q6 hbw
 have h0:¬ L=0:=by omega
 obtain ⟨q,hq⟩ : ∃ q,L - 1=q:=⟨_,rfl⟩
 obtain hy:s[q]?=some y:=by rw [← hq,← HHL.out];exact hlast
 have RS5:=HRS.out W5 HBW.out
 rw [← HHL.out] at RS5
 obtain ⟨g,o,c,hv,hg,hcy,_,_⟩:=il_at RS5 hy
 cases hv
 have hgw:=Nat.lt_of_lt_of_le hg (Nat.le_trans hB2 hC5)
 have HQ1L:=hide hq
 have hql:q<L:=by omega
 have dq:decide (q<L)=true:=by simpa using hql
 have dL:decide (0<L)=true:=by simp;omega
 have dL2:decide ((0:Int)<(L:Int))=true:=by simp;omega
 have hwq:IntKind.i64.wrap ((L:Int) - 1)=(q:Int):=by
  rw [show (L:Int) - 1=(q:Int) by omega]
  exact wrap_nat (by omega)
 clear hy hq RS5 h0
 obtain ⟨k00,k01,k02,k03⟩:=HR5.out.c0
 obtain ⟨k10,k11,k12,k13⟩:=HR5.out.c1
 obtain ⟨k20,k21,k22⟩:=HR5.out.c2
 have k14:W5.cell? ⟨w.heap.size+1,4,none⟩=some (.slice b4 f.co.length x4):=cell_of HR5.out.e1 rfl
 obtain ⟨l50,l51,l52⟩:=HR5.out.lt
 dsimp only at k20 k21 k22
 clear c00 c01 c02 c03 c10 c11 c12 c13 c14 c20 c21 c22
 have hBW5:B≤W5.heap.size:=Nat.le_trans HR5.out.hB HR5.out.bel.size
 obtain ⟨qg,og,cg,ng,z1,z2,z3,z4,hvg,hng,hnl,hqg,⟨y0,y1,y2,y3,y4⟩,t1,t2,t3,t4⟩:=fd_at HR5.out.pg.fu hg0
 cases hvg
 obtain ⟨e1,j1,hz1⟩:=sl_form t1
 obtain ⟨e2,j2,hz2⟩:=sl_form t2
 obtain ⟨e3,j3,hz3⟩:=sl_form t3
 obtain ⟨e4,j4,hz4⟩:=sl_form t4
 subst hz1 hz2 hz3 hz4
 rw [hpk] at y0
 have hqgw:qg<W5.heap.size:=Nat.lt_of_lt_of_le hqg hBW5
 have dng:decide (m<p.fu.length)=true:=by simpa using hnl
 have hcj:g0.lo.length≤j1:=by
  obtain ⟨_,_,hv,h,_⟩:=t1
  cases hv
  exact h.2.1
 have hkj:kp≤j1:=by omega
 have hkj2:(kp:Int)≤(j1:Int):=by omega
 obtain ⟨gt,ot,ct,nt,ut,hvt,hnt,hlt2,hgt,hct,hslt⟩:=lst_at HR5.out.pg.ta htt
 cases hvt
 obtain ⟨g3,o3,c3,hv3,hg3,hc3,_,_⟩:=il_at hslt ht0
 subst hv3
 rw [Nat.add_zero] at hc3
 have hgtw:gt<W5.heap.size:=Nat.lt_of_lt_of_le hgt hBW5
 have hg3w:g3<W5.heap.size:=Nat.lt_of_lt_of_le hg3 hBW5
 have ddt:decide (n<p.ta.length)=true:=by simpa using hlt2
 have htl0:0<tt.length:=get_lt ht0
 have dd0:decide (0<tt.length)=true:=by simpa using htl0
 clear hng hnt hslt
 have HS35:=hide (show ∀ W:World,Below W5.heap.size W5 W→(fun W:World=>W.cell? ⟨w.heap.size,1,none⟩=some (.slice (some ⟨qg,og,none⟩) p.fu.length d2)∧W.cell? ⟨w.heap.size,2,none⟩=some (.slice (some ⟨gt,ot,none⟩) p.ta.length d3)∧W.cell? ⟨w.heap.size+2,1,none⟩=some (.int .i64 (n:Int))∧W.cell? ⟨gt,ot+n,none⟩=some (.slice (some ⟨g3,o3,none⟩) tt.length c3)∧W.cell? ⟨g3,o3,none⟩=some (.int .i64 (m:Int))∧W.cell? ⟨qg,og+m*5,none⟩=some (.int .i64 (kp:Int))∧W.cell? ⟨qg,og+m*5+1,none⟩=some (.slice e1 g0.lo.length j1)∧W.cell? ⟨qg,og+m*5+2,none⟩=some (.slice e2 g0.re.length j2)∧W.cell? ⟨qg,og+m*5+3,none⟩=some (.slice e3 g0.ar.length j3)∧W.cell? ⟨qg,og+m*5+4,none⟩=some (.slice e4 g0.co.length j4)) W from fun W h=>⟨(h.cell (p:=⟨w.heap.size,1,none⟩) l50).trans k01,(h.cell (p:=⟨w.heap.size,2,none⟩) l50).trans k02,(h.cell (p:=⟨w.heap.size+2,1,none⟩) l52).trans k21,(h.cell (p:=⟨gt,ot+n,none⟩) hgtw).trans hct,(h.cell (p:=⟨g3,o3,none⟩) hg3w).trans hc3,(h.cell (p:=⟨qg,og+m*5,none⟩) hqgw).trans y0,(h.cell (p:=⟨qg,og+m*5+1,none⟩) hqgw).trans y1,(h.cell (p:=⟨qg,og+m*5+2,none⟩) hqgw).trans y2,(h.cell (p:=⟨qg,og+m*5+3,none⟩) hqgw).trans y3,(h.cell (p:=⟨qg,og+m*5+4,none⟩) hqgw).trans y4⟩)
 go_upto_region 35 with (at_builtin;(refine wpList_append_eq rfl _ _ 37 37 rfl rfl rfl r5 ?_;clear r5))
 go_cut [15] from 159 to 170 (fun v wc=>Hid (v=.pointer (some ⟨W5.heap.size,0,none⟩)∧Below W5.heap.size W5 wc∧wc.heap[W5.heap.size]?=some (.cells #[.int .i64 (kp:Int),.slice e1 g0.lo.length j1,.slice e2 g0.re.length j2,.slice e3 g0.ar.length j3,.slice e4 g0.co.length j4] 40 (0,0))))
 case first =>
  refine wp_region_held_drew (S:=(fun W:World=>W.cell? ⟨w.heap.size,1,none⟩=some (.slice (some ⟨qg,og,none⟩) p.fu.length d2)∧W.cell? ⟨w.heap.size,2,none⟩=some (.slice (some ⟨gt,ot,none⟩) p.ta.length d3)∧W.cell? ⟨w.heap.size+2,1,none⟩=some (.int .i64 (n:Int))∧W.cell? ⟨gt,ot+n,none⟩=some (.slice (some ⟨g3,o3,none⟩) tt.length c3)∧W.cell? ⟨g3,o3,none⟩=some (.int .i64 (m:Int))∧W.cell? ⟨qg,og+m*5,none⟩=some (.int .i64 (kp:Int))∧W.cell? ⟨qg,og+m*5+1,none⟩=some (.slice e1 g0.lo.length j1)∧W.cell? ⟨qg,og+m*5+2,none⟩=some (.slice e2 g0.re.length j2)∧W.cell? ⟨qg,og+m*5+3,none⟩=some (.slice e3 g0.ar.length j3)∧W.cell? ⟨qg,og+m*5+4,none⟩=some (.slice e4 g0.co.length j4))) (by kernel_rfl) (HS35.out _ (below_drew (Below.refl _ _))) (fun hHeld65=>?_)
  refine tk 0 ?_;simp only [sp]
  refine tk 1 ?_;simp only [sp]
  refine tk 2 ?_;simp only [sp]
  refine tk 3 ?_;simp only [sp]
  refine tk 4 ?_;simp only [sp]
  refine tk 5 ?_;simp only [sp]
  refine tk 6 ?_;simp only [sp]
  refine tk 7 ?_;simp only [sp]
  refine tk 8 ?_;simp only [sp]
  refine tk 9 ?_;simp only [sp]
  refine tk 10 ?_;simp only [sp]
  refine tk 11 ?_;simp only [sp]
  refine rd 12 (fun K hK=>?_)
  go_simp
  go_wp2_with fail
  refine hK.out _ _ (HS35.out _ ((below_drew (Below.refl _ _)).alloc (Nat.le_refl _) _)) (fun hHeld78=>?_)
  clear hK K
  try simp only [sp]
  refine rd 13 (fun K hK=>?_)
  go_simp
  go_wp2_with fail
  refine hK.out _ _ (HS35.out _ ((below_drew (Below.refl _ _)).alloc (Nat.le_refl _) _)) (fun hHeld79=>?_)
  clear hK K
  try simp only [sp]
  refine wpAnyH_done (by kernel_rfl) ?_ _
  go_wp2_with fail
  go_meet
  exact hide ⟨rfl,(below_drew (Below.refl _ _)).alloc (Nat.le_refl _) _,heap_new W5.drew _ rfl⟩
 case rest =>
  obtain ⟨hvp,hbc,hec⟩:=hcut.out
  subst hvp
  have HB6:=hide hbc
  have HE6:=hide hec
  have HS36:=hide (show ∀ W:World,Below wc.heap.size wc W→(fun W:World=>W.cell? ⟨W5.heap.size,0,none⟩=some (.int .i64 (kp:Int))∧W.cell? ⟨W5.heap.size,1,none⟩=some (.slice e1 g0.lo.length j1)) W from fun W h=>by
   have h1:=(h.block _ (lt_of_block hec)).trans hec
   exact ⟨cell_of h1 rfl,cell_of h1 rfl⟩)
  have ey:(y == 0)=true:=by simp [hy0]
  have hqd:q≤ds:=by omega
  have hqd2:(q:Int)≤(ds:Int):=by omega
  have HQL:=hide (show (s.take q).length=q from by rw [List.length_take,HHL.out];omega)
  have HAL:=hide (rall_any (w:=wc.drew) (s:=s.take q) (t:=g0.lo.take kp) (va:=.slice (some ⟨g,o,none⟩) q ds) (vb:=.slice e1 kp j1) (by have h:=HRS.out wc.drew (bel_tr HBW.out (below_drew HB6.out));rw [← HHL.out] at h;exact sl_take h (by rw [HHL.out];omega)) (show SlAt 1 IntP B wc.drew (.slice e1 kp j1) (g0.lo.take kp) from sl_take (ints_keep (Nat.le_refl _) (fun j hj=>(below_drew HB6.out).block j (by omega)) t1) hple) (Nat.le_trans hB2 (Nat.le_trans hC5 HB6.out.size)) (Nat.le_trans hBW5 HB6.out.size) (by rw [HQL.out,List.length_take];have:=HLR.out;have:=HKP.out;have:=HQ1L.out;omega) (by rw [HQL.out];omega) (fun x hx=>hkd x (List.mem_of_mem_take hx)))
  rw [HQL.out,List.length_take,Nat.min_eq_left hple] at HAL
  rw [show (Must.fit (g0.lo.take kp)).fine ((s.take q).drop (q - kp))=false from by rw [← hfi,HHL.out,HQ1L.out]] at HAL
  clear hcut hbc hec hg0 hpk hy0 hfi
  go_upto_region 36 with (fail)
  refine wp_region_held_drew (S:=(fun W:World=>W.cell? ⟨W5.heap.size,0,none⟩=some (.int .i64 (kp:Int))∧W.cell? ⟨W5.heap.size,1,none⟩=some (.slice e1 g0.lo.length j1))) (by kernel_rfl) (HS36.out _ (below_drew (Below.refl _ _))) (fun hHeld80=>?_)
  refine tk 0 ?_;simp only [sp]
  refine tk 1 ?_;simp only [sp]
  refine tk 2 ?_;simp only [sp]
  refine tk 3 ?_;simp only [sp]
  refine tk 4 ?_;simp only [sp]
  refine tk 5 ?_;simp only [sp]
  refine tk 6 ?_;simp only [sp]
  refine tk 7 ?_;simp only [sp]
  refine tk 8 ?_;simp only [sp]
  refine tk 9 ?_;simp only [sp]
  refine tk 10 ?_;simp only [sp]
  refine tk 11 ?_;simp only [sp]
  refine tk 12 ?_;simp only [sp]
  refine rd 13 (fun K hK=>?_)
  go_simp
  go_at_call 45
  refine HAL.out.mono ?_
  rintro e w7 ⟨rfl,hb7'⟩
  have hb7:Below wc.heap.size wc w7:=(below_drew (Below.refl _ _)).trans hb7'
  go_wp2_with fail
  refine hK.out _ _ (HS36.out _ hb7) (fun hHeld94=>?_)
  clear hK K
  try simp only [sp]
  refine tk 14 ?_;simp only [sp]
  refine tk 15 ?_;simp only [sp]
  refine wpAnyH_done (by kernel_rfl) ?_ _
  clear hb7'
  have HB7:=hide (bel_tr HB6.out hb7)
  obtain ⟨a8,c8,W8,r1,q1,q2⟩:=(HO5.out.up HB7.out).app (show SlAt 1 IntP B w7 (.slice e2 g0.re.length j2) g0.re from ints_keep (Nat.le_refl _) (fun j hj=>HB7.out.block j (by omega)) t2) (by rw [HRLN.out];omega) (Nat.le_trans hC5 HB7.out.size)
  rw [List.length_append,HRLN.out] at r1
  have HW8:=hide (show Below w.heap.size w W8 from (bel_tr HBW.out HB7.out).trans (q2.mono h2w))
  have k7:w7.cell? ⟨W5.heap.size,2,none⟩=some (.slice e2 g0.re.length j2):=(hb7.cell (p:=⟨W5.heap.size,2,none⟩) (lt_of_block HE6.out)).trans (cell_of HE6.out rfl)
  have HFIN:=hide (show EfNo w.heap.size 8 w (.returned (.tuple #[.slice none 0 0,.int .i64 8])) W8 from ⟨HW8.out,rfl⟩)
  clear hb7 q1 q2
  go_wp2_with (at_builtin;(refine wpList_append_eq rfl _ _ 37 37 rfl rfl rfl r1 ?_;clear r1))
  go_ret2
  exact HFIN.out
end
end Go.Proofs.YtkdojpnihinpbaaGreatDoor
