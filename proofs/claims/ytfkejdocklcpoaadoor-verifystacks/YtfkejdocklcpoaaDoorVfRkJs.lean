/- The document's effect where objects is asked. -/
import Derived.Test.YtfkejdocklcpoaaDoorVfRjJs
namespace Go.Proofs.YtfkejdocklcpoaaDoor
open Go.RowKit
section
variable {B Bs:Nat} {w:World} {p:Pg} {f:Fd} {a b:Int} {v1 v2 v3 v4 u1 u2 u3 u4 vs:Value} {s r:List Int}
set_option maxRecDepth 100000 in
set_option maxHeartbeats 8000000 in
theorem ef_obj {o:Int} (P:PgAt B w v1 v2 v3 v4 p) (hB:B≤w.heap.size) (s1:SlAt 1 IntP B w u1 f.lo) (s2:SlAt 1 IntP B w u2 f.re) (s3:SlAt 1 IntP B w u3 f.ar) (s4:SlAt 3 InsP B w u4 f.co) (H:Hok p) (Rs:SlAt 1 IntP Bs w vs s) (hsB:Bs≤w.heap.size) (hsl:s.length≤300000000) {ks:List Int} {kn:Nat} (h1:(o == 1)=false) (h2:(o == 2)=false) (h3:(o == 3)=false) (h4:(o == 4)=false) (h6:(o == 6)=false) (h7:(o == 7)=false) (h8:(o == 8)=false) (h10:(o == 10)=false) (h25:(o == 25)=false) (h26:(o == 26)=false) (h27:(o == 27)=false) (h22:(o == 22)=false) (h23:(o == 23)=false) (h24:(o == 24)=false) (h9:(o == 9)=false) (h28:(o == 28)=false) (h5:(o == 5)=false) (ho:1≤o∧o≤29) (hN:namesB p f ⟨o,a,b⟩=true) (hs:s=r++ks) (hkl:ks.length=kn) (hkn:(takesP p f ⟨o,a,b⟩).n=kn) (hoa:∀ (W:World) (vr:Value) (C:Nat),PgAt B W v1 v2 v3 v4 p→B≤W.heap.size→SlAt 1 IntP B W u1 f.lo→SlAt 1 IntP B W u2 f.re→SlAt 1 IntP B W u3 f.ar→SlAt 1 IntP Bs W vs s→OwI C W vr r→Bs≤C→C≤W.heap.size→Calls Tryd.prog 45 #[.agg #[v1,v2,v3,v4],.agg #[.int .i64 f.pa,u1,u2,u3,u4],.agg #[.int .i64 o,.int .i64 a,.int .i64 b],vs,vr] W (EfR C (efP p f ⟨o,a,b⟩ s) W)):Calls Tryd.prog 24 #[.agg #[v1,v2,v3,v4],.agg #[.int .i64 f.pa,u1,u2,u3,u4],.agg #[.int .i64 o,.int .i64 a,.int .i64 b],vs] w (EfR w.heap.size (efP p f ⟨o,a,b⟩ s) w):=by
 obtain ⟨b4,x4,hu4⟩:=sl_form s4
 subst hu4
 obtain ⟨⟨a1,d1,rfl⟩,⟨a2,d2,rfl⟩,⟨a3,d3,rfl⟩,a4,d4,rfl⟩:=fm4 P
 obtain ⟨⟨b1,x1,rfl⟩,⟨b2,x2,rfl⟩,b3,x3,rfl⟩:=fm3 s1 s2 s3
 have R:=Rx.new (i:=⟨o,a,b⟩) (u4:=.slice b4 f.co.length x4) P hB s1 s2 s3
 dsimp only at R
 obtain ⟨W1,hW1⟩:=exR R
 rw [hW1] at R
 obtain ⟨c00,c01,c02,c03⟩:=R.c0
 obtain ⟨c10,c11,c12,c13⟩:=R.c1
 obtain ⟨c20,c21,c22⟩:=R.c2
 obtain ⟨l0,l1,l2⟩:=R.lt
 dsimp only at c20 c21 c22
 have HR:=hide R
 have c14:W1.cell? ⟨w.heap.size+1,4,none⟩=some (.slice b4 f.co.length x4):=cell_of R.e1 rfl
 clear P s1 s2 s3 s4
 have b1:=R.bel
 obtain ⟨sa,ds,hvs⟩:=sl_form Rs
 subst hvs
 have HND:=hide (needs_any (i:=⟨o,a,b⟩) (u4:=.slice b4 f.co.length x4) R.pg (Nat.le_trans R.hB b1.size) R.lo R.re R.ar H ho hN)
 dsimp only at HND
 rw [hkn] at HND
 have HRS:=hide (show ∀ W:World,Below w.heap.size w W→SlAt 1 IntP Bs W (.slice sa s.length ds) s from fun W h=>ints_keep (Nat.le_refl _) (fun j hj=>h.block j (by omega)) Rs)
 have hcap:s.length≤ds:=by
  obtain ⟨_,_,hv,h,_⟩:=Rs
  cases hv
  exact h.2.1
 obtain ⟨L,hL⟩ : ∃ L,s.length=L:=⟨_,rfl⟩
 obtain ⟨rl,hrl⟩ : ∃ l,r.length=l:=⟨_,rfl⟩
 have hLr:L=rl+kn:=by rw [← hL,hs,← hrl,List.length_append,hkl]
 rw [hL] at HRS hcap hsl hoa ⊢
 have HTK:=hide (show s.take rl=r from by rw [hs,← hrl];simp)
 have hwn:IntKind.i64.wrap ((L:Int) - (kn:Int))=(rl:Int):=by
  rw [show (L:Int) - (kn:Int)=(rl:Int) by omega]
  exact wrap_nat (by omega)
 have hrd:rl≤ds:=by omega
 have hrd2:(rl:Int)≤(ds:Int):=by omega
 have HHL:=hide hL
 have HRLN:=hide hrl
 have HHS:=hide hs
 have HLR:=hide hLr
 have hrl3:rl≤300000000:=by omega
 have hrlL0:rl≤L:=by omega
 clear Rs hs hL hrl hLr
 go_enter Tryd.func24,Tryd.ntmps24
 go_wp2_with fail
 refine HND.out.mono ?_
 rintro e w2 ⟨rfl,hb2⟩
 have HR2:=hide (HR.out.up hb2)
 have hbw:=HR2.out.bel
 have hB2:Bs≤w2.heap.size:=Nat.le_trans hsB hbw.size
 have c3:Below w2.heap.size w2 (w2.alloc (.cells #[] 3)):=(Below.refl _ _).alloc (Nat.le_refl _) _
 have R3:SlAt 1 IntP Bs (w2.alloc (.cells #[] 3)) (.slice sa rl ds) r:=by
  have h:=HRS.out (w2.alloc (.cells #[] 3)) (bel_tr hbw c3)
  rw [← HHL.out] at h
  have h2:=sl_take h (n:=rl) (by rw [HHL.out];exact hrlL0)
  rw [HTK.out] at h2
  exact h2
 obtain ⟨a5,c5,W5,r5,q5,q6⟩:=(OwI.new (heap_new w2 (.cells #[] 3) rfl)).app R3 (by rw [HRLN.out];simp;omega) (Nat.le_of_lt (lt_of_block (heap_new w2 (.cells #[] 3) rfl)))
 rw [List.nil_append,HRLN.out] at r5 q5
 have HO5:=hide q5
 have HB5:=hide (show Below w2.heap.size w2 W5 from c3.trans q6)
 have HR5:=hide (HR2.out.up HB5.out)
 have HBW:=hide (show Below w.heap.size w W5 from bel_tr hbw HB5.out)
 have hC5:w2.heap.size≤W5.heap.size:=HB5.out.size
 have h2w:w.heap.size≤w2.heap.size:=hbw.size
 clear hb2 c3 R3 q5 q6 hbw
 by_cases h0:L=0
 · have dL:decide (0<L)=false:=by simp;omega
   have dL2:decide ((0:Int)<(L:Int))=false:=by simp;omega
   clear h0
   obtain ⟨k00,k01,k02,k03⟩:=HR5.out.c0
   obtain ⟨k10,k11,k12,k13⟩:=HR5.out.c1
   obtain ⟨k20,k21,k22⟩:=HR5.out.c2
   have k14:W5.cell? ⟨w.heap.size+1,4,none⟩=some (.slice b4 f.co.length x4):=cell_of HR5.out.e1 rfl
   obtain ⟨l50,l51,l52⟩:=HR5.out.lt
   dsimp only at k20 k21 k22
   clear c00 c01 c02 c03 c10 c11 c12 c13 c14 c20 c21 c22
   have HOA:=hide (hoa W5 (.slice a5 rl c5) w2.heap.size HR5.out.pg (Nat.le_trans HR5.out.hB HR5.out.bel.size) HR5.out.lo HR5.out.re HR5.out.ar (HRS.out W5 HBW.out) HO5.out hB2 hC5)
   have HUP:=hide (show ∀ W,Below w2.heap.size W5 W→Below w.heap.size w W from fun W h=>HBW.out.trans (h.mono h2w))
   clear hoa
   generalize efP p f ⟨o,a,b⟩ s=res at *
   cases res with
   | ok l =>
    go_wp2_with (at_builtin;(refine wpList_append_eq rfl _ _ 44 44 rfl rfl rfl r5 ?_;clear r5))
    refine HOA.out.mono ?_
    rintro e w9 ⟨hb9,a9,c9,rfl,hs9⟩
    have HFIN:=hide (show EfR w.heap.size (.ok l) w (.returned (.tuple #[.slice a9 l.length c9,.int .i64 0])) w9 from ⟨HUP.out _ hb9,a9,c9,rfl,hs9.weak h2w⟩)
    clear hb9 hs9
    go_wp2_with fail
    go_ret2
    exact HFIN.out
   | error c =>
    go_wp2_with (at_builtin;(refine wpList_append_eq rfl _ _ 44 44 rfl rfl rfl r5 ?_;clear r5))
    refine HOA.out.mono ?_
    rintro e w9 ⟨hb9,rfl⟩
    have HFIN:=hide (show EfR w.heap.size (.error c) w (.returned (.tuple #[.slice none 0 0,.int .i64 c])) w9 from ⟨HUP.out _ hb9,rfl⟩)
    clear hb9
    go_wp2_with fail
    go_ret2
    exact HFIN.out
 · obtain ⟨q,hq⟩ : ∃ q,L - 1=q:=⟨_,rfl⟩
   obtain ⟨y,hy⟩ : ∃ y,s[q]?=some y:=⟨s[q]'(by rw [HHL.out];omega),by simp⟩
   have RS5:=HRS.out W5 HBW.out
   rw [← HHL.out] at RS5
   obtain ⟨g,og,c,hv,hg,hcy,_,_⟩:=il_at RS5 hy
   cases hv
   have hgw:=Nat.lt_of_lt_of_le hg (Nat.le_trans hB2 hC5)
   have hql:q<L:=by omega
   have dq:decide (q<L)=true:=by simpa using hql
   have dL:decide (0<L)=true:=by simp;omega
   have dL2:decide ((0:Int)<(L:Int))=true:=by simp;omega
   have hwq:IntKind.i64.wrap ((L:Int) - 1)=(q:Int):=by
    rw [show (L:Int) - 1=(q:Int) by omega]
    exact wrap_nat (by omega)
   clear hy hq RS5 h0
   obtain ⟨k00,k01,k02,k03⟩:=HR5.out.c0
   obtain ⟨k10,k11,k12,k13⟩:=HR5.out.c1
   obtain ⟨k20,k21,k22⟩:=HR5.out.c2
   have k14:W5.cell? ⟨w.heap.size+1,4,none⟩=some (.slice b4 f.co.length x4):=cell_of HR5.out.e1 rfl
   obtain ⟨l50,l51,l52⟩:=HR5.out.lt
   dsimp only at k20 k21 k22
   clear c00 c01 c02 c03 c10 c11 c12 c13 c14 c20 c21 c22
   have HOA:=hide (hoa W5 (.slice a5 rl c5) w2.heap.size HR5.out.pg (Nat.le_trans HR5.out.hB HR5.out.bel.size) HR5.out.lo HR5.out.re HR5.out.ar (HRS.out W5 HBW.out) HO5.out hB2 hC5)
   have HUP:=hide (show ∀ W,Below w2.heap.size W5 W→Below w.heap.size w W from fun W h=>HBW.out.trans (h.mono h2w))
   clear hoa
   generalize efP p f ⟨o,a,b⟩ s=res at *
   cases res with
   | ok l =>
    go_wp2_with (at_builtin;(refine wpList_append_eq rfl _ _ 44 44 rfl rfl rfl r5 ?_;clear r5))
    refine HOA.out.mono ?_
    rintro e w9 ⟨hb9,a9,c9,rfl,hs9⟩
    have HFIN:=hide (show EfR w.heap.size (.ok l) w (.returned (.tuple #[.slice a9 l.length c9,.int .i64 0])) w9 from ⟨HUP.out _ hb9,a9,c9,rfl,hs9.weak h2w⟩)
    clear hb9 hs9
    go_wp2_with fail
    go_ret2
    exact HFIN.out
   | error c =>
    go_wp2_with (at_builtin;(refine wpList_append_eq rfl _ _ 44 44 rfl rfl rfl r5 ?_;clear r5))
    refine HOA.out.mono ?_
    rintro e w9 ⟨hb9,rfl⟩
    have HFIN:=hide (show EfR w.heap.size (.error c) w (.returned (.tuple #[.slice none 0 0,.int .i64 c])) w9 from ⟨HUP.out _ hb9,rfl⟩)
    clear hb9
    go_wp2_with fail
    go_ret2
    exact HFIN.out
end
end Go.Proofs.YtfkejdocklcpoaaDoor
