/- The document's objects. -/
import Derived.Test.YtkdojpnihinpbaaGreatDoorVfRoJo
import Derived.Test.YtkdojpnihinpbaaGreatDoorVfCnJo
namespace Go.Proofs.YtkdojpnihinpbaaGreatDoor
set_option maxRecDepth 100000
set_option maxHeartbeats 1000000
open Go.RowKit
def EfOk (C:Nat) (l:List Int) (w:World) (e:Ending) (W:World):Prop:=Below C w W∧∃ a c,e=.returned (.tuple #[.slice a l.length c,.int .i64 0])∧OwI C W (.slice a l.length c) l
theorem OwI.weak {C C' : Nat} {W:World} {v:Value} {l:List Int} (h:OwI C W v l) (hc:C'≤C):OwI C' W v l:=⟨owns_weak h.1 hc,h.2⟩
def EfNo (C:Nat) (c:Int) (w:World) (e:Ending) (W:World):Prop:=Below C w W∧e=.returned (.tuple #[.slice none 0 0,.int .i64 c])
section
variable {B Bs C:Nat} {w:World} {p:Pg} {f:Fd} {a b:Int} {v1 v2 v3 v4 u1 u2 u3 u4 vs vr:Value} {s r:List Int}
theorem ob_11 (P:PgAt B w v1 v2 v3 v4 p) (hB:B≤w.heap.size) (s1:SlAt 1 IntP B w u1 f.lo) (s2:SlAt 1 IntP B w u2 f.re) (s3:SlAt 1 IntP B w u3 f.ar) (Rs:SlAt 1 IntP Bs w vs s) (O:OwI C w vr r) (hsC:Bs≤C) (hC:C≤w.heap.size) (hr:r.length≤300000000) (hsl:s.length≤300000000) (ha:0≤a∧a≤1024):Calls Tryz.prog 46 #[.agg #[v1,v2,v3,v4],.agg #[.int .i64 f.pa,u1,u2,u3,u4],.agg #[.int .i64 11,.int .i64 a,.int .i64 b],vs,vr] w (EfOk C (r++[2+2*a]) w):=by
 obtain ⟨⟨a1,d1,rfl⟩,⟨a2,d2,rfl⟩,⟨a3,d3,rfl⟩,a4,d4,rfl⟩:=fm4 P
 obtain ⟨⟨b1,x1,rfl⟩,⟨b2,x2,rfl⟩,b3,x3,rfl⟩:=fm3 s1 s2 s3
 have R:=Rx.new (i:=⟨11,a,b⟩) (u4:=u4) P hB s1 s2 s3
 dsimp only at R
 obtain ⟨W1,hW1⟩:=exR R
 rw [hW1] at R
 obtain ⟨c00,c01,c02,c03⟩:=R.c0
 obtain ⟨c10,c11,c12,c13⟩:=R.c1
 obtain ⟨c20,c21,c22⟩:=R.c2
 obtain ⟨l0,l1,l2⟩:=R.lt
 dsimp only at c20 c21 c22
 have HR:=hide R
 clear P s1 s2 s3
 have b1:=R.bel
 obtain ⟨sa,ds,hvs⟩:=sl_form Rs
 obtain ⟨ar,dr,hvr⟩:=O.form
 subst hvs hvr
 have Rs1:SlAt 1 IntP Bs W1 (.slice sa s.length ds) s:=ints_keep (Nat.le_refl _) (fun j hj=>b1.block j (by omega)) Rs
 have HO:=hide (O.up b1)
 have HRS:=hide Rs1
 have HWC:=hide (show Below C w W1 from b1.mono hC)
 have hC1:C≤W1.heap.size:=Nat.le_trans hC b1.size
 clear Rs O b1 R
 obtain ⟨L,hL⟩ : ∃ L,s.length=L:=⟨_,rfl⟩
 rw [hL] at HRS ⊢
 have hw1:IntKind.i64.wrap (2*a)=2*a:=wrapI (by omega) (by omega)
 have hw2:IntKind.i64.wrap (2+2*a)=2+2*a:=wrapI (by omega) (by omega)
 obtain ⟨a8,c8,W8,r1,q1,q2⟩:=HO.out.put [2+2*a] (fun z hz=>by simp at hz;subst hz;exact ⟨by omega,by omega⟩) (by simp;omega) (by simp) hC1
 have HQ1:=hide q1
 have HQ2:=hide (HWC.out.trans q2)
 clear q1 q2
 have r1:(Builtin.append_ #[37,37] 37 #[.slice ar r.length dr,.slice (some ⟨W1.heap.size,0,none⟩) 1 1]).run Tryz.prog (W1.alloc (.cells #[.int .i64 (2+2*a)] 3))=.ok (.slice a8 (r++[2+2*a]).length c8) W8:=r1
 by_cases h0:L=0
 · have dL:decide (0<L)=false:=by simp;omega
   have dL2:decide ((0:Int)<(L:Int))=false:=by simp;omega
   clear h0
   go_enter Tryz.func46,Tryz.ntmps46
   go_wp2_with (at_builtin;(refine wpList_append_eq rfl _ _ 37 37 rfl rfl rfl r1 ?_;clear r1))
   go_ret2
   exact ⟨HQ2.out,a8,c8,by rw [List.length_append];rfl,HQ1.out⟩
 · obtain ⟨q,hq⟩ : ∃ q,L - 1=q:=⟨_,rfl⟩
   obtain ⟨y,hy⟩ : ∃ y,s[q]?=some y:=⟨s[q]'(by omega),by simp⟩
   obtain ⟨g,o,c,hv,hg,hcy,_,_⟩:=il_at Rs1 hy
   cases hv
   have hgw:=Nat.lt_of_lt_of_le hg (Nat.le_trans hsC hC1)
   have hql:q<L:=by omega
   have dq:decide (q<L)=true:=by simpa using hql
   have dL:decide (0<L)=true:=by simp;omega
   have dL2:decide ((0:Int)<(L:Int))=true:=by simp;omega
   have hwq:IntKind.i64.wrap ((L:Int) - 1)=(q:Int):=by
    rw [show (L:Int) - 1=(q:Int) by omega]
    exact wrap_nat (by omega)
   clear hy hq
   go_enter Tryz.func46,Tryz.ntmps46
   go_wp2_with (at_builtin;(refine wpList_append_eq rfl _ _ 37 37 rfl rfl rfl r1 ?_;clear r1))
   go_ret2
   exact ⟨HQ2.out,a8,c8,by rw [List.length_append];rfl,HQ1.out⟩
theorem ob_29 (P:PgAt B w v1 v2 v3 v4 p) (hB:B≤w.heap.size) (s1:SlAt 1 IntP B w u1 f.lo) (s2:SlAt 1 IntP B w u2 f.re) (s3:SlAt 1 IntP B w u3 f.ar) (Rs:SlAt 1 IntP Bs w vs s) (O:OwI C w vr r) (hsC:Bs≤C) (hC:C≤w.heap.size) (hr:r.length≤300000000) (hsl:s.length≤300000000) (ha:0≤b∧b≤1024):Calls Tryz.prog 46 #[.agg #[v1,v2,v3,v4],.agg #[.int .i64 f.pa,u1,u2,u3,u4],.agg #[.int .i64 29,.int .i64 a,.int .i64 b],vs,vr] w (EfOk C (r++[3+2*b]) w):=by
 obtain ⟨⟨a1,d1,rfl⟩,⟨a2,d2,rfl⟩,⟨a3,d3,rfl⟩,a4,d4,rfl⟩:=fm4 P
 obtain ⟨⟨b1,x1,rfl⟩,⟨b2,x2,rfl⟩,b3,x3,rfl⟩:=fm3 s1 s2 s3
 have R:=Rx.new (i:=⟨29,a,b⟩) (u4:=u4) P hB s1 s2 s3
 dsimp only at R
 obtain ⟨W1,hW1⟩:=exR R
 rw [hW1] at R
 obtain ⟨c00,c01,c02,c03⟩:=R.c0
 obtain ⟨c10,c11,c12,c13⟩:=R.c1
 obtain ⟨c20,c21,c22⟩:=R.c2
 obtain ⟨l0,l1,l2⟩:=R.lt
 dsimp only at c20 c21 c22
 have HR:=hide R
 clear P s1 s2 s3
 have b1:=R.bel
 obtain ⟨sa,ds,hvs⟩:=sl_form Rs
 obtain ⟨ar,dr,hvr⟩:=O.form
 subst hvs hvr
 have Rs1:SlAt 1 IntP Bs W1 (.slice sa s.length ds) s:=ints_keep (Nat.le_refl _) (fun j hj=>b1.block j (by omega)) Rs
 have HO:=hide (O.up b1)
 have HRS:=hide Rs1
 have HWC:=hide (show Below C w W1 from b1.mono hC)
 have hC1:C≤W1.heap.size:=Nat.le_trans hC b1.size
 clear Rs O b1 R
 obtain ⟨L,hL⟩ : ∃ L,s.length=L:=⟨_,rfl⟩
 rw [hL] at HRS ⊢
 have hw1:IntKind.i64.wrap (2*b)=2*b:=wrapI (by omega) (by omega)
 have hw2:IntKind.i64.wrap (3+2*b)=3+2*b:=wrapI (by omega) (by omega)
 obtain ⟨a8,c8,W8,r1,q1,q2⟩:=HO.out.put [3+2*b] (fun z hz=>by simp at hz;subst hz;exact ⟨by omega,by omega⟩) (by simp;omega) (by simp) hC1
 have HQ1:=hide q1
 have HQ2:=hide (HWC.out.trans q2)
 clear q1 q2
 have r1:(Builtin.append_ #[37,37] 37 #[.slice ar r.length dr,.slice (some ⟨W1.heap.size,0,none⟩) 1 1]).run Tryz.prog (W1.alloc (.cells #[.int .i64 (3+2*b)] 3))=.ok (.slice a8 (r++[3+2*b]).length c8) W8:=r1
 by_cases h0:L=0
 · have dL:decide (0<L)=false:=by simp;omega
   have dL2:decide ((0:Int)<(L:Int))=false:=by simp;omega
   clear h0
   go_enter Tryz.func46,Tryz.ntmps46
   go_wp2_with (at_builtin;(refine wpList_append_eq rfl _ _ 37 37 rfl rfl rfl r1 ?_;clear r1))
   go_ret2
   exact ⟨HQ2.out,a8,c8,by rw [List.length_append];rfl,HQ1.out⟩
 · obtain ⟨q,hq⟩ : ∃ q,L - 1=q:=⟨_,rfl⟩
   obtain ⟨y,hy⟩ : ∃ y,s[q]?=some y:=⟨s[q]'(by omega),by simp⟩
   obtain ⟨g,o,c,hv,hg,hcy,_,_⟩:=il_at Rs1 hy
   cases hv
   have hgw:=Nat.lt_of_lt_of_le hg (Nat.le_trans hsC hC1)
   have hql:q<L:=by omega
   have dq:decide (q<L)=true:=by simpa using hql
   have dL:decide (0<L)=true:=by simp;omega
   have dL2:decide ((0:Int)<(L:Int))=true:=by simp;omega
   have hwq:IntKind.i64.wrap ((L:Int) - 1)=(q:Int):=by
    rw [show (L:Int) - 1=(q:Int) by omega]
    exact wrap_nat (by omega)
   clear hy hq
   go_enter Tryz.func46,Tryz.ntmps46
   go_wp2_with (at_builtin;(refine wpList_append_eq rfl _ _ 37 37 rfl rfl rfl r1 ?_;clear r1))
   go_ret2
   exact ⟨HQ2.out,a8,c8,by rw [List.length_append];rfl,HQ1.out⟩
theorem ob_13 (P:PgAt B w v1 v2 v3 v4 p) (hB:B≤w.heap.size) (s1:SlAt 1 IntP B w u1 f.lo) (s2:SlAt 1 IntP B w u2 f.re) (s3:SlAt 1 IntP B w u3 f.ar) (Rs:SlAt 1 IntP Bs w vs s) (O:OwI C w vr r) (hsC:Bs≤C) (hC:C≤w.heap.size) (hr:r.length≤300000000) (hsl:s.length≤300000000) {n t:Nat} (ha:a=(n:Int)) (ht:f.ar[n]?=some (t:Int)) (htl:t≤1024):Calls Tryz.prog 46 #[.agg #[v1,v2,v3,v4],.agg #[.int .i64 f.pa,u1,u2,u3,u4],.agg #[.int .i64 13,.int .i64 a,.int .i64 b],vs,vr] w (EfOk C (r++[1048578+2*(t:Int)]) w):=by
 obtain ⟨⟨a1,d1,rfl⟩,⟨a2,d2,rfl⟩,⟨a3,d3,rfl⟩,a4,d4,rfl⟩:=fm4 P
 obtain ⟨⟨b1,x1,rfl⟩,⟨b2,x2,rfl⟩,b3,x3,rfl⟩:=fm3 s1 s2 s3
 have R:=Rx.new (i:=⟨13,a,b⟩) (u4:=u4) P hB s1 s2 s3
 dsimp only at R
 obtain ⟨W1,hW1⟩:=exR R
 rw [hW1] at R
 obtain ⟨c00,c01,c02,c03⟩:=R.c0
 obtain ⟨c10,c11,c12,c13⟩:=R.c1
 obtain ⟨c20,c21,c22⟩:=R.c2
 obtain ⟨l0,l1,l2⟩:=R.lt
 dsimp only at c20 c21 c22
 have HR:=hide R
 clear P s1 s2 s3
 have b1:=R.bel
 obtain ⟨sa,ds,hvs⟩:=sl_form Rs
 obtain ⟨ar,dr,hvr⟩:=O.form
 subst hvs hvr
 have Rs1:SlAt 1 IntP Bs W1 (.slice sa s.length ds) s:=ints_keep (Nat.le_refl _) (fun j hj=>b1.block j (by omega)) Rs
 have HO:=hide (O.up b1)
 have HRS:=hide Rs1
 have HWC:=hide (show Below C w W1 from b1.mono hC)
 have hC1:C≤W1.heap.size:=Nat.le_trans hC b1.size
 clear Rs O b1 R
 obtain ⟨L,hL⟩ : ∃ L,s.length=L:=⟨_,rfl⟩
 rw [hL] at HRS ⊢
 subst ha
 obtain ⟨ga,oa,ca,hva,hga,hca,_,_⟩:=il_at HR.out.ar ht
 cases hva
 have hgaw:ga<W1.heap.size:=by have:=HR.out.hB;have:=HR.out.bel.size;omega
 have hnl:n<f.ar.length:=get_lt ht
 have dn:decide (n<f.ar.length)=true:=by simpa using hnl
 clear ht
 have hw1:IntKind.i64.wrap (2*(t:Int))=2*(t:Int):=wrapI (by omega) (by omega)
 have hw2:IntKind.i64.wrap (1048578+2*(t:Int))=1048578+2*(t:Int):=wrapI (by omega) (by omega)
 obtain ⟨a8,c8,W8,r1,q1,q2⟩:=HO.out.put [1048578+2*(t:Int)] (fun z hz=>by simp at hz;subst hz;exact ⟨by omega,by omega⟩) (by simp;omega) (by simp) hC1
 have HQ1:=hide q1
 have HQ2:=hide (HWC.out.trans q2)
 clear q1 q2
 have r1:(Builtin.append_ #[37,37] 37 #[.slice ar r.length dr,.slice (some ⟨W1.heap.size,0,none⟩) 1 1]).run Tryz.prog (W1.alloc (.cells #[.int .i64 (1048578+2*(t:Int))] 3))=.ok (.slice a8 (r++[1048578+2*(t:Int)]).length c8) W8:=r1
 by_cases h0:L=0
 · have dL:decide (0<L)=false:=by simp;omega
   have dL2:decide ((0:Int)<(L:Int))=false:=by simp;omega
   clear h0
   go_enter Tryz.func46,Tryz.ntmps46
   go_wp2_with (at_builtin;(refine wpList_append_eq rfl _ _ 37 37 rfl rfl rfl r1 ?_;clear r1))
   go_ret2
   exact ⟨HQ2.out,a8,c8,by rw [List.length_append];rfl,HQ1.out⟩
 · obtain ⟨q,hq⟩ : ∃ q,L - 1=q:=⟨_,rfl⟩
   obtain ⟨y,hy⟩ : ∃ y,s[q]?=some y:=⟨s[q]'(by omega),by simp⟩
   obtain ⟨g,o,c,hv,hg,hcy,_,_⟩:=il_at Rs1 hy
   cases hv
   have hgw:=Nat.lt_of_lt_of_le hg (Nat.le_trans hsC hC1)
   have hql:q<L:=by omega
   have dq:decide (q<L)=true:=by simpa using hql
   have dL:decide (0<L)=true:=by simp;omega
   have dL2:decide ((0:Int)<(L:Int))=true:=by simp;omega
   have hwq:IntKind.i64.wrap ((L:Int) - 1)=(q:Int):=by
    rw [show (L:Int) - 1=(q:Int) by omega]
    exact wrap_nat (by omega)
   clear hy hq
   go_enter Tryz.func46,Tryz.ntmps46
   go_wp2_with (at_builtin;(refine wpList_append_eq rfl _ _ 37 37 rfl rfl rfl r1 ?_;clear r1))
   go_ret2
   exact ⟨HQ2.out,a8,c8,by rw [List.length_append];rfl,HQ1.out⟩
theorem ob_12t (P:PgAt B w v1 v2 v3 v4 p) (hB:B≤w.heap.size) (s1:SlAt 1 IntP B w u1 f.lo) (s2:SlAt 1 IntP B w u2 f.re) (s3:SlAt 1 IntP B w u3 f.ar) (Rs:SlAt 1 IntP Bs w vs s) (O:OwI C w vr r) (hsC:Bs≤C) (hC:C≤w.heap.size) (hr:r.length≤300000000) {x:Int} (hs:s=r++[x]) (ha:0≤a∧a≤1024) (hx0:x=0):Calls Tryz.prog 46 #[.agg #[v1,v2,v3,v4],.agg #[.int .i64 f.pa,u1,u2,u3,u4],.agg #[.int .i64 12,.int .i64 a,.int .i64 b],vs,vr] w (EfOk C (r++[3+2*a]) w):=by
 obtain ⟨⟨a1,d1,rfl⟩,⟨a2,d2,rfl⟩,⟨a3,d3,rfl⟩,a4,d4,rfl⟩:=fm4 P
 obtain ⟨⟨b1,x1,rfl⟩,⟨b2,x2,rfl⟩,b3,x3,rfl⟩:=fm3 s1 s2 s3
 have R:=Rx.new (i:=⟨12,a,b⟩) (u4:=u4) P hB s1 s2 s3
 dsimp only at R
 obtain ⟨W1,hW1⟩:=exR R
 rw [hW1] at R
 obtain ⟨c00,c01,c02,c03⟩:=R.c0
 obtain ⟨c10,c11,c12,c13⟩:=R.c1
 obtain ⟨c20,c21,c22⟩:=R.c2
 obtain ⟨l0,l1,l2⟩:=R.lt
 dsimp only at c20 c21 c22
 have HR:=hide R
 clear P s1 s2 s3
 have b1:=R.bel
 obtain ⟨sa,ds,hvs⟩:=sl_form Rs
 obtain ⟨ar,dr,hvr⟩:=O.form
 subst hvs hvr
 have Rs1:SlAt 1 IntP Bs W1 (.slice sa s.length ds) s:=ints_keep (Nat.le_refl _) (fun j hj=>b1.block j (by omega)) Rs
 have HO:=hide (O.up b1)
 have HRS:=hide Rs1
 have HWC:=hide (show Below C w W1 from b1.mono hC)
 have hC1:C≤W1.heap.size:=Nat.le_trans hC b1.size
 clear Rs O b1 R
 obtain ⟨L,hL⟩ : ∃ L,s.length=L:=⟨_,rfl⟩
 obtain ⟨q,hq⟩ : ∃ q,L - 1=q:=⟨_,rfl⟩
 have hLr:L=r.length+1:=by rw [← hL,hs];simp
 have hy:s[q]?=some x:=by rw [hs,← hq,hLr,List.getElem?_append_right (by omega)];simp
 obtain ⟨g,o,c,hv,hg,hcy,_,_⟩:=il_at Rs1 hy
 cases hv
 rw [hL] at HRS ⊢
 have hgw:=Nat.lt_of_lt_of_le hg (Nat.le_trans hsC hC1)
 have hql:q<L:=by omega
 have dq:decide (q<L)=true:=by simpa using hql
 have dL:decide (0<L)=true:=by simp;omega
 have dL2:decide ((0:Int)<(L:Int))=true:=by simp;omega
 have hwq:IntKind.i64.wrap ((L:Int) - 1)=(q:Int):=by
  rw [show (L:Int) - 1=(q:Int) by omega]
  exact wrap_nat (by omega)
 clear hLr hy hs hL hq
 have hw1:IntKind.i64.wrap (2*a)=2*a:=wrapI (by omega) (by omega)
 have hw2:IntKind.i64.wrap (3+2*a)=3+2*a:=wrapI (by omega) (by omega)
 have e0:(x == 0)=true:=by simp [hx0]
 obtain ⟨a8,c8,W8,r1,q1,q2⟩:=HO.out.put [3+2*a] (fun z hz=>by simp at hz;subst hz;exact ⟨by omega,by omega⟩) (by simp;omega) (by simp) hC1
 have HQ1:=hide q1
 have HQ2:=hide (HWC.out.trans q2)
 clear q1 q2
 have r1:(Builtin.append_ #[37,37] 37 #[.slice ar r.length dr,.slice (some ⟨W1.heap.size,0,none⟩) 1 1]).run Tryz.prog (W1.alloc (.cells #[.int .i64 (3+2*a)] 3))=.ok (.slice a8 (r++[3+2*a]).length c8) W8:=r1
 have HKD:=hide (rkt_any (w:=W8) a8 (r.length+1) c8)
 go_enter Tryz.func46,Tryz.ntmps46
 go_wp2_with (at_builtin;(refine wpList_append_eq rfl _ _ 37 37 rfl rfl rfl r1 ?_;clear r1))
 refine HKD.out.mono ?_
 rintro e w9 ⟨rfl,rfl⟩
 go_wp2_with fail
 go_ret2
 exact ⟨HQ2.out,a8,c8,by rw [List.length_append];rfl,HQ1.out⟩
theorem ob_12f (P:PgAt B w v1 v2 v3 v4 p) (hB:B≤w.heap.size) (s1:SlAt 1 IntP B w u1 f.lo) (s2:SlAt 1 IntP B w u2 f.re) (s3:SlAt 1 IntP B w u3 f.ar) (Rs:SlAt 1 IntP Bs w vs s) (O:OwI C w vr r) (hsC:Bs≤C) (hC:C≤w.heap.size) (hr:r.length≤300000000) {x:Int} (hs:s=r++[x]) (ha:0≤a∧a≤1024) (hx0:¬ x=0):Calls Tryz.prog 46 #[.agg #[v1,v2,v3,v4],.agg #[.int .i64 f.pa,u1,u2,u3,u4],.agg #[.int .i64 12,.int .i64 a,.int .i64 b],vs,vr] w (EfNo C 8 w):=by
 obtain ⟨⟨a1,d1,rfl⟩,⟨a2,d2,rfl⟩,⟨a3,d3,rfl⟩,a4,d4,rfl⟩:=fm4 P
 obtain ⟨⟨b1,x1,rfl⟩,⟨b2,x2,rfl⟩,b3,x3,rfl⟩:=fm3 s1 s2 s3
 have R:=Rx.new (i:=⟨12,a,b⟩) (u4:=u4) P hB s1 s2 s3
 dsimp only at R
 obtain ⟨W1,hW1⟩:=exR R
 rw [hW1] at R
 obtain ⟨c00,c01,c02,c03⟩:=R.c0
 obtain ⟨c10,c11,c12,c13⟩:=R.c1
 obtain ⟨c20,c21,c22⟩:=R.c2
 obtain ⟨l0,l1,l2⟩:=R.lt
 dsimp only at c20 c21 c22
 have HR:=hide R
 clear P s1 s2 s3
 have b1:=R.bel
 obtain ⟨sa,ds,hvs⟩:=sl_form Rs
 obtain ⟨ar,dr,hvr⟩:=O.form
 subst hvs hvr
 have Rs1:SlAt 1 IntP Bs W1 (.slice sa s.length ds) s:=ints_keep (Nat.le_refl _) (fun j hj=>b1.block j (by omega)) Rs
 have HO:=hide (O.up b1)
 have HRS:=hide Rs1
 have HWC:=hide (show Below C w W1 from b1.mono hC)
 have hC1:C≤W1.heap.size:=Nat.le_trans hC b1.size
 clear Rs O b1 R
 obtain ⟨L,hL⟩ : ∃ L,s.length=L:=⟨_,rfl⟩
 obtain ⟨q,hq⟩ : ∃ q,L - 1=q:=⟨_,rfl⟩
 have hLr:L=r.length+1:=by rw [← hL,hs];simp
 have hy:s[q]?=some x:=by rw [hs,← hq,hLr,List.getElem?_append_right (by omega)];simp
 obtain ⟨g,o,c,hv,hg,hcy,_,_⟩:=il_at Rs1 hy
 cases hv
 rw [hL] at HRS ⊢
 have hgw:=Nat.lt_of_lt_of_le hg (Nat.le_trans hsC hC1)
 have hql:q<L:=by omega
 have dq:decide (q<L)=true:=by simpa using hql
 have dL:decide (0<L)=true:=by simp;omega
 have dL2:decide ((0:Int)<(L:Int))=true:=by simp;omega
 have hwq:IntKind.i64.wrap ((L:Int) - 1)=(q:Int):=by
  rw [show (L:Int) - 1=(q:Int) by omega]
  exact wrap_nat (by omega)
 clear hLr hy hs hL hq
 have hw1:IntKind.i64.wrap (2*a)=2*a:=wrapI (by omega) (by omega)
 have hw2:IntKind.i64.wrap (3+2*a)=3+2*a:=wrapI (by omega) (by omega)
 have e0:(x == 0)=false:=by simpa using hx0
 obtain ⟨a8,c8,W8,r1,q1,q2⟩:=HO.out.put [3+2*a] (fun z hz=>by simp at hz;subst hz;exact ⟨by omega,by omega⟩) (by simp;omega) (by simp) hC1
 have HQ1:=hide q1
 have HQ2:=hide (HWC.out.trans q2)
 clear q1 q2
 have r1:(Builtin.append_ #[37,37] 37 #[.slice ar r.length dr,.slice (some ⟨W1.heap.size,0,none⟩) 1 1]).run Tryz.prog (W1.alloc (.cells #[.int .i64 (3+2*a)] 3))=.ok (.slice a8 (r++[3+2*a]).length c8) W8:=r1
 have HKD:=hide (rkf_any (w:=W8) a8 (r.length+1) c8)
 go_enter Tryz.func46,Tryz.ntmps46
 go_wp2_with (at_builtin;(refine wpList_append_eq rfl _ _ 37 37 rfl rfl rfl r1 ?_;clear r1))
 refine HKD.out.mono ?_
 rintro e w9 ⟨rfl,rfl⟩
 go_wp2_with fail
 go_ret2
 exact ⟨HQ2.out,rfl⟩
theorem ob_20t (P:PgAt B w v1 v2 v3 v4 p) (hB:B≤w.heap.size) (s1:SlAt 1 IntP B w u1 f.lo) (s2:SlAt 1 IntP B w u2 f.re) (s3:SlAt 1 IntP B w u3 f.ar) (Rs:SlAt 1 IntP Bs w vs s) (O:OwI C w vr r) (hsC:Bs≤C) (hC:C≤w.heap.size) (hr:r.length≤300000000) {x:Int} (hs:s=r++[x]) (hx0:x=1):Calls Tryz.prog 46 #[.agg #[v1,v2,v3,v4],.agg #[.int .i64 f.pa,u1,u2,u3,u4],.agg #[.int .i64 20,.int .i64 a,.int .i64 b],vs,vr] w (EfOk C (r++[0]) w):=by
 obtain ⟨⟨a1,d1,rfl⟩,⟨a2,d2,rfl⟩,⟨a3,d3,rfl⟩,a4,d4,rfl⟩:=fm4 P
 obtain ⟨⟨b1,x1,rfl⟩,⟨b2,x2,rfl⟩,b3,x3,rfl⟩:=fm3 s1 s2 s3
 have R:=Rx.new (i:=⟨20,a,b⟩) (u4:=u4) P hB s1 s2 s3
 dsimp only at R
 obtain ⟨W1,hW1⟩:=exR R
 rw [hW1] at R
 obtain ⟨c00,c01,c02,c03⟩:=R.c0
 obtain ⟨c10,c11,c12,c13⟩:=R.c1
 obtain ⟨c20,c21,c22⟩:=R.c2
 obtain ⟨l0,l1,l2⟩:=R.lt
 dsimp only at c20 c21 c22
 have HR:=hide R
 clear P s1 s2 s3
 have b1:=R.bel
 obtain ⟨sa,ds,hvs⟩:=sl_form Rs
 obtain ⟨ar,dr,hvr⟩:=O.form
 subst hvs hvr
 have Rs1:SlAt 1 IntP Bs W1 (.slice sa s.length ds) s:=ints_keep (Nat.le_refl _) (fun j hj=>b1.block j (by omega)) Rs
 have HO:=hide (O.up b1)
 have HRS:=hide Rs1
 have HWC:=hide (show Below C w W1 from b1.mono hC)
 have hC1:C≤W1.heap.size:=Nat.le_trans hC b1.size
 clear Rs O b1 R
 obtain ⟨L,hL⟩ : ∃ L,s.length=L:=⟨_,rfl⟩
 obtain ⟨q,hq⟩ : ∃ q,L - 1=q:=⟨_,rfl⟩
 have hLr:L=r.length+1:=by rw [← hL,hs];simp
 have hy:s[q]?=some x:=by rw [hs,← hq,hLr,List.getElem?_append_right (by omega)];simp
 obtain ⟨g,o,c,hv,hg,hcy,_,_⟩:=il_at Rs1 hy
 cases hv
 rw [hL] at HRS ⊢
 have hgw:=Nat.lt_of_lt_of_le hg (Nat.le_trans hsC hC1)
 have hql:q<L:=by omega
 have dq:decide (q<L)=true:=by simpa using hql
 have dL:decide (0<L)=true:=by simp;omega
 have dL2:decide ((0:Int)<(L:Int))=true:=by simp;omega
 have hwq:IntKind.i64.wrap ((L:Int) - 1)=(q:Int):=by
  rw [show (L:Int) - 1=(q:Int) by omega]
  exact wrap_nat (by omega)
 clear hLr hy hs hL hq
 have e0:(x == 1)=true:=by simp [hx0]
 obtain ⟨a8,c8,W8,r1,q1,q2⟩:=HO.out.put [0] (fun z hz=>by simp at hz;subst hz;exact ⟨by decide,by decide⟩) (by simp;omega) (by simp) hC1
 have HQ1:=hide q1
 have HQ2:=hide (HWC.out.trans q2)
 clear q1 q2
 have r1:(Builtin.append_ #[37,37] 37 #[.slice ar r.length dr,.slice (some ⟨W1.heap.size,0,none⟩) 1 1]).run Tryz.prog (W1.alloc (.cells #[.int .i64 (0)] 3))=.ok (.slice a8 (r++[0]).length c8) W8:=r1
 have HKD:=hide (rkt_any (w:=W8) a8 (r.length+1) c8)
 go_enter Tryz.func46,Tryz.ntmps46
 go_wp2_with (at_builtin;(refine wpList_append_eq rfl _ _ 37 37 rfl rfl rfl r1 ?_;clear r1))
 refine HKD.out.mono ?_
 rintro e w9 ⟨rfl,rfl⟩
 go_wp2_with fail
 go_ret2
 exact ⟨HQ2.out,a8,c8,by rw [List.length_append];rfl,HQ1.out⟩
theorem ob_20f (P:PgAt B w v1 v2 v3 v4 p) (hB:B≤w.heap.size) (s1:SlAt 1 IntP B w u1 f.lo) (s2:SlAt 1 IntP B w u2 f.re) (s3:SlAt 1 IntP B w u3 f.ar) (Rs:SlAt 1 IntP Bs w vs s) (O:OwI C w vr r) (hsC:Bs≤C) (hC:C≤w.heap.size) (hr:r.length≤300000000) {x:Int} (hs:s=r++[x]) (hx0:¬ x=1):Calls Tryz.prog 46 #[.agg #[v1,v2,v3,v4],.agg #[.int .i64 f.pa,u1,u2,u3,u4],.agg #[.int .i64 20,.int .i64 a,.int .i64 b],vs,vr] w (EfNo C 8 w):=by
 obtain ⟨⟨a1,d1,rfl⟩,⟨a2,d2,rfl⟩,⟨a3,d3,rfl⟩,a4,d4,rfl⟩:=fm4 P
 obtain ⟨⟨b1,x1,rfl⟩,⟨b2,x2,rfl⟩,b3,x3,rfl⟩:=fm3 s1 s2 s3
 have R:=Rx.new (i:=⟨20,a,b⟩) (u4:=u4) P hB s1 s2 s3
 dsimp only at R
 obtain ⟨W1,hW1⟩:=exR R
 rw [hW1] at R
 obtain ⟨c00,c01,c02,c03⟩:=R.c0
 obtain ⟨c10,c11,c12,c13⟩:=R.c1
 obtain ⟨c20,c21,c22⟩:=R.c2
 obtain ⟨l0,l1,l2⟩:=R.lt
 dsimp only at c20 c21 c22
 have HR:=hide R
 clear P s1 s2 s3
 have b1:=R.bel
 obtain ⟨sa,ds,hvs⟩:=sl_form Rs
 obtain ⟨ar,dr,hvr⟩:=O.form
 subst hvs hvr
 have Rs1:SlAt 1 IntP Bs W1 (.slice sa s.length ds) s:=ints_keep (Nat.le_refl _) (fun j hj=>b1.block j (by omega)) Rs
 have HO:=hide (O.up b1)
 have HRS:=hide Rs1
 have HWC:=hide (show Below C w W1 from b1.mono hC)
 have hC1:C≤W1.heap.size:=Nat.le_trans hC b1.size
 clear Rs O b1 R
 obtain ⟨L,hL⟩ : ∃ L,s.length=L:=⟨_,rfl⟩
 obtain ⟨q,hq⟩ : ∃ q,L - 1=q:=⟨_,rfl⟩
 have hLr:L=r.length+1:=by rw [← hL,hs];simp
 have hy:s[q]?=some x:=by rw [hs,← hq,hLr,List.getElem?_append_right (by omega)];simp
 obtain ⟨g,o,c,hv,hg,hcy,_,_⟩:=il_at Rs1 hy
 cases hv
 rw [hL] at HRS ⊢
 have hgw:=Nat.lt_of_lt_of_le hg (Nat.le_trans hsC hC1)
 have hql:q<L:=by omega
 have dq:decide (q<L)=true:=by simpa using hql
 have dL:decide (0<L)=true:=by simp;omega
 have dL2:decide ((0:Int)<(L:Int))=true:=by simp;omega
 have hwq:IntKind.i64.wrap ((L:Int) - 1)=(q:Int):=by
  rw [show (L:Int) - 1=(q:Int) by omega]
  exact wrap_nat (by omega)
 clear hLr hy hs hL hq
 have e0:(x == 1)=false:=by simpa using hx0
 obtain ⟨a8,c8,W8,r1,q1,q2⟩:=HO.out.put [0] (fun z hz=>by simp at hz;subst hz;exact ⟨by decide,by decide⟩) (by simp;omega) (by simp) hC1
 have HQ1:=hide q1
 have HQ2:=hide (HWC.out.trans q2)
 clear q1 q2
 have r1:(Builtin.append_ #[37,37] 37 #[.slice ar r.length dr,.slice (some ⟨W1.heap.size,0,none⟩) 1 1]).run Tryz.prog (W1.alloc (.cells #[.int .i64 (0)] 3))=.ok (.slice a8 (r++[0]).length c8) W8:=r1
 have HKD:=hide (rkf_any (w:=W8) a8 (r.length+1) c8)
 go_enter Tryz.func46,Tryz.ntmps46
 go_wp2_with (at_builtin;(refine wpList_append_eq rfl _ _ 37 37 rfl rfl rfl r1 ?_;clear r1))
 refine HKD.out.mono ?_
 rintro e w9 ⟨rfl,rfl⟩
 go_wp2_with fail
 go_ret2
 exact ⟨HQ2.out,rfl⟩
theorem ob_21t (P:PgAt B w v1 v2 v3 v4 p) (hB:B≤w.heap.size) (s1:SlAt 1 IntP B w u1 f.lo) (s2:SlAt 1 IntP B w u2 f.re) (s3:SlAt 1 IntP B w u3 f.ar) (Rs:SlAt 1 IntP Bs w vs s) (O:OwI C w vr r) (hsC:Bs≤C) (hC:C≤w.heap.size) (hr:r.length≤300000000) {x:Int} (hs:s=r++[x]) (ha:0≤a∧a≤1024) (hx0:x=1):Calls Tryz.prog 46 #[.agg #[v1,v2,v3,v4],.agg #[.int .i64 f.pa,u1,u2,u3,u4],.agg #[.int .i64 21,.int .i64 a,.int .i64 b],vs,vr] w (EfOk C (r++[2+2*a]) w):=by
 obtain ⟨⟨a1,d1,rfl⟩,⟨a2,d2,rfl⟩,⟨a3,d3,rfl⟩,a4,d4,rfl⟩:=fm4 P
 obtain ⟨⟨b1,x1,rfl⟩,⟨b2,x2,rfl⟩,b3,x3,rfl⟩:=fm3 s1 s2 s3
 have R:=Rx.new (i:=⟨21,a,b⟩) (u4:=u4) P hB s1 s2 s3
 dsimp only at R
 obtain ⟨W1,hW1⟩:=exR R
 rw [hW1] at R
 obtain ⟨c00,c01,c02,c03⟩:=R.c0
 obtain ⟨c10,c11,c12,c13⟩:=R.c1
 obtain ⟨c20,c21,c22⟩:=R.c2
 obtain ⟨l0,l1,l2⟩:=R.lt
 dsimp only at c20 c21 c22
 have HR:=hide R
 clear P s1 s2 s3
 have b1:=R.bel
 obtain ⟨sa,ds,hvs⟩:=sl_form Rs
 obtain ⟨ar,dr,hvr⟩:=O.form
 subst hvs hvr
 have Rs1:SlAt 1 IntP Bs W1 (.slice sa s.length ds) s:=ints_keep (Nat.le_refl _) (fun j hj=>b1.block j (by omega)) Rs
 have HO:=hide (O.up b1)
 have HRS:=hide Rs1
 have HWC:=hide (show Below C w W1 from b1.mono hC)
 have hC1:C≤W1.heap.size:=Nat.le_trans hC b1.size
 clear Rs O b1 R
 obtain ⟨L,hL⟩ : ∃ L,s.length=L:=⟨_,rfl⟩
 obtain ⟨q,hq⟩ : ∃ q,L - 1=q:=⟨_,rfl⟩
 have hLr:L=r.length+1:=by rw [← hL,hs];simp
 have hy:s[q]?=some x:=by rw [hs,← hq,hLr,List.getElem?_append_right (by omega)];simp
 obtain ⟨g,o,c,hv,hg,hcy,_,_⟩:=il_at Rs1 hy
 cases hv
 rw [hL] at HRS ⊢
 have hgw:=Nat.lt_of_lt_of_le hg (Nat.le_trans hsC hC1)
 have hql:q<L:=by omega
 have dq:decide (q<L)=true:=by simpa using hql
 have dL:decide (0<L)=true:=by simp;omega
 have dL2:decide ((0:Int)<(L:Int))=true:=by simp;omega
 have hwq:IntKind.i64.wrap ((L:Int) - 1)=(q:Int):=by
  rw [show (L:Int) - 1=(q:Int) by omega]
  exact wrap_nat (by omega)
 clear hLr hy hs hL hq
 have hw1:IntKind.i64.wrap (2*a)=2*a:=wrapI (by omega) (by omega)
 have hw2:IntKind.i64.wrap (2+2*a)=2+2*a:=wrapI (by omega) (by omega)
 have e0:(x == 1)=true:=by simp [hx0]
 obtain ⟨a8,c8,W8,r1,q1,q2⟩:=HO.out.put [2+2*a] (fun z hz=>by simp at hz;subst hz;exact ⟨by omega,by omega⟩) (by simp;omega) (by simp) hC1
 have HQ1:=hide q1
 have HQ2:=hide (HWC.out.trans q2)
 clear q1 q2
 have r1:(Builtin.append_ #[37,37] 37 #[.slice ar r.length dr,.slice (some ⟨W1.heap.size,0,none⟩) 1 1]).run Tryz.prog (W1.alloc (.cells #[.int .i64 (2+2*a)] 3))=.ok (.slice a8 (r++[2+2*a]).length c8) W8:=r1
 have HKD:=hide (rkt_any (w:=W8) a8 (r.length+1) c8)
 go_enter Tryz.func46,Tryz.ntmps46
 go_wp2_with (at_builtin;(refine wpList_append_eq rfl _ _ 37 37 rfl rfl rfl r1 ?_;clear r1))
 refine HKD.out.mono ?_
 rintro e w9 ⟨rfl,rfl⟩
 go_wp2_with fail
 go_ret2
 exact ⟨HQ2.out,a8,c8,by rw [List.length_append];rfl,HQ1.out⟩
theorem ob_21f (P:PgAt B w v1 v2 v3 v4 p) (hB:B≤w.heap.size) (s1:SlAt 1 IntP B w u1 f.lo) (s2:SlAt 1 IntP B w u2 f.re) (s3:SlAt 1 IntP B w u3 f.ar) (Rs:SlAt 1 IntP Bs w vs s) (O:OwI C w vr r) (hsC:Bs≤C) (hC:C≤w.heap.size) (hr:r.length≤300000000) {x:Int} (hs:s=r++[x]) (ha:0≤a∧a≤1024) (hx0:¬ x=1):Calls Tryz.prog 46 #[.agg #[v1,v2,v3,v4],.agg #[.int .i64 f.pa,u1,u2,u3,u4],.agg #[.int .i64 21,.int .i64 a,.int .i64 b],vs,vr] w (EfNo C 8 w):=by
 obtain ⟨⟨a1,d1,rfl⟩,⟨a2,d2,rfl⟩,⟨a3,d3,rfl⟩,a4,d4,rfl⟩:=fm4 P
 obtain ⟨⟨b1,x1,rfl⟩,⟨b2,x2,rfl⟩,b3,x3,rfl⟩:=fm3 s1 s2 s3
 have R:=Rx.new (i:=⟨21,a,b⟩) (u4:=u4) P hB s1 s2 s3
 dsimp only at R
 obtain ⟨W1,hW1⟩:=exR R
 rw [hW1] at R
 obtain ⟨c00,c01,c02,c03⟩:=R.c0
 obtain ⟨c10,c11,c12,c13⟩:=R.c1
 obtain ⟨c20,c21,c22⟩:=R.c2
 obtain ⟨l0,l1,l2⟩:=R.lt
 dsimp only at c20 c21 c22
 have HR:=hide R
 clear P s1 s2 s3
 have b1:=R.bel
 obtain ⟨sa,ds,hvs⟩:=sl_form Rs
 obtain ⟨ar,dr,hvr⟩:=O.form
 subst hvs hvr
 have Rs1:SlAt 1 IntP Bs W1 (.slice sa s.length ds) s:=ints_keep (Nat.le_refl _) (fun j hj=>b1.block j (by omega)) Rs
 have HO:=hide (O.up b1)
 have HRS:=hide Rs1
 have HWC:=hide (show Below C w W1 from b1.mono hC)
 have hC1:C≤W1.heap.size:=Nat.le_trans hC b1.size
 clear Rs O b1 R
 obtain ⟨L,hL⟩ : ∃ L,s.length=L:=⟨_,rfl⟩
 obtain ⟨q,hq⟩ : ∃ q,L - 1=q:=⟨_,rfl⟩
 have hLr:L=r.length+1:=by rw [← hL,hs];simp
 have hy:s[q]?=some x:=by rw [hs,← hq,hLr,List.getElem?_append_right (by omega)];simp
 obtain ⟨g,o,c,hv,hg,hcy,_,_⟩:=il_at Rs1 hy
 cases hv
 rw [hL] at HRS ⊢
 have hgw:=Nat.lt_of_lt_of_le hg (Nat.le_trans hsC hC1)
 have hql:q<L:=by omega
 have dq:decide (q<L)=true:=by simpa using hql
 have dL:decide (0<L)=true:=by simp;omega
 have dL2:decide ((0:Int)<(L:Int))=true:=by simp;omega
 have hwq:IntKind.i64.wrap ((L:Int) - 1)=(q:Int):=by
  rw [show (L:Int) - 1=(q:Int) by omega]
  exact wrap_nat (by omega)
 clear hLr hy hs hL hq
 have hw1:IntKind.i64.wrap (2*a)=2*a:=wrapI (by omega) (by omega)
 have hw2:IntKind.i64.wrap (2+2*a)=2+2*a:=wrapI (by omega) (by omega)
 have e0:(x == 1)=false:=by simpa using hx0
 obtain ⟨a8,c8,W8,r1,q1,q2⟩:=HO.out.put [2+2*a] (fun z hz=>by simp at hz;subst hz;exact ⟨by omega,by omega⟩) (by simp;omega) (by simp) hC1
 have HQ1:=hide q1
 have HQ2:=hide (HWC.out.trans q2)
 clear q1 q2
 have r1:(Builtin.append_ #[37,37] 37 #[.slice ar r.length dr,.slice (some ⟨W1.heap.size,0,none⟩) 1 1]).run Tryz.prog (W1.alloc (.cells #[.int .i64 (2+2*a)] 3))=.ok (.slice a8 (r++[2+2*a]).length c8) W8:=r1
 have HKD:=hide (rkf_any (w:=W8) a8 (r.length+1) c8)
 go_enter Tryz.func46,Tryz.ntmps46
 go_wp2_with (at_builtin;(refine wpList_append_eq rfl _ _ 37 37 rfl rfl rfl r1 ?_;clear r1))
 refine HKD.out.mono ?_
 rintro e w9 ⟨rfl,rfl⟩
 go_wp2_with fail
 go_ret2
 exact ⟨HQ2.out,rfl⟩
theorem ob_18t (P:PgAt B w v1 v2 v3 v4 p) (hB:B≤w.heap.size) (s1:SlAt 1 IntP B w u1 f.lo) (s2:SlAt 1 IntP B w u2 f.re) (s3:SlAt 1 IntP B w u3 f.ar) (Rs:SlAt 1 IntP Bs w vs s) (O:OwI C w vr r) (hsC:Bs≤C) (hC:C≤w.heap.size) (hr:r.length≤300000000) {x:Int} (hs:s=r++[x]) (hkx : -1≤x∧x≤2000000) (hx0:arrB x=true):Calls Tryz.prog 46 #[.agg #[v1,v2,v3,v4],.agg #[.int .i64 f.pa,u1,u2,u3,u4],.agg #[.int .i64 18,.int .i64 a,.int .i64 b],vs,vr] w (EfOk C (r++[0]) w):=by
 obtain ⟨⟨a1,d1,rfl⟩,⟨a2,d2,rfl⟩,⟨a3,d3,rfl⟩,a4,d4,rfl⟩:=fm4 P
 obtain ⟨⟨b1,x1,rfl⟩,⟨b2,x2,rfl⟩,b3,x3,rfl⟩:=fm3 s1 s2 s3
 have R:=Rx.new (i:=⟨18,a,b⟩) (u4:=u4) P hB s1 s2 s3
 dsimp only at R
 obtain ⟨W1,hW1⟩:=exR R
 rw [hW1] at R
 obtain ⟨c00,c01,c02,c03⟩:=R.c0
 obtain ⟨c10,c11,c12,c13⟩:=R.c1
 obtain ⟨c20,c21,c22⟩:=R.c2
 obtain ⟨l0,l1,l2⟩:=R.lt
 dsimp only at c20 c21 c22
 have HR:=hide R
 clear P s1 s2 s3
 have b1:=R.bel
 obtain ⟨sa,ds,hvs⟩:=sl_form Rs
 obtain ⟨ar,dr,hvr⟩:=O.form
 subst hvs hvr
 have Rs1:SlAt 1 IntP Bs W1 (.slice sa s.length ds) s:=ints_keep (Nat.le_refl _) (fun j hj=>b1.block j (by omega)) Rs
 have HO:=hide (O.up b1)
 have HRS:=hide Rs1
 have HWC:=hide (show Below C w W1 from b1.mono hC)
 have hC1:C≤W1.heap.size:=Nat.le_trans hC b1.size
 clear Rs O b1 R
 obtain ⟨L,hL⟩ : ∃ L,s.length=L:=⟨_,rfl⟩
 obtain ⟨q,hq⟩ : ∃ q,L - 1=q:=⟨_,rfl⟩
 have hLr:L=r.length+1:=by rw [← hL,hs];simp
 have hy:s[q]?=some x:=by rw [hs,← hq,hLr,List.getElem?_append_right (by omega)];simp
 obtain ⟨g,o,c,hv,hg,hcy,_,_⟩:=il_at Rs1 hy
 cases hv
 rw [hL] at HRS ⊢
 have hgw:=Nat.lt_of_lt_of_le hg (Nat.le_trans hsC hC1)
 have hql:q<L:=by omega
 have dq:decide (q<L)=true:=by simpa using hql
 have dL:decide (0<L)=true:=by simp;omega
 have dL2:decide ((0:Int)<(L:Int))=true:=by simp;omega
 have hwq:IntKind.i64.wrap ((L:Int) - 1)=(q:Int):=by
  rw [show (L:Int) - 1=(q:Int) by omega]
  exact wrap_nat (by omega)
 clear hLr hy hs hL hq
 have HAR:=hide (rarr_any W1 hkx)
 rw [hx0] at HAR
 obtain ⟨a8,c8,W8,r1,q1,q2⟩:=HO.out.put [0] (fun z hz=>by simp at hz;subst hz;exact ⟨by decide,by decide⟩) (by simp;omega) (by simp) hC1
 have HQ1:=hide q1
 have HQ2:=hide (HWC.out.trans q2)
 clear q1 q2
 have r1:(Builtin.append_ #[37,37] 37 #[.slice ar r.length dr,.slice (some ⟨W1.heap.size,0,none⟩) 1 1]).run Tryz.prog (W1.alloc (.cells #[.int .i64 (0)] 3))=.ok (.slice a8 (r++[0]).length c8) W8:=r1
 have HKD:=hide (rkt_any (w:=W8) a8 (r.length+1) c8)
 go_enter Tryz.func46,Tryz.ntmps46
 go_wp2_with fail
 refine HAR.out.mono ?_
 rintro e w5 ⟨rfl,hw5⟩
 subst hw5
 go_wp2_with (at_builtin;(refine wpList_append_eq rfl _ _ 37 37 rfl rfl rfl r1 ?_;clear r1))
 refine HKD.out.mono ?_
 rintro e w9 ⟨rfl,rfl⟩
 go_wp2_with fail
 go_ret2
 exact ⟨HQ2.out,a8,c8,by rw [List.length_append];rfl,HQ1.out⟩
theorem ob_18f (P:PgAt B w v1 v2 v3 v4 p) (hB:B≤w.heap.size) (s1:SlAt 1 IntP B w u1 f.lo) (s2:SlAt 1 IntP B w u2 f.re) (s3:SlAt 1 IntP B w u3 f.ar) (Rs:SlAt 1 IntP Bs w vs s) (O:OwI C w vr r) (hsC:Bs≤C) (hC:C≤w.heap.size) (hr:r.length≤300000000) {x:Int} (hs:s=r++[x]) (hkx : -1≤x∧x≤2000000) (hx0:arrB x=false):Calls Tryz.prog 46 #[.agg #[v1,v2,v3,v4],.agg #[.int .i64 f.pa,u1,u2,u3,u4],.agg #[.int .i64 18,.int .i64 a,.int .i64 b],vs,vr] w (EfNo C 8 w):=by
 obtain ⟨⟨a1,d1,rfl⟩,⟨a2,d2,rfl⟩,⟨a3,d3,rfl⟩,a4,d4,rfl⟩:=fm4 P
 obtain ⟨⟨b1,x1,rfl⟩,⟨b2,x2,rfl⟩,b3,x3,rfl⟩:=fm3 s1 s2 s3
 have R:=Rx.new (i:=⟨18,a,b⟩) (u4:=u4) P hB s1 s2 s3
 dsimp only at R
 obtain ⟨W1,hW1⟩:=exR R
 rw [hW1] at R
 obtain ⟨c00,c01,c02,c03⟩:=R.c0
 obtain ⟨c10,c11,c12,c13⟩:=R.c1
 obtain ⟨c20,c21,c22⟩:=R.c2
 obtain ⟨l0,l1,l2⟩:=R.lt
 dsimp only at c20 c21 c22
 have HR:=hide R
 clear P s1 s2 s3
 have b1:=R.bel
 obtain ⟨sa,ds,hvs⟩:=sl_form Rs
 obtain ⟨ar,dr,hvr⟩:=O.form
 subst hvs hvr
 have Rs1:SlAt 1 IntP Bs W1 (.slice sa s.length ds) s:=ints_keep (Nat.le_refl _) (fun j hj=>b1.block j (by omega)) Rs
 have HO:=hide (O.up b1)
 have HRS:=hide Rs1
 have HWC:=hide (show Below C w W1 from b1.mono hC)
 have hC1:C≤W1.heap.size:=Nat.le_trans hC b1.size
 clear Rs O b1 R
 obtain ⟨L,hL⟩ : ∃ L,s.length=L:=⟨_,rfl⟩
 obtain ⟨q,hq⟩ : ∃ q,L - 1=q:=⟨_,rfl⟩
 have hLr:L=r.length+1:=by rw [← hL,hs];simp
 have hy:s[q]?=some x:=by rw [hs,← hq,hLr,List.getElem?_append_right (by omega)];simp
 obtain ⟨g,o,c,hv,hg,hcy,_,_⟩:=il_at Rs1 hy
 cases hv
 rw [hL] at HRS ⊢
 have hgw:=Nat.lt_of_lt_of_le hg (Nat.le_trans hsC hC1)
 have hql:q<L:=by omega
 have dq:decide (q<L)=true:=by simpa using hql
 have dL:decide (0<L)=true:=by simp;omega
 have dL2:decide ((0:Int)<(L:Int))=true:=by simp;omega
 have hwq:IntKind.i64.wrap ((L:Int) - 1)=(q:Int):=by
  rw [show (L:Int) - 1=(q:Int) by omega]
  exact wrap_nat (by omega)
 clear hLr hy hs hL hq
 have HAR:=hide (rarr_any W1 hkx)
 rw [hx0] at HAR
 obtain ⟨a8,c8,W8,r1,q1,q2⟩:=HO.out.put [0] (fun z hz=>by simp at hz;subst hz;exact ⟨by decide,by decide⟩) (by simp;omega) (by simp) hC1
 have HQ1:=hide q1
 have HQ2:=hide (HWC.out.trans q2)
 clear q1 q2
 have r1:(Builtin.append_ #[37,37] 37 #[.slice ar r.length dr,.slice (some ⟨W1.heap.size,0,none⟩) 1 1]).run Tryz.prog (W1.alloc (.cells #[.int .i64 (0)] 3))=.ok (.slice a8 (r++[0]).length c8) W8:=r1
 have HKD:=hide (rkf_any (w:=W8) a8 (r.length+1) c8)
 go_enter Tryz.func46,Tryz.ntmps46
 go_wp2_with fail
 refine HAR.out.mono ?_
 rintro e w5 ⟨rfl,hw5⟩
 subst hw5
 go_wp2_with (at_builtin;(refine wpList_append_eq rfl _ _ 37 37 rfl rfl rfl r1 ?_;clear r1))
 refine HKD.out.mono ?_
 rintro e w9 ⟨rfl,rfl⟩
 go_wp2_with fail
 go_ret2
 exact ⟨HQ2.out,rfl⟩
theorem ob_17t (P:PgAt B w v1 v2 v3 v4 p) (hB:B≤w.heap.size) (s1:SlAt 1 IntP B w u1 f.lo) (s2:SlAt 1 IntP B w u2 f.re) (s3:SlAt 1 IntP B w u3 f.ar) (Rs:SlAt 1 IntP Bs w vs s) (O:OwI C w vr r) (hsC:Bs≤C) (hC:C≤w.heap.size) (hr:r.length≤300000000) {x y:Int} (hs:s=r++[x,y]) (hkx : -1≤x∧x≤2000000) (hy0:y=0) (hx0:arrB x=true):Calls Tryz.prog 46 #[.agg #[v1,v2,v3,v4],.agg #[.int .i64 f.pa,u1,u2,u3,u4],.agg #[.int .i64 17,.int .i64 a,.int .i64 b],vs,vr] w (EfOk C (r++[x - 1]) w):=by
 obtain ⟨⟨a1,d1,rfl⟩,⟨a2,d2,rfl⟩,⟨a3,d3,rfl⟩,a4,d4,rfl⟩:=fm4 P
 obtain ⟨⟨b1,x1,rfl⟩,⟨b2,x2,rfl⟩,b3,x3,rfl⟩:=fm3 s1 s2 s3
 have R:=Rx.new (i:=⟨17,a,b⟩) (u4:=u4) P hB s1 s2 s3
 dsimp only at R
 obtain ⟨W1,hW1⟩:=exR R
 rw [hW1] at R
 obtain ⟨c00,c01,c02,c03⟩:=R.c0
 obtain ⟨c10,c11,c12,c13⟩:=R.c1
 obtain ⟨c20,c21,c22⟩:=R.c2
 obtain ⟨l0,l1,l2⟩:=R.lt
 dsimp only at c20 c21 c22
 have HR:=hide R
 clear P s1 s2 s3
 have b1:=R.bel
 obtain ⟨sa,ds,hvs⟩:=sl_form Rs
 obtain ⟨ar,dr,hvr⟩:=O.form
 subst hvs hvr
 have Rs1:SlAt 1 IntP Bs W1 (.slice sa s.length ds) s:=ints_keep (Nat.le_refl _) (fun j hj=>b1.block j (by omega)) Rs
 have HO:=hide (O.up b1)
 have HRS:=hide Rs1
 have HWC:=hide (show Below C w W1 from b1.mono hC)
 have hC1:C≤W1.heap.size:=Nat.le_trans hC b1.size
 clear Rs O b1 R
 obtain ⟨L,hL⟩ : ∃ L,s.length=L:=⟨_,rfl⟩
 obtain ⟨q,hq⟩ : ∃ q,L - 1=q:=⟨_,rfl⟩
 have hLr:L=r.length+2:=by rw [← hL,hs];simp
 have hy:s[q]?=some y:=by rw [hs,← hq,hLr,List.getElem?_append_right (by omega)];simp
 have hx:s[r.length]?=some x:=by rw [hs,List.getElem?_append_right (by omega)];simp
 obtain ⟨g',o',c',hv',hg',hcx,_,_⟩:=il_at Rs1 hx
 obtain ⟨g,o,c,hv,hg,hcy,_,_⟩:=il_at Rs1 hy
 cases hv'
 cases hv
 rw [hL] at HRS ⊢
 have hgw:=Nat.lt_of_lt_of_le hg (Nat.le_trans hsC hC1)
 have hql:q<L:=by omega
 have dq:decide (q<L)=true:=by simpa using hql
 have dL:decide (0<L)=true:=by simp;omega
 have dL2:decide ((0:Int)<(L:Int))=true:=by simp;omega
 have hwq:IntKind.i64.wrap ((L:Int) - 1)=(q:Int):=by
  rw [show (L:Int) - 1=(q:Int) by omega]
  exact wrap_nat (by omega)
 have hrl:r.length<L:=by omega
 have drl:decide (r.length<L)=true:=by simpa using hrl
 clear hLr hy hs hL hq hx
 have ey:(y == 0)=true:=by simp [hy0]
 have hw1:IntKind.i64.wrap (x - 1)=x - 1:=wrapI (by omega) (by omega)
 have HAR:=hide (rarr_any W1 hkx)
 rw [hx0] at HAR
 obtain ⟨a8,c8,W8,r1,q1,q2⟩:=HO.out.put [x - 1] (fun z hz=>by simp at hz;subst hz;exact ⟨by omega,by omega⟩) (by simp;omega) (by simp) hC1
 have HQ1:=hide q1
 have HQ2:=hide (HWC.out.trans q2)
 clear q1 q2
 have r1:(Builtin.append_ #[37,37] 37 #[.slice ar r.length dr,.slice (some ⟨W1.heap.size,0,none⟩) 1 1]).run Tryz.prog (W1.alloc (.cells #[.int .i64 (x - 1)] 3))=.ok (.slice a8 (r++[x - 1]).length c8) W8:=r1
 have HKD:=hide (rkt_any (w:=W8) a8 (r.length+1) c8)
 go_enter Tryz.func46,Tryz.ntmps46
 go_wp2_with fail
 refine HAR.out.mono ?_
 rintro e w5 ⟨rfl,hw5⟩
 subst hw5
 go_wp2_with (at_builtin;(refine wpList_append_eq rfl _ _ 37 37 rfl rfl rfl r1 ?_;clear r1))
 refine HKD.out.mono ?_
 rintro e w9 ⟨rfl,rfl⟩
 go_wp2_with fail
 go_ret2
 exact ⟨HQ2.out,a8,c8,by rw [List.length_append];rfl,HQ1.out⟩
theorem ob_17f (P:PgAt B w v1 v2 v3 v4 p) (hB:B≤w.heap.size) (s1:SlAt 1 IntP B w u1 f.lo) (s2:SlAt 1 IntP B w u2 f.re) (s3:SlAt 1 IntP B w u3 f.ar) (Rs:SlAt 1 IntP Bs w vs s) (O:OwI C w vr r) (hsC:Bs≤C) (hC:C≤w.heap.size) (hr:r.length≤300000000) {x y:Int} (hs:s=r++[x,y]) (hkx : -1≤x∧x≤2000000) (hy0:y=0) (hx0:arrB x=false):Calls Tryz.prog 46 #[.agg #[v1,v2,v3,v4],.agg #[.int .i64 f.pa,u1,u2,u3,u4],.agg #[.int .i64 17,.int .i64 a,.int .i64 b],vs,vr] w (EfNo C 8 w):=by
 obtain ⟨⟨a1,d1,rfl⟩,⟨a2,d2,rfl⟩,⟨a3,d3,rfl⟩,a4,d4,rfl⟩:=fm4 P
 obtain ⟨⟨b1,x1,rfl⟩,⟨b2,x2,rfl⟩,b3,x3,rfl⟩:=fm3 s1 s2 s3
 have R:=Rx.new (i:=⟨17,a,b⟩) (u4:=u4) P hB s1 s2 s3
 dsimp only at R
 obtain ⟨W1,hW1⟩:=exR R
 rw [hW1] at R
 obtain ⟨c00,c01,c02,c03⟩:=R.c0
 obtain ⟨c10,c11,c12,c13⟩:=R.c1
 obtain ⟨c20,c21,c22⟩:=R.c2
 obtain ⟨l0,l1,l2⟩:=R.lt
 dsimp only at c20 c21 c22
 have HR:=hide R
 clear P s1 s2 s3
 have b1:=R.bel
 obtain ⟨sa,ds,hvs⟩:=sl_form Rs
 obtain ⟨ar,dr,hvr⟩:=O.form
 subst hvs hvr
 have Rs1:SlAt 1 IntP Bs W1 (.slice sa s.length ds) s:=ints_keep (Nat.le_refl _) (fun j hj=>b1.block j (by omega)) Rs
 have HO:=hide (O.up b1)
 have HRS:=hide Rs1
 have HWC:=hide (show Below C w W1 from b1.mono hC)
 have hC1:C≤W1.heap.size:=Nat.le_trans hC b1.size
 clear Rs O b1 R
 obtain ⟨L,hL⟩ : ∃ L,s.length=L:=⟨_,rfl⟩
 obtain ⟨q,hq⟩ : ∃ q,L - 1=q:=⟨_,rfl⟩
 have hLr:L=r.length+2:=by rw [← hL,hs];simp
 have hy:s[q]?=some y:=by rw [hs,← hq,hLr,List.getElem?_append_right (by omega)];simp
 have hx:s[r.length]?=some x:=by rw [hs,List.getElem?_append_right (by omega)];simp
 obtain ⟨g',o',c',hv',hg',hcx,_,_⟩:=il_at Rs1 hx
 obtain ⟨g,o,c,hv,hg,hcy,_,_⟩:=il_at Rs1 hy
 cases hv'
 cases hv
 rw [hL] at HRS ⊢
 have hgw:=Nat.lt_of_lt_of_le hg (Nat.le_trans hsC hC1)
 have hql:q<L:=by omega
 have dq:decide (q<L)=true:=by simpa using hql
 have dL:decide (0<L)=true:=by simp;omega
 have dL2:decide ((0:Int)<(L:Int))=true:=by simp;omega
 have hwq:IntKind.i64.wrap ((L:Int) - 1)=(q:Int):=by
  rw [show (L:Int) - 1=(q:Int) by omega]
  exact wrap_nat (by omega)
 have hrl:r.length<L:=by omega
 have drl:decide (r.length<L)=true:=by simpa using hrl
 clear hLr hy hs hL hq hx
 have ey:(y == 0)=true:=by simp [hy0]
 have hw1:IntKind.i64.wrap (x - 1)=x - 1:=wrapI (by omega) (by omega)
 have HAR:=hide (rarr_any W1 hkx)
 rw [hx0] at HAR
 obtain ⟨a8,c8,W8,r1,q1,q2⟩:=HO.out.put [x - 1] (fun z hz=>by simp at hz;subst hz;exact ⟨by omega,by omega⟩) (by simp;omega) (by simp) hC1
 have HQ1:=hide q1
 have HQ2:=hide (HWC.out.trans q2)
 clear q1 q2
 have r1:(Builtin.append_ #[37,37] 37 #[.slice ar r.length dr,.slice (some ⟨W1.heap.size,0,none⟩) 1 1]).run Tryz.prog (W1.alloc (.cells #[.int .i64 (x - 1)] 3))=.ok (.slice a8 (r++[x - 1]).length c8) W8:=r1
 have HKD:=hide (rkf_any (w:=W8) a8 (r.length+1) c8)
 go_enter Tryz.func46,Tryz.ntmps46
 go_wp2_with fail
 refine HAR.out.mono ?_
 rintro e w5 ⟨rfl,hw5⟩
 subst hw5
 go_wp2_with (at_builtin;(refine wpList_append_eq rfl _ _ 37 37 rfl rfl rfl r1 ?_;clear r1))
 refine HKD.out.mono ?_
 rintro e w9 ⟨rfl,rfl⟩
 go_wp2_with fail
 go_ret2
 exact ⟨HQ2.out,rfl⟩
theorem ob_17y (P:PgAt B w v1 v2 v3 v4 p) (hB:B≤w.heap.size) (s1:SlAt 1 IntP B w u1 f.lo) (s2:SlAt 1 IntP B w u2 f.re) (s3:SlAt 1 IntP B w u3 f.ar) (Rs:SlAt 1 IntP Bs w vs s) (O:OwI C w vr r) (hsC:Bs≤C) (hC:C≤w.heap.size) (hr:r.length≤300000000) {x y:Int} (hs:s=r++[x,y]) (hkx : -1≤x∧x≤2000000) (hy0:¬ y=0):Calls Tryz.prog 46 #[.agg #[v1,v2,v3,v4],.agg #[.int .i64 f.pa,u1,u2,u3,u4],.agg #[.int .i64 17,.int .i64 a,.int .i64 b],vs,vr] w (EfNo C 8 w):=by
 obtain ⟨⟨a1,d1,rfl⟩,⟨a2,d2,rfl⟩,⟨a3,d3,rfl⟩,a4,d4,rfl⟩:=fm4 P
 obtain ⟨⟨b1,x1,rfl⟩,⟨b2,x2,rfl⟩,b3,x3,rfl⟩:=fm3 s1 s2 s3
 have R:=Rx.new (i:=⟨17,a,b⟩) (u4:=u4) P hB s1 s2 s3
 dsimp only at R
 obtain ⟨W1,hW1⟩:=exR R
 rw [hW1] at R
 obtain ⟨c00,c01,c02,c03⟩:=R.c0
 obtain ⟨c10,c11,c12,c13⟩:=R.c1
 obtain ⟨c20,c21,c22⟩:=R.c2
 obtain ⟨l0,l1,l2⟩:=R.lt
 dsimp only at c20 c21 c22
 have HR:=hide R
 clear P s1 s2 s3
 have b1:=R.bel
 obtain ⟨sa,ds,hvs⟩:=sl_form Rs
 obtain ⟨ar,dr,hvr⟩:=O.form
 subst hvs hvr
 have Rs1:SlAt 1 IntP Bs W1 (.slice sa s.length ds) s:=ints_keep (Nat.le_refl _) (fun j hj=>b1.block j (by omega)) Rs
 have HO:=hide (O.up b1)
 have HRS:=hide Rs1
 have HWC:=hide (show Below C w W1 from b1.mono hC)
 have hC1:C≤W1.heap.size:=Nat.le_trans hC b1.size
 clear Rs O b1 R
 obtain ⟨L,hL⟩ : ∃ L,s.length=L:=⟨_,rfl⟩
 obtain ⟨q,hq⟩ : ∃ q,L - 1=q:=⟨_,rfl⟩
 have hLr:L=r.length+2:=by rw [← hL,hs];simp
 have hy:s[q]?=some y:=by rw [hs,← hq,hLr,List.getElem?_append_right (by omega)];simp
 have hx:s[r.length]?=some x:=by rw [hs,List.getElem?_append_right (by omega)];simp
 obtain ⟨g',o',c',hv',hg',hcx,_,_⟩:=il_at Rs1 hx
 obtain ⟨g,o,c,hv,hg,hcy,_,_⟩:=il_at Rs1 hy
 cases hv'
 cases hv
 rw [hL] at HRS ⊢
 have hgw:=Nat.lt_of_lt_of_le hg (Nat.le_trans hsC hC1)
 have hql:q<L:=by omega
 have dq:decide (q<L)=true:=by simpa using hql
 have dL:decide (0<L)=true:=by simp;omega
 have dL2:decide ((0:Int)<(L:Int))=true:=by simp;omega
 have hwq:IntKind.i64.wrap ((L:Int) - 1)=(q:Int):=by
  rw [show (L:Int) - 1=(q:Int) by omega]
  exact wrap_nat (by omega)
 have hrl:r.length<L:=by omega
 have drl:decide (r.length<L)=true:=by simpa using hrl
 clear hLr hy hs hL hq hx
 have ey:(y == 0)=false:=by simpa using hy0
 have hw1:IntKind.i64.wrap (x - 1)=x - 1:=wrapI (by omega) (by omega)
 obtain ⟨a8,c8,W8,r1,q1,q2⟩:=HO.out.put [x - 1] (fun z hz=>by simp at hz;subst hz;exact ⟨by omega,by omega⟩) (by simp;omega) (by simp) hC1
 have HQ1:=hide q1
 have HQ2:=hide (HWC.out.trans q2)
 clear q1 q2
 have r1:(Builtin.append_ #[37,37] 37 #[.slice ar r.length dr,.slice (some ⟨W1.heap.size,0,none⟩) 1 1]).run Tryz.prog (W1.alloc (.cells #[.int .i64 (x - 1)] 3))=.ok (.slice a8 (r++[x - 1]).length c8) W8:=r1
 have HKD:=hide (rkf_any (w:=W8) a8 (r.length+1) c8)
 go_enter Tryz.func46,Tryz.ntmps46
 go_wp2_with (at_builtin;(refine wpList_append_eq rfl _ _ 37 37 rfl rfl rfl r1 ?_;clear r1))
 refine HKD.out.mono ?_
 rintro e w9 ⟨rfl,rfl⟩
 go_wp2_with fail
 go_ret2
 exact ⟨HQ2.out,rfl⟩
theorem ob_19t (P:PgAt B w v1 v2 v3 v4 p) (hB:B≤w.heap.size) (s1:SlAt 1 IntP B w u1 f.lo) (s2:SlAt 1 IntP B w u2 f.re) (s3:SlAt 1 IntP B w u3 f.ar) (Rs:SlAt 1 IntP Bs w vs s) (O:OwI C w vr r) (hsC:Bs≤C) (hC:C≤w.heap.size) (hr:r.length≤300000000) {x:Int} (hs:s=r++[x]) (hkx : -1≤x∧x≤2000000) (hx0:ptrB x=true) (hx1:x<1048576):Calls Tryz.prog 46 #[.agg #[v1,v2,v3,v4],.agg #[.int .i64 f.pa,u1,u2,u3,u4],.agg #[.int .i64 19,.int .i64 a,.int .i64 b],vs,vr] w (EfOk C (r++[1]) w):=by
 obtain ⟨⟨a1,d1,rfl⟩,⟨a2,d2,rfl⟩,⟨a3,d3,rfl⟩,a4,d4,rfl⟩:=fm4 P
 obtain ⟨⟨b1,x1,rfl⟩,⟨b2,x2,rfl⟩,b3,x3,rfl⟩:=fm3 s1 s2 s3
 have R:=Rx.new (i:=⟨19,a,b⟩) (u4:=u4) P hB s1 s2 s3
 dsimp only at R
 obtain ⟨W1,hW1⟩:=exR R
 rw [hW1] at R
 obtain ⟨c00,c01,c02,c03⟩:=R.c0
 obtain ⟨c10,c11,c12,c13⟩:=R.c1
 obtain ⟨c20,c21,c22⟩:=R.c2
 obtain ⟨l0,l1,l2⟩:=R.lt
 dsimp only at c20 c21 c22
 have HR:=hide R
 clear P s1 s2 s3
 have b1:=R.bel
 obtain ⟨sa,ds,hvs⟩:=sl_form Rs
 obtain ⟨ar,dr,hvr⟩:=O.form
 subst hvs hvr
 have Rs1:SlAt 1 IntP Bs W1 (.slice sa s.length ds) s:=ints_keep (Nat.le_refl _) (fun j hj=>b1.block j (by omega)) Rs
 have HO:=hide (O.up b1)
 have HRS:=hide Rs1
 have HWC:=hide (show Below C w W1 from b1.mono hC)
 have hC1:C≤W1.heap.size:=Nat.le_trans hC b1.size
 clear Rs O b1 R
 obtain ⟨L,hL⟩ : ∃ L,s.length=L:=⟨_,rfl⟩
 obtain ⟨q,hq⟩ : ∃ q,L - 1=q:=⟨_,rfl⟩
 have hLr:L=r.length+1:=by rw [← hL,hs];simp
 have hy:s[q]?=some x:=by rw [hs,← hq,hLr,List.getElem?_append_right (by omega)];simp
 obtain ⟨g,o,c,hv,hg,hcy,_,_⟩:=il_at Rs1 hy
 cases hv
 rw [hL] at HRS ⊢
 have hgw:=Nat.lt_of_lt_of_le hg (Nat.le_trans hsC hC1)
 have hql:q<L:=by omega
 have dq:decide (q<L)=true:=by simpa using hql
 have dL:decide (0<L)=true:=by simp;omega
 have dL2:decide ((0:Int)<(L:Int))=true:=by simp;omega
 have hwq:IntKind.i64.wrap ((L:Int) - 1)=(q:Int):=by
  rw [show (L:Int) - 1=(q:Int) by omega]
  exact wrap_nat (by omega)
 clear hLr hy hs hL hq
 have HAR:=hide (rptr_any W1 hkx)
 rw [hx0] at HAR
 have e1:decide (x<1048576)=true:=by simpa using hx1
 obtain ⟨a8,c8,W8,r1,q1,q2⟩:=HO.out.put [1] (fun z hz=>by simp at hz;subst hz;exact ⟨by decide,by decide⟩) (by simp;omega) (by simp) hC1
 have HQ1:=hide q1
 have HQ2:=hide (HWC.out.trans q2)
 clear q1 q2
 have r1:(Builtin.append_ #[37,37] 37 #[.slice ar r.length dr,.slice (some ⟨W1.heap.size,0,none⟩) 1 1]).run Tryz.prog (W1.alloc (.cells #[.int .i64 (1)] 3))=.ok (.slice a8 (r++[1]).length c8) W8:=r1
 have HKD:=hide (rkt_any (w:=W8) a8 (r.length+1) c8)
 go_enter Tryz.func46,Tryz.ntmps46
 go_wp2_with fail
 refine HAR.out.mono ?_
 rintro e w5 ⟨rfl,hw5⟩
 subst hw5
 go_wp2_with (at_builtin;(refine wpList_append_eq rfl _ _ 37 37 rfl rfl rfl r1 ?_;clear r1))
 refine HKD.out.mono ?_
 rintro e w9 ⟨rfl,rfl⟩
 go_wp2_with fail
 go_ret2
 exact ⟨HQ2.out,a8,c8,by rw [List.length_append];rfl,HQ1.out⟩
theorem ob_19f (P:PgAt B w v1 v2 v3 v4 p) (hB:B≤w.heap.size) (s1:SlAt 1 IntP B w u1 f.lo) (s2:SlAt 1 IntP B w u2 f.re) (s3:SlAt 1 IntP B w u3 f.ar) (Rs:SlAt 1 IntP Bs w vs s) (O:OwI C w vr r) (hsC:Bs≤C) (hC:C≤w.heap.size) (hr:r.length≤300000000) {x:Int} (hs:s=r++[x]) (hkx : -1≤x∧x≤2000000) (hx0:ptrB x=true) (hx1:¬ x<1048576):Calls Tryz.prog 46 #[.agg #[v1,v2,v3,v4],.agg #[.int .i64 f.pa,u1,u2,u3,u4],.agg #[.int .i64 19,.int .i64 a,.int .i64 b],vs,vr] w (EfNo C 8 w):=by
 obtain ⟨⟨a1,d1,rfl⟩,⟨a2,d2,rfl⟩,⟨a3,d3,rfl⟩,a4,d4,rfl⟩:=fm4 P
 obtain ⟨⟨b1,x1,rfl⟩,⟨b2,x2,rfl⟩,b3,x3,rfl⟩:=fm3 s1 s2 s3
 have R:=Rx.new (i:=⟨19,a,b⟩) (u4:=u4) P hB s1 s2 s3
 dsimp only at R
 obtain ⟨W1,hW1⟩:=exR R
 rw [hW1] at R
 obtain ⟨c00,c01,c02,c03⟩:=R.c0
 obtain ⟨c10,c11,c12,c13⟩:=R.c1
 obtain ⟨c20,c21,c22⟩:=R.c2
 obtain ⟨l0,l1,l2⟩:=R.lt
 dsimp only at c20 c21 c22
 have HR:=hide R
 clear P s1 s2 s3
 have b1:=R.bel
 obtain ⟨sa,ds,hvs⟩:=sl_form Rs
 obtain ⟨ar,dr,hvr⟩:=O.form
 subst hvs hvr
 have Rs1:SlAt 1 IntP Bs W1 (.slice sa s.length ds) s:=ints_keep (Nat.le_refl _) (fun j hj=>b1.block j (by omega)) Rs
 have HO:=hide (O.up b1)
 have HRS:=hide Rs1
 have HWC:=hide (show Below C w W1 from b1.mono hC)
 have hC1:C≤W1.heap.size:=Nat.le_trans hC b1.size
 clear Rs O b1 R
 obtain ⟨L,hL⟩ : ∃ L,s.length=L:=⟨_,rfl⟩
 obtain ⟨q,hq⟩ : ∃ q,L - 1=q:=⟨_,rfl⟩
 have hLr:L=r.length+1:=by rw [← hL,hs];simp
 have hy:s[q]?=some x:=by rw [hs,← hq,hLr,List.getElem?_append_right (by omega)];simp
 obtain ⟨g,o,c,hv,hg,hcy,_,_⟩:=il_at Rs1 hy
 cases hv
 rw [hL] at HRS ⊢
 have hgw:=Nat.lt_of_lt_of_le hg (Nat.le_trans hsC hC1)
 have hql:q<L:=by omega
 have dq:decide (q<L)=true:=by simpa using hql
 have dL:decide (0<L)=true:=by simp;omega
 have dL2:decide ((0:Int)<(L:Int))=true:=by simp;omega
 have hwq:IntKind.i64.wrap ((L:Int) - 1)=(q:Int):=by
  rw [show (L:Int) - 1=(q:Int) by omega]
  exact wrap_nat (by omega)
 clear hLr hy hs hL hq
 have HAR:=hide (rptr_any W1 hkx)
 rw [hx0] at HAR
 have e1:decide (x<1048576)=false:=by simpa using hx1
 obtain ⟨a8,c8,W8,r1,q1,q2⟩:=HO.out.put [1] (fun z hz=>by simp at hz;subst hz;exact ⟨by decide,by decide⟩) (by simp;omega) (by simp) hC1
 have HQ1:=hide q1
 have HQ2:=hide (HWC.out.trans q2)
 clear q1 q2
 have r1:(Builtin.append_ #[37,37] 37 #[.slice ar r.length dr,.slice (some ⟨W1.heap.size,0,none⟩) 1 1]).run Tryz.prog (W1.alloc (.cells #[.int .i64 (1)] 3))=.ok (.slice a8 (r++[1]).length c8) W8:=r1
 have HKD:=hide (rkf_any (w:=W8) a8 (r.length+1) c8)
 go_enter Tryz.func46,Tryz.ntmps46
 go_wp2_with fail
 refine HAR.out.mono ?_
 rintro e w5 ⟨rfl,hw5⟩
 subst hw5
 go_wp2_with (at_builtin;(refine wpList_append_eq rfl _ _ 37 37 rfl rfl rfl r1 ?_;clear r1))
 refine HKD.out.mono ?_
 rintro e w9 ⟨rfl,rfl⟩
 go_wp2_with fail
 go_ret2
 exact ⟨HQ2.out,rfl⟩
theorem ob_19p (P:PgAt B w v1 v2 v3 v4 p) (hB:B≤w.heap.size) (s1:SlAt 1 IntP B w u1 f.lo) (s2:SlAt 1 IntP B w u2 f.re) (s3:SlAt 1 IntP B w u3 f.ar) (Rs:SlAt 1 IntP Bs w vs s) (O:OwI C w vr r) (hsC:Bs≤C) (hC:C≤w.heap.size) (hr:r.length≤300000000) {x:Int} (hs:s=r++[x]) (hkx : -1≤x∧x≤2000000) (hx0:ptrB x=false):Calls Tryz.prog 46 #[.agg #[v1,v2,v3,v4],.agg #[.int .i64 f.pa,u1,u2,u3,u4],.agg #[.int .i64 19,.int .i64 a,.int .i64 b],vs,vr] w (EfNo C 8 w):=by
 obtain ⟨⟨a1,d1,rfl⟩,⟨a2,d2,rfl⟩,⟨a3,d3,rfl⟩,a4,d4,rfl⟩:=fm4 P
 obtain ⟨⟨b1,x1,rfl⟩,⟨b2,x2,rfl⟩,b3,x3,rfl⟩:=fm3 s1 s2 s3
 have R:=Rx.new (i:=⟨19,a,b⟩) (u4:=u4) P hB s1 s2 s3
 dsimp only at R
 obtain ⟨W1,hW1⟩:=exR R
 rw [hW1] at R
 obtain ⟨c00,c01,c02,c03⟩:=R.c0
 obtain ⟨c10,c11,c12,c13⟩:=R.c1
 obtain ⟨c20,c21,c22⟩:=R.c2
 obtain ⟨l0,l1,l2⟩:=R.lt
 dsimp only at c20 c21 c22
 have HR:=hide R
 clear P s1 s2 s3
 have b1:=R.bel
 obtain ⟨sa,ds,hvs⟩:=sl_form Rs
 obtain ⟨ar,dr,hvr⟩:=O.form
 subst hvs hvr
 have Rs1:SlAt 1 IntP Bs W1 (.slice sa s.length ds) s:=ints_keep (Nat.le_refl _) (fun j hj=>b1.block j (by omega)) Rs
 have HO:=hide (O.up b1)
 have HRS:=hide Rs1
 have HWC:=hide (show Below C w W1 from b1.mono hC)
 have hC1:C≤W1.heap.size:=Nat.le_trans hC b1.size
 clear Rs O b1 R
 obtain ⟨L,hL⟩ : ∃ L,s.length=L:=⟨_,rfl⟩
 obtain ⟨q,hq⟩ : ∃ q,L - 1=q:=⟨_,rfl⟩
 have hLr:L=r.length+1:=by rw [← hL,hs];simp
 have hy:s[q]?=some x:=by rw [hs,← hq,hLr,List.getElem?_append_right (by omega)];simp
 obtain ⟨g,o,c,hv,hg,hcy,_,_⟩:=il_at Rs1 hy
 cases hv
 rw [hL] at HRS ⊢
 have hgw:=Nat.lt_of_lt_of_le hg (Nat.le_trans hsC hC1)
 have hql:q<L:=by omega
 have dq:decide (q<L)=true:=by simpa using hql
 have dL:decide (0<L)=true:=by simp;omega
 have dL2:decide ((0:Int)<(L:Int))=true:=by simp;omega
 have hwq:IntKind.i64.wrap ((L:Int) - 1)=(q:Int):=by
  rw [show (L:Int) - 1=(q:Int) by omega]
  exact wrap_nat (by omega)
 clear hLr hy hs hL hq
 have HAR:=hide (rptr_any W1 hkx)
 rw [hx0] at HAR
 obtain ⟨a8,c8,W8,r1,q1,q2⟩:=HO.out.put [1] (fun z hz=>by simp at hz;subst hz;exact ⟨by decide,by decide⟩) (by simp;omega) (by simp) hC1
 have HQ1:=hide q1
 have HQ2:=hide (HWC.out.trans q2)
 clear q1 q2
 have r1:(Builtin.append_ #[37,37] 37 #[.slice ar r.length dr,.slice (some ⟨W1.heap.size,0,none⟩) 1 1]).run Tryz.prog (W1.alloc (.cells #[.int .i64 (1)] 3))=.ok (.slice a8 (r++[1]).length c8) W8:=r1
 have HKD:=hide (rkf_any (w:=W8) a8 (r.length+1) c8)
 go_enter Tryz.func46,Tryz.ntmps46
 go_wp2_with fail
 refine HAR.out.mono ?_
 rintro e w5 ⟨rfl,hw5⟩
 subst hw5
 go_wp2_with (at_builtin;(refine wpList_append_eq rfl _ _ 37 37 rfl rfl rfl r1 ?_;clear r1))
 refine HKD.out.mono ?_
 rintro e w9 ⟨rfl,rfl⟩
 go_wp2_with fail
 go_ret2
 exact ⟨HQ2.out,rfl⟩
end
end Go.Proofs.YtkdojpnihinpbaaGreatDoor
