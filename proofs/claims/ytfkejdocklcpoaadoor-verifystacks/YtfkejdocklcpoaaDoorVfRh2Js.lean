/- The document's objects: loads, stores, addresses. -/
import Derived.Test.YtfkejdocklcpoaaDoorVfRgJs
import Derived.Test.YtfkejdocklcpoaaDoorVfAwJs
import Derived.Test.YtfkejdocklcpoaaDoorVfTk
namespace Go.Proofs.YtfkejdocklcpoaaDoor
set_option maxRecDepth 100000
set_option maxHeartbeats 1000000
open Go.RowKit
abbrev oRh20 : Oper := { dst := some 149, op := .fieldAddr 27 (.tmp 5) 0, type := 0, pos := "ref.go:228", after := #[], guard := none }
abbrev oRh21 : Oper := { dst := some 150, op := .load 22 (.tmp 149), type := 22, pos := "ref.go:228", after := #[{ on := 0, ground := .data }], guard := none }
abbrev oRh22 : Oper := { dst := some 151, op := .move (.tmp 14), type := 3, pos := "ref.go:228", after := #[], guard := none }
abbrev oRh23 : Oper := { dst := some 152, op := .call { callee := .value (.func 61), args := #[.tmp 151], argTypes := #[3] }, type := 3, pos := "ref.go:228", after := #[{ on := 2, ground := .data }], guard := none }
abbrev oRh24 : Oper := { dst := some 153, op := .binOp .sub 3 (.tmp 152) (.const (.int .i64 2)) 3, type := 3, pos := "ref.go:228", after := #[{ on := 3, ground := .data }], guard := none }
abbrev oRh25 : Oper := { dst := some 154, op := .binOp .quo 3 (.tmp 153) (.const (.int .i64 2)) 3, type := 3, pos := "ref.go:228", after := #[{ on := 4, ground := .data }], guard := none }
abbrev oRh26 : Oper := { dst := some 155, op := .indexAddr 22 (.tmp 150) (.tmp 154), type := 0, pos := "ref.go:228", after := #[{ on := 1, ground := .data }, { on := 5, ground := .data }], guard := none }
abbrev oRh27 : Oper := { dst := some 156, op := .fieldAddr 53 (.tmp 155) 0, type := 0, pos := "ref.go:228", after := #[{ on := 6, ground := .data }], guard := none }
abbrev oRh28 : Oper := { dst := some 157, op := .load 44 (.tmp 156), type := 44, pos := "ref.go:228", after := #[{ on := 7, ground := .data }], guard := none }
abbrev oRh29 : Oper := { dst := some 15, op := .assign (.tmp 157), type := 44, pos := "ref.go:228", after := #[{ on := 8, ground := .data }, { on := 3, ground := .chain }, { on := 0, ground := .phase }, { on := 1, ground := .phase }, { on := 2, ground := .phase }, { on := 3, ground := .phase }, { on := 4, ground := .phase }, { on := 5, ground := .phase }, { on := 6, ground := .phase }, { on := 7, ground := .phase }, { on := 8, ground := .phase }], guard := none }
abbrev oRh210 : Oper := { dst := some 158, op := .fieldAddr 50 (.tmp 7) 1, type := 0, pos := "ref.go:229", after := #[], guard := none }
abbrev oRh211 : Oper := { dst := some 159, op := .load 3 (.tmp 158), type := 3, pos := "ref.go:229", after := #[{ on := 0, ground := .data }], guard := none }
abbrev oRh212 : Oper := { dst := some 160, op := .move (.tmp 15), type := 44, pos := "ref.go:229", after := #[], guard := none }
abbrev oRh213 : Oper := { dst := some 161, op := .call { callee := .builtin .len, args := #[.tmp 160], argTypes := #[44] }, type := 3, pos := "ref.go:229", after := #[{ on := 2, ground := .data }], guard := none }
abbrev oRh214 : Oper := { dst := some 162, op := .call { callee := .value (.func 26), args := #[.tmp 159, .tmp 161], argTypes := #[3, 3] }, type := 4, pos := "ref.go:229", after := #[{ on := 1, ground := .data }, { on := 3, ground := .data }], guard := none }
abbrev oRh215 : Oper := { dst := some 163, op := .unOp .not 4 (.tmp 162), type := 4, pos := "ref.go:229", after := #[{ on := 4, ground := .data }], guard := none }
abbrev oRh216 : Oper := { dst := some 164, op := .move (.tmp 163), type := 4, pos := "ref.go:229", after := #[{ on := 5, ground := .data }, { on := 4, ground := .chain }], guard := none }
abbrev oRh217 : Oper := { dst := some 165, op := .fieldAddr 50 (.tmp 7) 0, type := 0, pos := "ref.go:229", after := #[{ on := 6, ground := .guard }], guard := some (6, false) }
abbrev oRh218 : Oper := { dst := some 166, op := .load 3 (.tmp 165), type := 3, pos := "ref.go:229", after := #[{ on := 7, ground := .data }, { on := 6, ground := .guard }], guard := some (6, false) }
abbrev oRh219 : Oper := { dst := some 167, op := .binOp .eql 3 (.tmp 166) (.const (.int .i64 16)) 3, type := 4, pos := "ref.go:229", after := #[{ on := 8, ground := .data }, { on := 6, ground := .guard }], guard := some (6, false) }
abbrev oRh220 : Oper := { dst := some 168, op := .move (.tmp 167), type := 4, pos := "ref.go:229", after := #[{ on := 9, ground := .data }, { on := 6, ground := .chain }, { on := 6, ground := .guard }], guard := some (6, false) }
abbrev oRh221 : Oper := { dst := some 169, op := .load 27 (.tmp 5), type := 27, pos := "ref.go:229", after := #[{ on := 10, ground := .guard }], guard := some (10, true) }
abbrev oRh222 : Oper := { dst := some 170, op := .fieldAddr 50 (.tmp 7) 2, type := 0, pos := "ref.go:229", after := #[{ on := 10, ground := .guard }], guard := some (10, true) }
abbrev oRh223 : Oper := { dst := some 171, op := .load 3 (.tmp 170), type := 3, pos := "ref.go:229", after := #[{ on := 12, ground := .data }, { on := 10, ground := .guard }], guard := some (10, true) }
abbrev oRh224 : Oper := { dst := some 172, op := .move (.tmp 15), type := 44, pos := "ref.go:229", after := #[{ on := 10, ground := .guard }], guard := some (10, true) }
abbrev oRh225 : Oper := { dst := some 173, op := .fieldAddr 50 (.tmp 7) 1, type := 0, pos := "ref.go:229", after := #[{ on := 10, ground := .guard }], guard := some (10, true) }
abbrev oRh226 : Oper := { dst := some 174, op := .load 3 (.tmp 173), type := 3, pos := "ref.go:229", after := #[{ on := 15, ground := .data }, { on := 10, ground := .guard }], guard := some (10, true) }
abbrev oRh227 : Oper := { dst := some 175, op := .indexAddr 44 (.tmp 172) (.tmp 174), type := 0, pos := "ref.go:229", after := #[{ on := 14, ground := .data }, { on := 16, ground := .data }, { on := 10, ground := .guard }], guard := some (10, true) }
abbrev oRh228 : Oper := { dst := some 176, op := .load 3 (.tmp 175), type := 3, pos := "ref.go:229", after := #[{ on := 17, ground := .data }, { on := 10, ground := .guard }], guard := some (10, true) }
abbrev oRh229 : Oper := { dst := some 177, op := .call { callee := .value (.func 42), args := #[.tmp 169, .tmp 171, .tmp 176], argTypes := #[27, 3, 3] }, type := 4, pos := "ref.go:229", after := #[{ on := 11, ground := .data }, { on := 13, ground := .data }, { on := 18, ground := .data }, { on := 10, ground := .chain }, { on := 10, ground := .guard }], guard := some (10, true) }
abbrev oRh230 : Oper := { dst := some 178, op := .unOp .not 4 (.tmp 177), type := 4, pos := "ref.go:229", after := #[{ on := 19, ground := .data }, { on := 10, ground := .guard }], guard := some (10, true) }
abbrev oRh231 : Oper := { dst := some 179, op := .pick (.tmp 168) (.tmp 178) (.const (.bool false)), type := 4, pos := "ref.go:229", after := #[{ on := 10, ground := .data }, { on := 20, ground := .data }, { on := 6, ground := .guard }], guard := some (6, false) }
abbrev oRh232 : Oper := { dst := some 180, op := .pick (.tmp 164) (.const (.bool true)) (.tmp 179), type := 4, pos := "ref.go:229", after := #[{ on := 6, ground := .data }, { on := 21, ground := .data }], guard := none }
abbrev oRh233 : Oper := { dst := some 195, op := .move (.tmp 4), type := 44, pos := "ref.go:236", after := #[], guard := none }
abbrev oRh234 : Oper := { dst := some 196, op := .fieldAddr 50 (.tmp 7) 2, type := 0, pos := "ref.go:236", after := #[], guard := none }
abbrev oRh235 : Oper := { dst := some 197, op := .load 3 (.tmp 196), type := 3, pos := "ref.go:236", after := #[{ on := 1, ground := .data }], guard := none }
abbrev oRh236 : Oper := { dst := some 198, op := .binOp .mul 3 (.const (.int .i64 2)) (.tmp 197) 3, type := 3, pos := "ref.go:236", after := #[{ on := 2, ground := .data }], guard := none }
abbrev oRh237 : Oper := { dst := some 199, op := .binOp .add 3 (.const (.int .i64 2)) (.tmp 198) 3, type := 3, pos := "ref.go:236", after := #[{ on := 3, ground := .data }], guard := none }
abbrev oRh238 : Oper := { dst := some 200, op := .move (.tmp 14), type := 3, pos := "ref.go:236", after := #[], guard := none }
abbrev oRh239 : Oper := { dst := some 201, op := .call { callee := .value (.func 62), args := #[.tmp 200], argTypes := #[3] }, type := 3, pos := "ref.go:236", after := #[{ on := 5, ground := .data }], guard := none }
abbrev oRh240 : Oper := { dst := some 202, op := .binOp .add 3 (.tmp 199) (.tmp 201) 3, type := 3, pos := "ref.go:236", after := #[{ on := 4, ground := .data }, { on := 6, ground := .data }], guard := none }
abbrev oRh241 : Oper := { dst := some 203, op := .buildSlice 44 1 #[(0, .tmp 202)], type := 44, pos := "ref.go:236", after := #[{ on := 7, ground := .data }], guard := none }
abbrev oRh242 : Oper := { dst := some 204, op := .call { callee := .builtin .append, args := #[.tmp 195, .tmp 203], argTypes := #[44, 44] }, type := 44, pos := "ref.go:236", after := #[{ on := 0, ground := .data }, { on := 8, ground := .data }, { on := 6, ground := .chain }], guard := none }
abbrev oRh243 : Oper := { dst := some 10, op := .assign (.tmp 204), type := 44, pos := "ref.go:236", after := #[{ on := 9, ground := .data }, { on := 9, ground := .chain }, { on := 0, ground := .phase }, { on := 1, ground := .phase }, { on := 2, ground := .phase }, { on := 3, ground := .phase }, { on := 4, ground := .phase }, { on := 5, ground := .phase }, { on := 6, ground := .phase }, { on := 7, ground := .phase }, { on := 8, ground := .phase }, { on := 9, ground := .phase }], guard := none }
abbrev oRh244 : Oper := { dst := some 11, op := .assign (.const (.int .i64 0)), type := 28, pos := "ref.go:236", after := #[{ on := 10, ground := .chain }, { on := 0, ground := .phase }, { on := 1, ground := .phase }, { on := 2, ground := .phase }, { on := 3, ground := .phase }, { on := 4, ground := .phase }, { on := 5, ground := .phase }, { on := 6, ground := .phase }, { on := 7, ground := .phase }, { on := 8, ground := .phase }, { on := 9, ground := .phase }, { on := 10, ground := .phase }], guard := none }
theorem OwI.put2 {C:Nat} {W:World} {v:Value} {l:List Int} {x:Int} (h:OwI C W v l) (hx : -9223372036854775808≤x∧x≤9223372036854775807) (hl:l.length≤300000000) (hC:C≤W.heap.size) :
    ∃ a8 c8 W8,(Builtin.append_ #[44,44] 44 #[v,.slice (some ⟨W.heap.size,0,none⟩) 1 1]).run Tryd.prog (W.alloc (.cells #[.int .i64 x] 3))=.ok (.slice a8 (l.length+1) c8) W8∧OwI C W8 (.slice a8 (l.length+1) c8) (l++[x])∧Below C W W8∧∀ j,j<W.heap.size→v.ownBlock≠some j→W8.heap[j]?=W.heap[j]?:=by
  obtain ⟨i0,hi0,hz0,hz1,hz2⟩:=info_parts info_intD
  have hb:Below W.heap.size W (W.alloc (.cells #[.int .i64 x] 3)):=(Below.refl _ _).alloc (Nat.le_refl _) _
  have h1:=h.up hb
  obtain ⟨v',w',hr,ho,hgr,_,hat⟩:=run_append_own_at (P:=Tryd.prog) (W.alloc (.cells #[.int .i64 x] 3)) C 44 44 3 i0 _ 1 8 Tryd.underlying44 hi0 hz0 hz1 hz2 rfl (by decide) v l.length (ivs l) h1.1 ⟨W.heap.size,0,none⟩ 1 1 [.int .i64 x] (by simp) (World.news_of_block (heap_new W (.cells #[.int .i64 x] 3) rfl)) (by intro u hu;simp at hu;subst hu;rfl) (by unfold maxLen;omega) (by omega) (by have:=hb.size;omega)
  obtain ⟨a',c',rfl⟩:=row_form ho
  have hold:∀ j,j<W.heap.size→v.ownBlock≠some j→w'.heap[j]?=W.heap[j]?:=fun j hj hv=>(hgr.block j (by have:=hb.size;omega) (fun e=>hv e.symm)).trans (hb.block j hj)
  refine ⟨a',c',w',hr,⟨?_,fun y hy=>?_⟩,⟨hgr.os.trans hb.os,hgr.tape.trans hb.tape,hgr.output.trans hb.output,Nat.le_trans hb.size hgr.size,fun j hj=>hold j (by omega) (fun e=>by have:=(own_ge h.1 j e).1;omega)⟩,hold⟩
  · rw [List.length_append,ivs_app]
    exact ho
  · rw [List.mem_append] at hy
    rcases hy with hy | hy
    · exact h.2 y hy
    · simp at hy;subst hy;exact hx
section
variable {B Bs C:Nat} {w:World} {p:Pg} {f:Fd} {a b:Int} {v1 v2 v3 v4 u1 u2 u3 u4 vs vr:Value} {s r:List Int}
theorem ob_14p (P:PgAt B w v1 v2 v3 v4 p) (hB:B≤w.heap.size) (s1:SlAt 1 IntP B w u1 f.lo) (s2:SlAt 1 IntP B w u2 f.re) (s3:SlAt 1 IntP B w u3 f.ar) (Rs:SlAt 1 IntP Bs w vs s) (O:OwI C w vr r) (hsC:Bs≤C) (hC:C≤w.heap.size) (hr:r.length≤300000000) {x:Int} (hs:s=r++[x]) (hkd:Kd x) (hpt:ptrB x=false):Calls Tryd.prog 45 #[.agg #[v1,v2,v3,v4],.agg #[.int .i64 f.pa,u1,u2,u3,u4],.agg #[.int .i64 14,.int .i64 a,.int .i64 b],vs,vr] w (EfNo C 8 w):=by
 obtain ⟨⟨a1,d1,rfl⟩,⟨a2,d2,rfl⟩,⟨a3,d3,rfl⟩,a4,d4,rfl⟩:=fm4 P
 obtain ⟨⟨b1,x1,rfl⟩,⟨b2,x2,rfl⟩,b3,x3,rfl⟩:=fm3 s1 s2 s3
 have R:=Rx.new (i:=⟨14,a,b⟩) (u4:=u4) P hB s1 s2 s3
 dsimp only at R
 obtain ⟨W1,hW1⟩:=exR R
 rw [hW1] at R
 obtain ⟨c00,c01,c02,c03⟩:=R.c0
 obtain ⟨c10,c11,c12,c13⟩:=R.c1
 obtain ⟨c20,c21,c22⟩:=R.c2
 obtain ⟨l0,l1,l2⟩:=R.lt
 dsimp only at c20 c21 c22
 have HR:=hide R
 clear P s1 s2 s3
 have b1:=R.bel
 obtain ⟨sa,ds,hvs⟩:=sl_form Rs
 obtain ⟨ar,dr,hvr⟩:=O.form
 subst hvs hvr
 have Rs1:SlAt 1 IntP Bs W1 (.slice sa s.length ds) s:=ints_keep (Nat.le_refl _) (fun j hj=>b1.block j (by omega)) Rs
 have HO:=hide (O.up b1)
 have HRS:=hide Rs1
 have HWC:=hide (show Below C w W1 from b1.mono hC)
 have hC1:C≤W1.heap.size:=Nat.le_trans hC b1.size
 clear Rs O b1 R
 obtain ⟨L,hL⟩ : ∃ L,s.length=L:=⟨_,rfl⟩
 obtain ⟨q,hq⟩ : ∃ q,L - 1=q:=⟨_,rfl⟩
 have hLr:L=r.length+1:=by rw [← hL,hs];simp
 have hy:s[q]?=some x:=by rw [hs,← hq,hLr,List.getElem?_append_right (by omega)];simp
 obtain ⟨g,o,c,hv,hg,hcy,_,_⟩:=il_at Rs1 hy
 cases hv
 rw [hL] at HRS ⊢
 have hgw:=Nat.lt_of_lt_of_le hg (Nat.le_trans hsC hC1)
 have hql:q<L:=by omega
 have dq:decide (q<L)=true:=by simpa using hql
 have dL:decide (0<L)=true:=by simp;omega
 have dL2:decide ((0:Int)<(L:Int))=true:=by simp;omega
 have hwq:IntKind.i64.wrap ((L:Int) - 1)=(q:Int):=by
  rw [show (L:Int) - 1=(q:Int) by omega]
  exact wrap_nat (by omega)
 have hqr:q=r.length:=by omega
 subst hqr
 clear hLr hy hs hL hq
 have HPT:=hide (rptr_any W1 (k:=x) ⟨by have:=hkd.1;omega,hkd.2⟩)
 rw [hpt] at HPT
 go_enter Tryd.func45,Tryd.ntmps45
 go_wp2_with fail
 refine HPT.out.mono ?_
 rintro e w5 ⟨rfl,hw5⟩
 subst hw5
 go_wp2_with fail
 go_ret2
 exact ⟨HWC.out,rfl⟩
theorem ob_14r (P:PgAt B w v1 v2 v3 v4 p) (hB:B≤w.heap.size) (s1:SlAt 1 IntP B w u1 f.lo) (s2:SlAt 1 IntP B w u2 f.re) (s3:SlAt 1 IntP B w u3 f.ar) (Rs:SlAt 1 IntP Bs w vs s) (O:OwI C w vr r) (hsC:Bs≤C) (hC:C≤w.heap.size) (hr:r.length≤300000000) {x:Int} (hs:s=r++[x]) (hkd:Kd x) (hpt:ptrB x=true) {t:Nat} (hbt:bareK x=2+2*(t:Int)) {l:List Int} (hl:p.ty[t]?=some l) (hty:p.ty.length≤1024) (hin:inB a l.length=false):Calls Tryd.prog 45 #[.agg #[v1,v2,v3,v4],.agg #[.int .i64 f.pa,u1,u2,u3,u4],.agg #[.int .i64 14,.int .i64 a,.int .i64 b],vs,vr] w (EfNo C 11 w):=by
 obtain ⟨⟨a1,d1,rfl⟩,⟨a2,d2,rfl⟩,⟨a3,d3,rfl⟩,a4,d4,rfl⟩:=fm4 P
 obtain ⟨⟨b1,x1,rfl⟩,⟨b2,x2,rfl⟩,b3,x3,rfl⟩:=fm3 s1 s2 s3
 have R:=Rx.new (i:=⟨14,a,b⟩) (u4:=u4) P hB s1 s2 s3
 dsimp only at R
 obtain ⟨W1,hW1⟩:=exR R
 rw [hW1] at R
 obtain ⟨c00,c01,c02,c03⟩:=R.c0
 obtain ⟨c10,c11,c12,c13⟩:=R.c1
 obtain ⟨c20,c21,c22⟩:=R.c2
 obtain ⟨l0,l1,l2⟩:=R.lt
 dsimp only at c20 c21 c22
 have HR:=hide R
 clear P s1 s2 s3
 have b1:=R.bel
 obtain ⟨sa,ds,hvs⟩:=sl_form Rs
 obtain ⟨ar,dr,hvr⟩:=O.form
 subst hvs hvr
 have Rs1:SlAt 1 IntP Bs W1 (.slice sa s.length ds) s:=ints_keep (Nat.le_refl _) (fun j hj=>b1.block j (by omega)) Rs
 have HO:=hide (O.up b1)
 have HRS:=hide Rs1
 have HWC:=hide (show Below C w W1 from b1.mono hC)
 have hC1:C≤W1.heap.size:=Nat.le_trans hC b1.size
 clear Rs O b1 R
 obtain ⟨L,hL⟩ : ∃ L,s.length=L:=⟨_,rfl⟩
 obtain ⟨q,hq⟩ : ∃ q,L - 1=q:=⟨_,rfl⟩
 have hLr:L=r.length+1:=by rw [← hL,hs];simp
 have hy:s[q]?=some x:=by rw [hs,← hq,hLr,List.getElem?_append_right (by omega)];simp
 obtain ⟨g,o,c,hv,hg,hcy,_,_⟩:=il_at Rs1 hy
 cases hv
 rw [hL] at HRS ⊢
 have hgw:=Nat.lt_of_lt_of_le hg (Nat.le_trans hsC hC1)
 have hql:q<L:=by omega
 have dq:decide (q<L)=true:=by simpa using hql
 have dL:decide (0<L)=true:=by simp;omega
 have dL2:decide ((0:Int)<(L:Int))=true:=by simp;omega
 have hwq:IntKind.i64.wrap ((L:Int) - 1)=(q:Int):=by
  rw [show (L:Int) - 1=(q:Int) by omega]
  exact wrap_nat (by omega)
 have hqr:q=r.length:=by omega
 subst hqr
 clear hLr hy hs hL hq
 have HPT:=hide (rptr_any W1 (k:=x) ⟨by have:=hkd.1;omega,hkd.2⟩)
 rw [hpt] at HPT
 have HBA:=hide (rbase_any W1.drew (k:=x) ⟨by have:=hkd.1;omega,hkd.2⟩)
 have htl:t<p.ty.length:=get_lt hl
 obtain ⟨m,hm⟩ : ∃ m:Nat,m=2*t:=⟨_,rfl⟩
 have hbm:bareK x=((m+2:Nat):Int):=by rw [hbt];omega
 rw [hbm] at HBA
 have hwb:IntKind.i64.wrap (((m+2:Nat):Int) - 2)=(m:Int):=by
  rw [show ((m+2:Nat):Int) - 2=(m:Int) by omega]
  exact wrap_nat (by omega)
 have hdv:(m:Int) / 2=(t:Int):=by omega
 have hdv2:m / 2=t:=by omega
 have hwt:IntKind.i64.wrap (t:Int)=(t:Int):=wrap_nat (by omega)
 obtain ⟨g2,o2,c2,nn,u,hv2,hnn,_,hg2,hc2,hsl⟩:=lst_at HR.out.pg.ty hl
 cases hv2
 obtain ⟨ua,uc,hu⟩:=sl_form hsl
 subst hu
 have HSL:=hide hsl
 have hg2w:g2<W1.heap.size:=by have:=HR.out.hB;have:=HR.out.bel.size;omega
 have dt:decide (t<p.ty.length)=true:=by simpa using htl
 clear hnn hsl hl hbt hbm hm
 generalize m+2=m2 at *
 go_enter Tryd.func45,Tryd.ntmps45
 go_wp2_with fail
 refine HPT.out.mono ?_
 rintro e w5 ⟨rfl,hw5⟩
 rw [hw5]
 clear hw5
 go_upto_region 27 with (fail)
 refine wp_region_held_drew (S:=(fun W:World=>W=W1.drew∧W.cell? ⟨w.heap.size,0,none⟩=some (.slice (some ⟨g2,o2,none⟩) p.ty.length d1)∧W.cell? ⟨g2,o2+t,none⟩=some (.slice ua l.length uc))) (by kernel_rfl) ⟨rfl,c00,hc2⟩ (fun hHeld1=>?_)
 refine tk 0 oRh20 ?v2 ?h2 ?_
 case h2=>(intro W h;(try dsimp only at h);go_simp;try with_reducible rfl)
 try simp only [sp]
 refine tk 1 oRh21 ?v3 ?h3 ?_
 case h3=>(intro W h;(try dsimp only at h);go_simp;try with_reducible rfl)
 try simp only [sp]
 refine tk 2 oRh22 ?v4 ?h4 ?_
 case h4=>(intro W h;(try dsimp only at h);go_simp;try with_reducible rfl)
 try simp only [sp]
 refine wpAnyH_ready (rs:=[3]) (by kernel_rfl) (by simp) ?_
 refine AllReadyH.cons (o:=oRh23) rfl (fun K hK=>?_) AllReadyH.nil
 go_simp
 go_at_call 61
 refine HBA.out.mono ?_
 rintro e w5 ⟨rfl,hw5⟩
 subst hw5
 go_wp2_with fail
 refine hK.out _ _ ⟨rfl,c00,hc2⟩ (fun hHeld5=>?_)
 clear hK K
 try simp only [sp]
 refine tk 4 oRh24 ?v6 ?h6 ?_
 case h6=>(intro W h;(try dsimp only at h);go_simp;try with_reducible rfl)
 try simp only [sp]
 refine tk 5 oRh25 ?v7 ?h7 ?_
 case h7=>(intro W h;(try dsimp only at h);go_simp;try with_reducible rfl)
 try simp only [sp]
 refine tk 6 oRh26 ?v8 ?h8 ?_
 case h8=>(intro W h;(try dsimp only at h);go_simp;try with_reducible rfl)
 try simp only [sp]
 refine tk 7 oRh27 ?v9 ?h9 ?_
 case h9=>(intro W h;(try dsimp only at h);go_simp;try with_reducible rfl)
 try simp only [sp]
 refine tk 8 oRh28 ?v10 ?h10 ?_
 case h10=>(intro W h;(try dsimp only at h);go_simp;try with_reducible rfl)
 try simp only [sp]
 refine tk 9 oRh29 ?v11 ?h11 ?_
 case h11=>(intro W h;(try dsimp only at h);go_simp;try with_reducible rfl)
 try simp only [sp]
 refine wpAnyH_done (by kernel_rfl) ?_ _
 have HRX:=hide (HR.out.up (below_drew (Below.refl W1.heap.size W1)))
 have HOX:=hide (HO.out.up (below_drew (Below.refl W1.heap.size W1)))
 have HWX:=hide (show Below C w W1.drew from below_drew HWC.out)
 have HSX:=hide (show SlAt 1 IntP B W1.drew (.slice ua l.length uc) l from ints_keep (Nat.le_refl _) (fun _ _=>rfl) HSL.out)
 have hCX:C≤W1.drew.heap.size:=hC1
 clear HPT HBA hwb hdv hdv2 c00 c01 c02 c03 c10 c11 c12 c13 c20 c21 c22 hc2 HR HO HWC HSL hC1 hW1
 generalize W1.drew=X at *
 have HIN:=hide (rin_any X.drew a l.length)
 rw [hin] at HIN
 have HCX:=hide (show ∀ W:World,Below X.heap.size X W→(fun W:World=>W.cell? ⟨w.heap.size,0,none⟩=some (.slice (some ⟨g2,o2,none⟩) p.ty.length d1)∧W.cell? ⟨w.heap.size,1,none⟩=some (.slice a2 p.fu.length d2)∧W.cell? ⟨w.heap.size,2,none⟩=some (.slice a3 p.ta.length d3)∧W.cell? ⟨w.heap.size,3,none⟩=some (.slice a4 p.st.length d4)∧W.cell? ⟨w.heap.size+2,0,none⟩=some (.int .i64 14)∧W.cell? ⟨w.heap.size+2,1,none⟩=some (.int .i64 a)∧W.cell? ⟨w.heap.size+2,2,none⟩=some (.int .i64 b)) W from fun W h=>by
  have R:=HRX.out.up h
  exact ⟨R.c0.1,R.c0.2.1,R.c0.2.2.1,R.c0.2.2.2,R.c2.1,R.c2.2.1,R.c2.2.2⟩)
 go_upto_region 28 with (fail)
 refine wp_region_held_drew (S:=(fun W:World=>W.cell? ⟨w.heap.size,0,none⟩=some (.slice (some ⟨g2,o2,none⟩) p.ty.length d1)∧W.cell? ⟨w.heap.size,1,none⟩=some (.slice a2 p.fu.length d2)∧W.cell? ⟨w.heap.size,2,none⟩=some (.slice a3 p.ta.length d3)∧W.cell? ⟨w.heap.size,3,none⟩=some (.slice a4 p.st.length d4)∧W.cell? ⟨w.heap.size+2,0,none⟩=some (.int .i64 14)∧W.cell? ⟨w.heap.size+2,1,none⟩=some (.int .i64 a)∧W.cell? ⟨w.heap.size+2,2,none⟩=some (.int .i64 b))) (by kernel_rfl) (HCX.out _ (below_drew (Below.refl _ _))) (fun hHeld12=>?_)
 refine tk 0 oRh210 ?v13 ?h13 ?_
 case h13=>(intro W h;(try dsimp only at h);go_simp;try with_reducible rfl)
 try simp only [sp]
 refine tk 1 oRh211 ?v14 ?h14 ?_
 case h14=>(intro W h;(try dsimp only at h);go_simp;try with_reducible rfl)
 try simp only [sp]
 refine tk 2 oRh212 ?v15 ?h15 ?_
 case h15=>(intro W h;(try dsimp only at h);go_simp;try with_reducible rfl)
 try simp only [sp]
 refine tk 3 oRh213 ?v16 ?h16 ?_
 case h16=>(intro W h;(try dsimp only at h);go_simp;try with_reducible rfl)
 try simp only [sp]
 refine wpAnyH_ready (rs:=[4]) (by kernel_rfl) (by simp) ?_
 refine AllReadyH.cons (o:=oRh214) rfl (fun K hK=>?_) AllReadyH.nil
 go_simp
 go_at_call 26
 refine HIN.out.mono ?_
 rintro e w6 ⟨rfl,hw6⟩
 subst hw6
 go_wp2_with fail
 refine hK.out _ _ (HCX.out _ (below_drew (Below.refl _ _))) (fun hHeld17=>?_)
 clear hK K
 try simp only [sp]
 refine tk 5 oRh215 ?v18 ?h18 ?_
 case h18=>(intro W h;(try dsimp only at h);go_simp;try with_reducible rfl)
 try simp only [sp]
 refine tk 6 oRh216 ?v19 ?h19 ?_
 case h19=>(intro W h;(try dsimp only at h);go_simp;try with_reducible rfl)
 try simp only [sp]
 refine tn 7 oRh217 ?_
 try simp only [sp]
 refine tn 8 oRh218 ?_
 try simp only [sp]
 refine tn 9 oRh219 ?_
 try simp only [sp]
 refine tn 10 oRh220 ?_
 try simp only [sp]
 refine tn 11 oRh221 ?_
 try simp only [sp]
 refine tn 12 oRh222 ?_
 try simp only [sp]
 refine tn 13 oRh223 ?_
 try simp only [sp]
 refine tn 14 oRh224 ?_
 try simp only [sp]
 refine tn 15 oRh225 ?_
 try simp only [sp]
 refine tn 16 oRh226 ?_
 try simp only [sp]
 refine tn 17 oRh227 ?_
 try simp only [sp]
 refine tn 18 oRh228 ?_
 try simp only [sp]
 refine tn 19 oRh229 ?_
 try simp only [sp]
 refine tn 20 oRh230 ?_
 try simp only [sp]
 refine tn 21 oRh231 ?_
 try simp only [sp]
 refine tk 22 oRh232 ?v35 ?h35 ?_
 case h35=>(intro W h;(try dsimp only at h);go_simp;try with_reducible rfl)
 try simp only [sp]
 refine wpAnyH_done (by kernel_rfl) ?_ _
 go_wp2_with fail
 go_ret2
 exact ⟨below_drew HWX.out,rfl⟩
theorem ob_15p (P:PgAt B w v1 v2 v3 v4 p) (hB:B≤w.heap.size) (s1:SlAt 1 IntP B w u1 f.lo) (s2:SlAt 1 IntP B w u2 f.re) (s3:SlAt 1 IntP B w u3 f.ar) (Rs:SlAt 1 IntP Bs w vs s) (O:OwI C w vr r) (hsC:Bs≤C) (hC:C≤w.heap.size) (hr:r.length≤300000000) {x y:Int} (hs:s=r++[x,y]) (hkd:Kd x) (hpt:ptrB x=false):Calls Tryd.prog 45 #[.agg #[v1,v2,v3,v4],.agg #[.int .i64 f.pa,u1,u2,u3,u4],.agg #[.int .i64 15,.int .i64 a,.int .i64 b],vs,vr] w (EfNo C 8 w):=by
 obtain ⟨⟨a1,d1,rfl⟩,⟨a2,d2,rfl⟩,⟨a3,d3,rfl⟩,a4,d4,rfl⟩:=fm4 P
 obtain ⟨⟨b1,x1,rfl⟩,⟨b2,x2,rfl⟩,b3,x3,rfl⟩:=fm3 s1 s2 s3
 have R:=Rx.new (i:=⟨15,a,b⟩) (u4:=u4) P hB s1 s2 s3
 dsimp only at R
 obtain ⟨W1,hW1⟩:=exR R
 rw [hW1] at R
 obtain ⟨c00,c01,c02,c03⟩:=R.c0
 obtain ⟨c10,c11,c12,c13⟩:=R.c1
 obtain ⟨c20,c21,c22⟩:=R.c2
 obtain ⟨l0,l1,l2⟩:=R.lt
 dsimp only at c20 c21 c22
 have HR:=hide R
 clear P s1 s2 s3
 have b1:=R.bel
 obtain ⟨sa,ds,hvs⟩:=sl_form Rs
 obtain ⟨ar,dr,hvr⟩:=O.form
 subst hvs hvr
 have Rs1:SlAt 1 IntP Bs W1 (.slice sa s.length ds) s:=ints_keep (Nat.le_refl _) (fun j hj=>b1.block j (by omega)) Rs
 have HO:=hide (O.up b1)
 have HRS:=hide Rs1
 have HWC:=hide (show Below C w W1 from b1.mono hC)
 have hC1:C≤W1.heap.size:=Nat.le_trans hC b1.size
 clear Rs O b1 R
 obtain ⟨L,hL⟩ : ∃ L,s.length=L:=⟨_,rfl⟩
 obtain ⟨q,hq⟩ : ∃ q,L - 1=q:=⟨_,rfl⟩
 have hLr:L=r.length+2:=by rw [← hL,hs];simp
 have hy:s[q]?=some y:=by rw [hs,← hq,hLr,List.getElem?_append_right (by omega)];simp
 have hx:s[r.length]?=some x:=by rw [hs,List.getElem?_append_right (by omega)];simp
 obtain ⟨g',o',c',hv',hg',hcx,_,_⟩:=il_at Rs1 hx
 obtain ⟨g,o,c,hv,hg,hcy,_,_⟩:=il_at Rs1 hy
 cases hv'
 cases hv
 rw [hL] at HRS ⊢
 have hgw:=Nat.lt_of_lt_of_le hg (Nat.le_trans hsC hC1)
 have hql:q<L:=by omega
 have dq:decide (q<L)=true:=by simpa using hql
 have dL:decide (0<L)=true:=by simp;omega
 have dL2:decide ((0:Int)<(L:Int))=true:=by simp;omega
 have hwq:IntKind.i64.wrap ((L:Int) - 1)=(q:Int):=by
  rw [show (L:Int) - 1=(q:Int) by omega]
  exact wrap_nat (by omega)
 have hrl:r.length<L:=by omega
 have drl:decide (r.length<L)=true:=by simpa using hrl
 clear hLr hy hs hL hq hx
 have HPT:=hide (rptr_any W1 (k:=x) ⟨by have:=hkd.1;omega,hkd.2⟩)
 rw [hpt] at HPT
 go_enter Tryd.func45,Tryd.ntmps45
 go_wp2_with fail
 refine HPT.out.mono ?_
 rintro e w5 ⟨rfl,hw5⟩
 subst hw5
 go_wp2_with fail
 go_ret2
 exact ⟨HWC.out,rfl⟩
theorem ob_15r (P:PgAt B w v1 v2 v3 v4 p) (hB:B≤w.heap.size) (s1:SlAt 1 IntP B w u1 f.lo) (s2:SlAt 1 IntP B w u2 f.re) (s3:SlAt 1 IntP B w u3 f.ar) (Rs:SlAt 1 IntP Bs w vs s) (O:OwI C w vr r) (hsC:Bs≤C) (hC:C≤w.heap.size) (hr:r.length≤300000000) {x y:Int} (hs:s=r++[x,y]) (hkd:Kd x) (hpt:ptrB x=true) {t:Nat} (hbt:bareK x=2+2*(t:Int)) {l:List Int} (hl:p.ty[t]?=some l) (hty:p.ty.length≤1024) (hin:inB a l.length=false):Calls Tryd.prog 45 #[.agg #[v1,v2,v3,v4],.agg #[.int .i64 f.pa,u1,u2,u3,u4],.agg #[.int .i64 15,.int .i64 a,.int .i64 b],vs,vr] w (EfNo C 11 w):=by
 obtain ⟨⟨a1,d1,rfl⟩,⟨a2,d2,rfl⟩,⟨a3,d3,rfl⟩,a4,d4,rfl⟩:=fm4 P
 obtain ⟨⟨b1,x1,rfl⟩,⟨b2,x2,rfl⟩,b3,x3,rfl⟩:=fm3 s1 s2 s3
 have R:=Rx.new (i:=⟨15,a,b⟩) (u4:=u4) P hB s1 s2 s3
 dsimp only at R
 obtain ⟨W1,hW1⟩:=exR R
 rw [hW1] at R
 obtain ⟨c00,c01,c02,c03⟩:=R.c0
 obtain ⟨c10,c11,c12,c13⟩:=R.c1
 obtain ⟨c20,c21,c22⟩:=R.c2
 obtain ⟨l0,l1,l2⟩:=R.lt
 dsimp only at c20 c21 c22
 have HR:=hide R
 clear P s1 s2 s3
 have b1:=R.bel
 obtain ⟨sa,ds,hvs⟩:=sl_form Rs
 obtain ⟨ar,dr,hvr⟩:=O.form
 subst hvs hvr
 have Rs1:SlAt 1 IntP Bs W1 (.slice sa s.length ds) s:=ints_keep (Nat.le_refl _) (fun j hj=>b1.block j (by omega)) Rs
 have HO:=hide (O.up b1)
 have HRS:=hide Rs1
 have HWC:=hide (show Below C w W1 from b1.mono hC)
 have hC1:C≤W1.heap.size:=Nat.le_trans hC b1.size
 clear Rs O b1 R
 obtain ⟨L,hL⟩ : ∃ L,s.length=L:=⟨_,rfl⟩
 obtain ⟨q,hq⟩ : ∃ q,L - 1=q:=⟨_,rfl⟩
 have hLr:L=r.length+2:=by rw [← hL,hs];simp
 have hy:s[q]?=some y:=by rw [hs,← hq,hLr,List.getElem?_append_right (by omega)];simp
 have hx:s[r.length]?=some x:=by rw [hs,List.getElem?_append_right (by omega)];simp
 obtain ⟨g',o',c',hv',hg',hcx,_,_⟩:=il_at Rs1 hx
 obtain ⟨g,o,c,hv,hg,hcy,_,_⟩:=il_at Rs1 hy
 cases hv'
 cases hv
 rw [hL] at HRS ⊢
 have hgw:=Nat.lt_of_lt_of_le hg (Nat.le_trans hsC hC1)
 have hql:q<L:=by omega
 have dq:decide (q<L)=true:=by simpa using hql
 have dL:decide (0<L)=true:=by simp;omega
 have dL2:decide ((0:Int)<(L:Int))=true:=by simp;omega
 have hwq:IntKind.i64.wrap ((L:Int) - 1)=(q:Int):=by
  rw [show (L:Int) - 1=(q:Int) by omega]
  exact wrap_nat (by omega)
 have hrl:r.length<L:=by omega
 have drl:decide (r.length<L)=true:=by simpa using hrl
 clear hLr hy hs hL hq hx
 have HPT:=hide (rptr_any W1 (k:=x) ⟨by have:=hkd.1;omega,hkd.2⟩)
 rw [hpt] at HPT
 have HBA:=hide (rbase_any W1.drew (k:=x) ⟨by have:=hkd.1;omega,hkd.2⟩)
 have htl:t<p.ty.length:=get_lt hl
 obtain ⟨m,hm⟩ : ∃ m:Nat,m=2*t:=⟨_,rfl⟩
 have hbm:bareK x=((m+2:Nat):Int):=by rw [hbt];omega
 rw [hbm] at HBA
 have hwb:IntKind.i64.wrap (((m+2:Nat):Int) - 2)=(m:Int):=by
  rw [show ((m+2:Nat):Int) - 2=(m:Int) by omega]
  exact wrap_nat (by omega)
 have hdv:(m:Int) / 2=(t:Int):=by omega
 have hdv2:m / 2=t:=by omega
 have hwt:IntKind.i64.wrap (t:Int)=(t:Int):=wrap_nat (by omega)
 obtain ⟨g2,o2,c2,nn,u,hv2,hnn,_,hg2,hc2,hsl⟩:=lst_at HR.out.pg.ty hl
 cases hv2
 obtain ⟨ua,uc,hu⟩:=sl_form hsl
 subst hu
 have HSL:=hide hsl
 have hg2w:g2<W1.heap.size:=by have:=HR.out.hB;have:=HR.out.bel.size;omega
 have dt:decide (t<p.ty.length)=true:=by simpa using htl
 clear hnn hsl hl hbt hbm hm
 generalize m+2=m2 at *
 go_enter Tryd.func45,Tryd.ntmps45
 go_wp2_with fail
 refine HPT.out.mono ?_
 rintro e w5 ⟨rfl,hw5⟩
 rw [hw5]
 clear hw5
 go_upto_region 27 with (fail)
 refine wp_region_held_drew (S:=(fun W:World=>W=W1.drew∧W.cell? ⟨w.heap.size,0,none⟩=some (.slice (some ⟨g2,o2,none⟩) p.ty.length d1)∧W.cell? ⟨g2,o2+t,none⟩=some (.slice ua l.length uc))) (by kernel_rfl) ⟨rfl,c00,hc2⟩ (fun hHeld36=>?_)
 refine tk 0 oRh20 ?v37 ?h37 ?_
 case h37=>(intro W h;(try dsimp only at h);go_simp;try with_reducible rfl)
 try simp only [sp]
 refine tk 1 oRh21 ?v38 ?h38 ?_
 case h38=>(intro W h;(try dsimp only at h);go_simp;try with_reducible rfl)
 try simp only [sp]
 refine tk 2 oRh22 ?v39 ?h39 ?_
 case h39=>(intro W h;(try dsimp only at h);go_simp;try with_reducible rfl)
 try simp only [sp]
 refine wpAnyH_ready (rs:=[3]) (by kernel_rfl) (by simp) ?_
 refine AllReadyH.cons (o:=oRh23) rfl (fun K hK=>?_) AllReadyH.nil
 go_simp
 go_at_call 61
 refine HBA.out.mono ?_
 rintro e w5 ⟨rfl,hw5⟩
 subst hw5
 go_wp2_with fail
 refine hK.out _ _ ⟨rfl,c00,hc2⟩ (fun hHeld40=>?_)
 clear hK K
 try simp only [sp]
 refine tk 4 oRh24 ?v41 ?h41 ?_
 case h41=>(intro W h;(try dsimp only at h);go_simp;try with_reducible rfl)
 try simp only [sp]
 refine tk 5 oRh25 ?v42 ?h42 ?_
 case h42=>(intro W h;(try dsimp only at h);go_simp;try with_reducible rfl)
 try simp only [sp]
 refine tk 6 oRh26 ?v43 ?h43 ?_
 case h43=>(intro W h;(try dsimp only at h);go_simp;try with_reducible rfl)
 try simp only [sp]
 refine tk 7 oRh27 ?v44 ?h44 ?_
 case h44=>(intro W h;(try dsimp only at h);go_simp;try with_reducible rfl)
 try simp only [sp]
 refine tk 8 oRh28 ?v45 ?h45 ?_
 case h45=>(intro W h;(try dsimp only at h);go_simp;try with_reducible rfl)
 try simp only [sp]
 refine tk 9 oRh29 ?v46 ?h46 ?_
 case h46=>(intro W h;(try dsimp only at h);go_simp;try with_reducible rfl)
 try simp only [sp]
 refine wpAnyH_done (by kernel_rfl) ?_ _
 have HRX:=hide (HR.out.up (below_drew (Below.refl W1.heap.size W1)))
 have HOX:=hide (HO.out.up (below_drew (Below.refl W1.heap.size W1)))
 have HWX:=hide (show Below C w W1.drew from below_drew HWC.out)
 have HSX:=hide (show SlAt 1 IntP B W1.drew (.slice ua l.length uc) l from ints_keep (Nat.le_refl _) (fun _ _=>rfl) HSL.out)
 have hCX:C≤W1.drew.heap.size:=hC1
 clear HPT HBA hwb hdv hdv2 c00 c01 c02 c03 c10 c11 c12 c13 c20 c21 c22 hc2 HR HO HWC HSL hC1 hW1
 generalize W1.drew=X at *
 have HIN:=hide (rin_any X.drew a l.length)
 rw [hin] at HIN
 have HCX:=hide (show ∀ W:World,Below X.heap.size X W→(fun W:World=>W.cell? ⟨w.heap.size,0,none⟩=some (.slice (some ⟨g2,o2,none⟩) p.ty.length d1)∧W.cell? ⟨w.heap.size,1,none⟩=some (.slice a2 p.fu.length d2)∧W.cell? ⟨w.heap.size,2,none⟩=some (.slice a3 p.ta.length d3)∧W.cell? ⟨w.heap.size,3,none⟩=some (.slice a4 p.st.length d4)∧W.cell? ⟨w.heap.size+2,0,none⟩=some (.int .i64 15)∧W.cell? ⟨w.heap.size+2,1,none⟩=some (.int .i64 a)∧W.cell? ⟨w.heap.size+2,2,none⟩=some (.int .i64 b)) W from fun W h=>by
  have R:=HRX.out.up h
  exact ⟨R.c0.1,R.c0.2.1,R.c0.2.2.1,R.c0.2.2.2,R.c2.1,R.c2.2.1,R.c2.2.2⟩)
 go_upto_region 28 with (fail)
 refine wp_region_held_drew (S:=(fun W:World=>W.cell? ⟨w.heap.size,0,none⟩=some (.slice (some ⟨g2,o2,none⟩) p.ty.length d1)∧W.cell? ⟨w.heap.size,1,none⟩=some (.slice a2 p.fu.length d2)∧W.cell? ⟨w.heap.size,2,none⟩=some (.slice a3 p.ta.length d3)∧W.cell? ⟨w.heap.size,3,none⟩=some (.slice a4 p.st.length d4)∧W.cell? ⟨w.heap.size+2,0,none⟩=some (.int .i64 15)∧W.cell? ⟨w.heap.size+2,1,none⟩=some (.int .i64 a)∧W.cell? ⟨w.heap.size+2,2,none⟩=some (.int .i64 b))) (by kernel_rfl) (HCX.out _ (below_drew (Below.refl _ _))) (fun hHeld47=>?_)
 refine tk 0 oRh210 ?v48 ?h48 ?_
 case h48=>(intro W h;(try dsimp only at h);go_simp;try with_reducible rfl)
 try simp only [sp]
 refine tk 1 oRh211 ?v49 ?h49 ?_
 case h49=>(intro W h;(try dsimp only at h);go_simp;try with_reducible rfl)
 try simp only [sp]
 refine tk 2 oRh212 ?v50 ?h50 ?_
 case h50=>(intro W h;(try dsimp only at h);go_simp;try with_reducible rfl)
 try simp only [sp]
 refine tk 3 oRh213 ?v51 ?h51 ?_
 case h51=>(intro W h;(try dsimp only at h);go_simp;try with_reducible rfl)
 try simp only [sp]
 refine wpAnyH_ready (rs:=[4]) (by kernel_rfl) (by simp) ?_
 refine AllReadyH.cons (o:=oRh214) rfl (fun K hK=>?_) AllReadyH.nil
 go_simp
 go_at_call 26
 refine HIN.out.mono ?_
 rintro e w6 ⟨rfl,hw6⟩
 subst hw6
 go_wp2_with fail
 refine hK.out _ _ (HCX.out _ (below_drew (Below.refl _ _))) (fun hHeld52=>?_)
 clear hK K
 try simp only [sp]
 refine tk 5 oRh215 ?v53 ?h53 ?_
 case h53=>(intro W h;(try dsimp only at h);go_simp;try with_reducible rfl)
 try simp only [sp]
 refine tk 6 oRh216 ?v54 ?h54 ?_
 case h54=>(intro W h;(try dsimp only at h);go_simp;try with_reducible rfl)
 try simp only [sp]
 refine tn 7 oRh217 ?_
 try simp only [sp]
 refine tn 8 oRh218 ?_
 try simp only [sp]
 refine tn 9 oRh219 ?_
 try simp only [sp]
 refine tn 10 oRh220 ?_
 try simp only [sp]
 refine tn 11 oRh221 ?_
 try simp only [sp]
 refine tn 12 oRh222 ?_
 try simp only [sp]
 refine tn 13 oRh223 ?_
 try simp only [sp]
 refine tn 14 oRh224 ?_
 try simp only [sp]
 refine tn 15 oRh225 ?_
 try simp only [sp]
 refine tn 16 oRh226 ?_
 try simp only [sp]
 refine tn 17 oRh227 ?_
 try simp only [sp]
 refine tn 18 oRh228 ?_
 try simp only [sp]
 refine tn 19 oRh229 ?_
 try simp only [sp]
 refine tn 20 oRh230 ?_
 try simp only [sp]
 refine tn 21 oRh231 ?_
 try simp only [sp]
 refine tk 22 oRh232 ?v70 ?h70 ?_
 case h70=>(intro W h;(try dsimp only at h);go_simp;try with_reducible rfl)
 try simp only [sp]
 refine wpAnyH_done (by kernel_rfl) ?_ _
 go_wp2_with fail
 go_ret2
 exact ⟨below_drew HWX.out,rfl⟩
theorem ob_16p (P:PgAt B w v1 v2 v3 v4 p) (hB:B≤w.heap.size) (s1:SlAt 1 IntP B w u1 f.lo) (s2:SlAt 1 IntP B w u2 f.re) (s3:SlAt 1 IntP B w u3 f.ar) (Rs:SlAt 1 IntP Bs w vs s) (O:OwI C w vr r) (hsC:Bs≤C) (hC:C≤w.heap.size) (hr:r.length≤300000000) {x:Int} (hs:s=r++[x]) (hkd:Kd x) (hpt:ptrB x=false):Calls Tryd.prog 45 #[.agg #[v1,v2,v3,v4],.agg #[.int .i64 f.pa,u1,u2,u3,u4],.agg #[.int .i64 16,.int .i64 a,.int .i64 b],vs,vr] w (EfNo C 8 w):=by
 obtain ⟨⟨a1,d1,rfl⟩,⟨a2,d2,rfl⟩,⟨a3,d3,rfl⟩,a4,d4,rfl⟩:=fm4 P
 obtain ⟨⟨b1,x1,rfl⟩,⟨b2,x2,rfl⟩,b3,x3,rfl⟩:=fm3 s1 s2 s3
 have R:=Rx.new (i:=⟨16,a,b⟩) (u4:=u4) P hB s1 s2 s3
 dsimp only at R
 obtain ⟨W1,hW1⟩:=exR R
 rw [hW1] at R
 obtain ⟨c00,c01,c02,c03⟩:=R.c0
 obtain ⟨c10,c11,c12,c13⟩:=R.c1
 obtain ⟨c20,c21,c22⟩:=R.c2
 obtain ⟨l0,l1,l2⟩:=R.lt
 dsimp only at c20 c21 c22
 have HR:=hide R
 clear P s1 s2 s3
 have b1:=R.bel
 obtain ⟨sa,ds,hvs⟩:=sl_form Rs
 obtain ⟨ar,dr,hvr⟩:=O.form
 subst hvs hvr
 have Rs1:SlAt 1 IntP Bs W1 (.slice sa s.length ds) s:=ints_keep (Nat.le_refl _) (fun j hj=>b1.block j (by omega)) Rs
 have HO:=hide (O.up b1)
 have HRS:=hide Rs1
 have HWC:=hide (show Below C w W1 from b1.mono hC)
 have hC1:C≤W1.heap.size:=Nat.le_trans hC b1.size
 clear Rs O b1 R
 obtain ⟨L,hL⟩ : ∃ L,s.length=L:=⟨_,rfl⟩
 obtain ⟨q,hq⟩ : ∃ q,L - 1=q:=⟨_,rfl⟩
 have hLr:L=r.length+1:=by rw [← hL,hs];simp
 have hy:s[q]?=some x:=by rw [hs,← hq,hLr,List.getElem?_append_right (by omega)];simp
 obtain ⟨g,o,c,hv,hg,hcy,_,_⟩:=il_at Rs1 hy
 cases hv
 rw [hL] at HRS ⊢
 have hgw:=Nat.lt_of_lt_of_le hg (Nat.le_trans hsC hC1)
 have hql:q<L:=by omega
 have dq:decide (q<L)=true:=by simpa using hql
 have dL:decide (0<L)=true:=by simp;omega
 have dL2:decide ((0:Int)<(L:Int))=true:=by simp;omega
 have hwq:IntKind.i64.wrap ((L:Int) - 1)=(q:Int):=by
  rw [show (L:Int) - 1=(q:Int) by omega]
  exact wrap_nat (by omega)
 have hqr:q=r.length:=by omega
 subst hqr
 clear hLr hy hs hL hq
 have HPT:=hide (rptr_any W1 (k:=x) ⟨by have:=hkd.1;omega,hkd.2⟩)
 rw [hpt] at HPT
 go_enter Tryd.func45,Tryd.ntmps45
 go_wp2_with fail
 refine HPT.out.mono ?_
 rintro e w5 ⟨rfl,hw5⟩
 subst hw5
 go_wp2_with fail
 go_ret2
 exact ⟨HWC.out,rfl⟩
theorem ob_16r (P:PgAt B w v1 v2 v3 v4 p) (hB:B≤w.heap.size) (s1:SlAt 1 IntP B w u1 f.lo) (s2:SlAt 1 IntP B w u2 f.re) (s3:SlAt 1 IntP B w u3 f.ar) (Rs:SlAt 1 IntP Bs w vs s) (O:OwI C w vr r) (hsC:Bs≤C) (hC:C≤w.heap.size) (hr:r.length≤300000000) {x:Int} (hs:s=r++[x]) (hkd:Kd x) (hpt:ptrB x=true) {t:Nat} (hbt:bareK x=2+2*(t:Int)) {l:List Int} (hl:p.ty[t]?=some l) (hty:p.ty.length≤1024) (hin:inB a l.length=false):Calls Tryd.prog 45 #[.agg #[v1,v2,v3,v4],.agg #[.int .i64 f.pa,u1,u2,u3,u4],.agg #[.int .i64 16,.int .i64 a,.int .i64 b],vs,vr] w (EfNo C 11 w):=by
 obtain ⟨⟨a1,d1,rfl⟩,⟨a2,d2,rfl⟩,⟨a3,d3,rfl⟩,a4,d4,rfl⟩:=fm4 P
 obtain ⟨⟨b1,x1,rfl⟩,⟨b2,x2,rfl⟩,b3,x3,rfl⟩:=fm3 s1 s2 s3
 have R:=Rx.new (i:=⟨16,a,b⟩) (u4:=u4) P hB s1 s2 s3
 dsimp only at R
 obtain ⟨W1,hW1⟩:=exR R
 rw [hW1] at R
 obtain ⟨c00,c01,c02,c03⟩:=R.c0
 obtain ⟨c10,c11,c12,c13⟩:=R.c1
 obtain ⟨c20,c21,c22⟩:=R.c2
 obtain ⟨l0,l1,l2⟩:=R.lt
 dsimp only at c20 c21 c22
 have HR:=hide R
 clear P s1 s2 s3
 have b1:=R.bel
 obtain ⟨sa,ds,hvs⟩:=sl_form Rs
 obtain ⟨ar,dr,hvr⟩:=O.form
 subst hvs hvr
 have Rs1:SlAt 1 IntP Bs W1 (.slice sa s.length ds) s:=ints_keep (Nat.le_refl _) (fun j hj=>b1.block j (by omega)) Rs
 have HO:=hide (O.up b1)
 have HRS:=hide Rs1
 have HWC:=hide (show Below C w W1 from b1.mono hC)
 have hC1:C≤W1.heap.size:=Nat.le_trans hC b1.size
 clear Rs O b1 R
 obtain ⟨L,hL⟩ : ∃ L,s.length=L:=⟨_,rfl⟩
 obtain ⟨q,hq⟩ : ∃ q,L - 1=q:=⟨_,rfl⟩
 have hLr:L=r.length+1:=by rw [← hL,hs];simp
 have hy:s[q]?=some x:=by rw [hs,← hq,hLr,List.getElem?_append_right (by omega)];simp
 obtain ⟨g,o,c,hv,hg,hcy,_,_⟩:=il_at Rs1 hy
 cases hv
 rw [hL] at HRS ⊢
 have hgw:=Nat.lt_of_lt_of_le hg (Nat.le_trans hsC hC1)
 have hql:q<L:=by omega
 have dq:decide (q<L)=true:=by simpa using hql
 have dL:decide (0<L)=true:=by simp;omega
 have dL2:decide ((0:Int)<(L:Int))=true:=by simp;omega
 have hwq:IntKind.i64.wrap ((L:Int) - 1)=(q:Int):=by
  rw [show (L:Int) - 1=(q:Int) by omega]
  exact wrap_nat (by omega)
 have hqr:q=r.length:=by omega
 subst hqr
 clear hLr hy hs hL hq
 have HPT:=hide (rptr_any W1 (k:=x) ⟨by have:=hkd.1;omega,hkd.2⟩)
 rw [hpt] at HPT
 have HBA:=hide (rbase_any W1.drew (k:=x) ⟨by have:=hkd.1;omega,hkd.2⟩)
 have htl:t<p.ty.length:=get_lt hl
 obtain ⟨m,hm⟩ : ∃ m:Nat,m=2*t:=⟨_,rfl⟩
 have hbm:bareK x=((m+2:Nat):Int):=by rw [hbt];omega
 rw [hbm] at HBA
 have hwb:IntKind.i64.wrap (((m+2:Nat):Int) - 2)=(m:Int):=by
  rw [show ((m+2:Nat):Int) - 2=(m:Int) by omega]
  exact wrap_nat (by omega)
 have hdv:(m:Int) / 2=(t:Int):=by omega
 have hdv2:m / 2=t:=by omega
 have hwt:IntKind.i64.wrap (t:Int)=(t:Int):=wrap_nat (by omega)
 obtain ⟨g2,o2,c2,nn,u,hv2,hnn,_,hg2,hc2,hsl⟩:=lst_at HR.out.pg.ty hl
 cases hv2
 obtain ⟨ua,uc,hu⟩:=sl_form hsl
 subst hu
 have HSL:=hide hsl
 have hg2w:g2<W1.heap.size:=by have:=HR.out.hB;have:=HR.out.bel.size;omega
 have dt:decide (t<p.ty.length)=true:=by simpa using htl
 clear hnn hsl hl hbt hbm hm
 generalize m+2=m2 at *
 go_enter Tryd.func45,Tryd.ntmps45
 go_wp2_with fail
 refine HPT.out.mono ?_
 rintro e w5 ⟨rfl,hw5⟩
 rw [hw5]
 clear hw5
 go_upto_region 27 with (fail)
 refine wp_region_held_drew (S:=(fun W:World=>W=W1.drew∧W.cell? ⟨w.heap.size,0,none⟩=some (.slice (some ⟨g2,o2,none⟩) p.ty.length d1)∧W.cell? ⟨g2,o2+t,none⟩=some (.slice ua l.length uc))) (by kernel_rfl) ⟨rfl,c00,hc2⟩ (fun hHeld71=>?_)
 refine tk 0 oRh20 ?v72 ?h72 ?_
 case h72=>(intro W h;(try dsimp only at h);go_simp;try with_reducible rfl)
 try simp only [sp]
 refine tk 1 oRh21 ?v73 ?h73 ?_
 case h73=>(intro W h;(try dsimp only at h);go_simp;try with_reducible rfl)
 try simp only [sp]
 refine tk 2 oRh22 ?v74 ?h74 ?_
 case h74=>(intro W h;(try dsimp only at h);go_simp;try with_reducible rfl)
 try simp only [sp]
 refine wpAnyH_ready (rs:=[3]) (by kernel_rfl) (by simp) ?_
 refine AllReadyH.cons (o:=oRh23) rfl (fun K hK=>?_) AllReadyH.nil
 go_simp
 go_at_call 61
 refine HBA.out.mono ?_
 rintro e w5 ⟨rfl,hw5⟩
 subst hw5
 go_wp2_with fail
 refine hK.out _ _ ⟨rfl,c00,hc2⟩ (fun hHeld75=>?_)
 clear hK K
 try simp only [sp]
 refine tk 4 oRh24 ?v76 ?h76 ?_
 case h76=>(intro W h;(try dsimp only at h);go_simp;try with_reducible rfl)
 try simp only [sp]
 refine tk 5 oRh25 ?v77 ?h77 ?_
 case h77=>(intro W h;(try dsimp only at h);go_simp;try with_reducible rfl)
 try simp only [sp]
 refine tk 6 oRh26 ?v78 ?h78 ?_
 case h78=>(intro W h;(try dsimp only at h);go_simp;try with_reducible rfl)
 try simp only [sp]
 refine tk 7 oRh27 ?v79 ?h79 ?_
 case h79=>(intro W h;(try dsimp only at h);go_simp;try with_reducible rfl)
 try simp only [sp]
 refine tk 8 oRh28 ?v80 ?h80 ?_
 case h80=>(intro W h;(try dsimp only at h);go_simp;try with_reducible rfl)
 try simp only [sp]
 refine tk 9 oRh29 ?v81 ?h81 ?_
 case h81=>(intro W h;(try dsimp only at h);go_simp;try with_reducible rfl)
 try simp only [sp]
 refine wpAnyH_done (by kernel_rfl) ?_ _
 have HRX:=hide (HR.out.up (below_drew (Below.refl W1.heap.size W1)))
 have HOX:=hide (HO.out.up (below_drew (Below.refl W1.heap.size W1)))
 have HWX:=hide (show Below C w W1.drew from below_drew HWC.out)
 have HSX:=hide (show SlAt 1 IntP B W1.drew (.slice ua l.length uc) l from ints_keep (Nat.le_refl _) (fun _ _=>rfl) HSL.out)
 have hCX:C≤W1.drew.heap.size:=hC1
 clear HPT HBA hwb hdv hdv2 c00 c01 c02 c03 c10 c11 c12 c13 c20 c21 c22 hc2 HR HO HWC HSL hC1 hW1
 generalize W1.drew=X at *
 have HIN:=hide (rin_any X.drew a l.length)
 rw [hin] at HIN
 have HCX:=hide (show ∀ W:World,Below X.heap.size X W→(fun W:World=>W.cell? ⟨w.heap.size,0,none⟩=some (.slice (some ⟨g2,o2,none⟩) p.ty.length d1)∧W.cell? ⟨w.heap.size,1,none⟩=some (.slice a2 p.fu.length d2)∧W.cell? ⟨w.heap.size,2,none⟩=some (.slice a3 p.ta.length d3)∧W.cell? ⟨w.heap.size,3,none⟩=some (.slice a4 p.st.length d4)∧W.cell? ⟨w.heap.size+2,0,none⟩=some (.int .i64 16)∧W.cell? ⟨w.heap.size+2,1,none⟩=some (.int .i64 a)∧W.cell? ⟨w.heap.size+2,2,none⟩=some (.int .i64 b)) W from fun W h=>by
  have R:=HRX.out.up h
  exact ⟨R.c0.1,R.c0.2.1,R.c0.2.2.1,R.c0.2.2.2,R.c2.1,R.c2.2.1,R.c2.2.2⟩)
 go_upto_region 28 with (fail)
 refine wp_region_held_drew (S:=(fun W:World=>W.cell? ⟨w.heap.size,0,none⟩=some (.slice (some ⟨g2,o2,none⟩) p.ty.length d1)∧W.cell? ⟨w.heap.size,1,none⟩=some (.slice a2 p.fu.length d2)∧W.cell? ⟨w.heap.size,2,none⟩=some (.slice a3 p.ta.length d3)∧W.cell? ⟨w.heap.size,3,none⟩=some (.slice a4 p.st.length d4)∧W.cell? ⟨w.heap.size+2,0,none⟩=some (.int .i64 16)∧W.cell? ⟨w.heap.size+2,1,none⟩=some (.int .i64 a)∧W.cell? ⟨w.heap.size+2,2,none⟩=some (.int .i64 b))) (by kernel_rfl) (HCX.out _ (below_drew (Below.refl _ _))) (fun hHeld82=>?_)
 refine tk 0 oRh210 ?v83 ?h83 ?_
 case h83=>(intro W h;(try dsimp only at h);go_simp;try with_reducible rfl)
 try simp only [sp]
 refine tk 1 oRh211 ?v84 ?h84 ?_
 case h84=>(intro W h;(try dsimp only at h);go_simp;try with_reducible rfl)
 try simp only [sp]
 refine tk 2 oRh212 ?v85 ?h85 ?_
 case h85=>(intro W h;(try dsimp only at h);go_simp;try with_reducible rfl)
 try simp only [sp]
 refine tk 3 oRh213 ?v86 ?h86 ?_
 case h86=>(intro W h;(try dsimp only at h);go_simp;try with_reducible rfl)
 try simp only [sp]
 refine wpAnyH_ready (rs:=[4]) (by kernel_rfl) (by simp) ?_
 refine AllReadyH.cons (o:=oRh214) rfl (fun K hK=>?_) AllReadyH.nil
 go_simp
 go_at_call 26
 refine HIN.out.mono ?_
 rintro e w6 ⟨rfl,hw6⟩
 subst hw6
 go_wp2_with fail
 refine hK.out _ _ (HCX.out _ (below_drew (Below.refl _ _))) (fun hHeld87=>?_)
 clear hK K
 try simp only [sp]
 refine tk 5 oRh215 ?v88 ?h88 ?_
 case h88=>(intro W h;(try dsimp only at h);go_simp;try with_reducible rfl)
 try simp only [sp]
 refine tk 6 oRh216 ?v89 ?h89 ?_
 case h89=>(intro W h;(try dsimp only at h);go_simp;try with_reducible rfl)
 try simp only [sp]
 refine tn 7 oRh217 ?_
 try simp only [sp]
 refine tn 8 oRh218 ?_
 try simp only [sp]
 refine tn 9 oRh219 ?_
 try simp only [sp]
 refine tn 10 oRh220 ?_
 try simp only [sp]
 refine tn 11 oRh221 ?_
 try simp only [sp]
 refine tn 12 oRh222 ?_
 try simp only [sp]
 refine tn 13 oRh223 ?_
 try simp only [sp]
 refine tn 14 oRh224 ?_
 try simp only [sp]
 refine tn 15 oRh225 ?_
 try simp only [sp]
 refine tn 16 oRh226 ?_
 try simp only [sp]
 refine tn 17 oRh227 ?_
 try simp only [sp]
 refine tn 18 oRh228 ?_
 try simp only [sp]
 refine tn 19 oRh229 ?_
 try simp only [sp]
 refine tn 20 oRh230 ?_
 try simp only [sp]
 refine tn 21 oRh231 ?_
 try simp only [sp]
 refine tk 22 oRh232 ?v105 ?h105 ?_
 case h105=>(intro W h;(try dsimp only at h);go_simp;try with_reducible rfl)
 try simp only [sp]
 refine wpAnyH_done (by kernel_rfl) ?_ _
 go_wp2_with fail
 go_ret2
 exact ⟨below_drew HWX.out,rfl⟩
theorem ob_14k (P:PgAt B w v1 v2 v3 v4 p) (hB:B≤w.heap.size) (s1:SlAt 1 IntP B w u1 f.lo) (s2:SlAt 1 IntP B w u2 f.re) (s3:SlAt 1 IntP B w u3 f.ar) (Rs:SlAt 1 IntP Bs w vs s) (O:OwI C w vr r) (hsC:Bs≤C) (hC:C≤w.heap.size) (hr:r.length≤300000000) {x:Int} (hs:s=r++[x]) (hkd:Kd x) (hpt:ptrB x=true) {t:Nat} (hbt:bareK x=2+2*(t:Int)) {l:List Int} (hl:p.ty[t]?=some l) (hty:p.ty.length≤1024) {n:Nat} {z:Int} (ha:a=(n:Int)) (hin:inB (n:Int) l.length=true) (hz:l[n]?=some z):Calls Tryd.prog 45 #[.agg #[v1,v2,v3,v4],.agg #[.int .i64 f.pa,u1,u2,u3,u4],.agg #[.int .i64 14,.int .i64 a,.int .i64 b],vs,vr] w (EfOk C (r++[z]) w):=by
 obtain ⟨⟨a1,d1,rfl⟩,⟨a2,d2,rfl⟩,⟨a3,d3,rfl⟩,a4,d4,rfl⟩:=fm4 P
 obtain ⟨⟨b1,x1,rfl⟩,⟨b2,x2,rfl⟩,b3,x3,rfl⟩:=fm3 s1 s2 s3
 have R:=Rx.new (i:=⟨14,a,b⟩) (u4:=u4) P hB s1 s2 s3
 dsimp only at R
 obtain ⟨W1,hW1⟩:=exR R
 rw [hW1] at R
 obtain ⟨c00,c01,c02,c03⟩:=R.c0
 obtain ⟨c10,c11,c12,c13⟩:=R.c1
 obtain ⟨c20,c21,c22⟩:=R.c2
 obtain ⟨l0,l1,l2⟩:=R.lt
 dsimp only at c20 c21 c22
 have HR:=hide R
 clear P s1 s2 s3
 have b1:=R.bel
 obtain ⟨sa,ds,hvs⟩:=sl_form Rs
 obtain ⟨ar,dr,hvr⟩:=O.form
 subst hvs hvr
 have Rs1:SlAt 1 IntP Bs W1 (.slice sa s.length ds) s:=ints_keep (Nat.le_refl _) (fun j hj=>b1.block j (by omega)) Rs
 have HO:=hide (O.up b1)
 have HRS:=hide Rs1
 have HWC:=hide (show Below C w W1 from b1.mono hC)
 have hC1:C≤W1.heap.size:=Nat.le_trans hC b1.size
 clear Rs O b1 R
 obtain ⟨L,hL⟩ : ∃ L,s.length=L:=⟨_,rfl⟩
 obtain ⟨q,hq⟩ : ∃ q,L - 1=q:=⟨_,rfl⟩
 have hLr:L=r.length+1:=by rw [← hL,hs];simp
 have hy:s[q]?=some x:=by rw [hs,← hq,hLr,List.getElem?_append_right (by omega)];simp
 obtain ⟨g,o,c,hv,hg,hcy,_,_⟩:=il_at Rs1 hy
 cases hv
 rw [hL] at HRS ⊢
 have hgw:=Nat.lt_of_lt_of_le hg (Nat.le_trans hsC hC1)
 have hql:q<L:=by omega
 have dq:decide (q<L)=true:=by simpa using hql
 have dL:decide (0<L)=true:=by simp;omega
 have dL2:decide ((0:Int)<(L:Int))=true:=by simp;omega
 have hwq:IntKind.i64.wrap ((L:Int) - 1)=(q:Int):=by
  rw [show (L:Int) - 1=(q:Int) by omega]
  exact wrap_nat (by omega)
 have hqr:q=r.length:=by omega
 subst hqr
 clear hLr hy hs hL hq
 subst ha
 have HPT:=hide (rptr_any W1 (k:=x) ⟨by have:=hkd.1;omega,hkd.2⟩)
 rw [hpt] at HPT
 have HBA:=hide (rbase_any W1.drew (k:=x) ⟨by have:=hkd.1;omega,hkd.2⟩)
 have htl:t<p.ty.length:=get_lt hl
 obtain ⟨m,hm⟩ : ∃ m:Nat,m=2*t:=⟨_,rfl⟩
 have hbm:bareK x=((m+2:Nat):Int):=by rw [hbt];omega
 rw [hbm] at HBA
 have hwb:IntKind.i64.wrap (((m+2:Nat):Int) - 2)=(m:Int):=by
  rw [show ((m+2:Nat):Int) - 2=(m:Int) by omega]
  exact wrap_nat (by omega)
 have hdv:(m:Int) / 2=(t:Int):=by omega
 have hdv2:m / 2=t:=by omega
 have hwt:IntKind.i64.wrap (t:Int)=(t:Int):=wrap_nat (by omega)
 obtain ⟨g2,o2,c2,nn,u,hv2,hnn,_,hg2,hc2,hsl⟩:=lst_at HR.out.pg.ty hl
 cases hv2
 obtain ⟨ua,uc,hu⟩:=sl_form hsl
 subst hu
 have HSL:=hide hsl
 have hg2w:g2<W1.heap.size:=by have:=HR.out.hB;have:=HR.out.bel.size;omega
 have dt:decide (t<p.ty.length)=true:=by simpa using htl
 clear hnn hsl hl hbt hbm hm
 generalize m+2=m2 at *
 go_enter Tryd.func45,Tryd.ntmps45
 go_wp2_with fail
 refine HPT.out.mono ?_
 rintro e w5 ⟨rfl,hw5⟩
 rw [hw5]
 clear hw5
 go_upto_region 27 with (fail)
 refine wp_region_held_drew (S:=(fun W:World=>W=W1.drew∧W.cell? ⟨w.heap.size,0,none⟩=some (.slice (some ⟨g2,o2,none⟩) p.ty.length d1)∧W.cell? ⟨g2,o2+t,none⟩=some (.slice ua l.length uc))) (by kernel_rfl) ⟨rfl,c00,hc2⟩ (fun hHeld106=>?_)
 refine tk 0 oRh20 ?v107 ?h107 ?_
 case h107=>(intro W h;(try dsimp only at h);go_simp;try with_reducible rfl)
 try simp only [sp]
 refine tk 1 oRh21 ?v108 ?h108 ?_
 case h108=>(intro W h;(try dsimp only at h);go_simp;try with_reducible rfl)
 try simp only [sp]
 refine tk 2 oRh22 ?v109 ?h109 ?_
 case h109=>(intro W h;(try dsimp only at h);go_simp;try with_reducible rfl)
 try simp only [sp]
 refine wpAnyH_ready (rs:=[3]) (by kernel_rfl) (by simp) ?_
 refine AllReadyH.cons (o:=oRh23) rfl (fun K hK=>?_) AllReadyH.nil
 go_simp
 go_at_call 61
 refine HBA.out.mono ?_
 rintro e w5 ⟨rfl,hw5⟩
 subst hw5
 go_wp2_with fail
 refine hK.out _ _ ⟨rfl,c00,hc2⟩ (fun hHeld110=>?_)
 clear hK K
 try simp only [sp]
 refine tk 4 oRh24 ?v111 ?h111 ?_
 case h111=>(intro W h;(try dsimp only at h);go_simp;try with_reducible rfl)
 try simp only [sp]
 refine tk 5 oRh25 ?v112 ?h112 ?_
 case h112=>(intro W h;(try dsimp only at h);go_simp;try with_reducible rfl)
 try simp only [sp]
 refine tk 6 oRh26 ?v113 ?h113 ?_
 case h113=>(intro W h;(try dsimp only at h);go_simp;try with_reducible rfl)
 try simp only [sp]
 refine tk 7 oRh27 ?v114 ?h114 ?_
 case h114=>(intro W h;(try dsimp only at h);go_simp;try with_reducible rfl)
 try simp only [sp]
 refine tk 8 oRh28 ?v115 ?h115 ?_
 case h115=>(intro W h;(try dsimp only at h);go_simp;try with_reducible rfl)
 try simp only [sp]
 refine tk 9 oRh29 ?v116 ?h116 ?_
 case h116=>(intro W h;(try dsimp only at h);go_simp;try with_reducible rfl)
 try simp only [sp]
 refine wpAnyH_done (by kernel_rfl) ?_ _
 have HRX:=hide (HR.out.up (below_drew (Below.refl W1.heap.size W1)))
 have HOX:=hide (HO.out.up (below_drew (Below.refl W1.heap.size W1)))
 have HWX:=hide (show Below C w W1.drew from below_drew HWC.out)
 have HSX:=hide (show SlAt 1 IntP B W1.drew (.slice ua l.length uc) l from ints_keep (Nat.le_refl _) (fun _ _=>rfl) HSL.out)
 have hCX:C≤W1.drew.heap.size:=hC1
 clear HPT HBA hwb hdv hdv2 c00 c01 c02 c03 c10 c11 c12 c13 c20 c21 c22 hc2 HR HO HWC HSL hC1 hW1
 generalize W1.drew=X at *
 have HIN:=hide (rin_any X.drew (n:Int) l.length)
 rw [hin] at HIN
 obtain ⟨gz,oz,cz,hvz,hgzB,hcz,hz1,hz2⟩:=il_at HSX.out hz
 cases hvz
 have hgz:gz<X.heap.size:=by have:=HRX.out.hB;have:=HRX.out.bel.size;omega
 have hnl:n<l.length:=get_lt hz
 have dn:decide (n<l.length)=true:=by simpa using hnl
 have HCX:=hide (show ∀ W:World,Below X.heap.size X W→(fun W:World=>W.cell? ⟨w.heap.size,0,none⟩=some (.slice (some ⟨g2,o2,none⟩) p.ty.length d1)∧W.cell? ⟨w.heap.size,1,none⟩=some (.slice a2 p.fu.length d2)∧W.cell? ⟨w.heap.size,2,none⟩=some (.slice a3 p.ta.length d3)∧W.cell? ⟨w.heap.size,3,none⟩=some (.slice a4 p.st.length d4)∧W.cell? ⟨w.heap.size+2,0,none⟩=some (.int .i64 14)∧W.cell? ⟨w.heap.size+2,1,none⟩=some (.int .i64 (n:Int))∧W.cell? ⟨w.heap.size+2,2,none⟩=some (.int .i64 b)∧W.cell? ⟨gz,oz+n,none⟩=some (.int .i64 z)) W from fun W h=>by
  have R:=HRX.out.up h
  exact ⟨R.c0.1,R.c0.2.1,R.c0.2.2.1,R.c0.2.2.2,R.c2.1,R.c2.2.1,R.c2.2.2,(h.cell (p:=⟨gz,oz+n,none⟩) hgz).trans hcz⟩)
 clear hz hin
 go_upto_region 28 with (fail)
 refine wp_region_held_drew (S:=(fun W:World=>W.cell? ⟨w.heap.size,0,none⟩=some (.slice (some ⟨g2,o2,none⟩) p.ty.length d1)∧W.cell? ⟨w.heap.size,1,none⟩=some (.slice a2 p.fu.length d2)∧W.cell? ⟨w.heap.size,2,none⟩=some (.slice a3 p.ta.length d3)∧W.cell? ⟨w.heap.size,3,none⟩=some (.slice a4 p.st.length d4)∧W.cell? ⟨w.heap.size+2,0,none⟩=some (.int .i64 14)∧W.cell? ⟨w.heap.size+2,1,none⟩=some (.int .i64 (n:Int))∧W.cell? ⟨w.heap.size+2,2,none⟩=some (.int .i64 b)∧W.cell? ⟨gz,oz+n,none⟩=some (.int .i64 z))) (by kernel_rfl) (HCX.out _ (below_drew (Below.refl _ _))) (fun hHeld117=>?_)
 refine tk 0 oRh210 ?v118 ?h118 ?_
 case h118=>(intro W h;(try dsimp only at h);go_simp;try with_reducible rfl)
 try simp only [sp]
 refine tk 1 oRh211 ?v119 ?h119 ?_
 case h119=>(intro W h;(try dsimp only at h);go_simp;try with_reducible rfl)
 try simp only [sp]
 refine tk 2 oRh212 ?v120 ?h120 ?_
 case h120=>(intro W h;(try dsimp only at h);go_simp;try with_reducible rfl)
 try simp only [sp]
 refine tk 3 oRh213 ?v121 ?h121 ?_
 case h121=>(intro W h;(try dsimp only at h);go_simp;try with_reducible rfl)
 try simp only [sp]
 refine wpAnyH_ready (rs:=[4]) (by kernel_rfl) (by simp) ?_
 refine AllReadyH.cons (o:=oRh214) rfl (fun K hK=>?_) AllReadyH.nil
 go_simp
 go_at_call 26
 refine HIN.out.mono ?_
 rintro e w6 ⟨rfl,hw6⟩
 subst hw6
 go_wp2_with fail
 refine hK.out _ _ (HCX.out _ (below_drew (Below.refl _ _))) (fun hHeld122=>?_)
 clear hK K
 try simp only [sp]
 refine tk 5 oRh215 ?v123 ?h123 ?_
 case h123=>(intro W h;(try dsimp only at h);go_simp;try with_reducible rfl)
 try simp only [sp]
 refine tk 6 oRh216 ?v124 ?h124 ?_
 case h124=>(intro W h;(try dsimp only at h);go_simp;try with_reducible rfl)
 try simp only [sp]
 refine tk 7 oRh217 ?v125 ?h125 ?_
 case h125=>(intro W h;(try dsimp only at h);go_simp;try with_reducible rfl)
 try simp only [sp]
 refine tk 8 oRh218 ?v126 ?h126 ?_
 case h126=>(intro W h;(try dsimp only at h);go_simp;try with_reducible rfl)
 try simp only [sp]
 refine tk 9 oRh219 ?v127 ?h127 ?_
 case h127=>(intro W h;(try dsimp only at h);go_simp;try with_reducible rfl)
 try simp only [sp]
 refine tk 10 oRh220 ?v128 ?h128 ?_
 case h128=>(intro W h;(try dsimp only at h);go_simp;try with_reducible rfl)
 try simp only [sp]
 refine tn 11 oRh221 ?_
 try simp only [sp]
 refine tn 12 oRh222 ?_
 try simp only [sp]
 refine tn 13 oRh223 ?_
 try simp only [sp]
 refine tn 14 oRh224 ?_
 try simp only [sp]
 refine tn 15 oRh225 ?_
 try simp only [sp]
 refine tn 16 oRh226 ?_
 try simp only [sp]
 refine tn 17 oRh227 ?_
 try simp only [sp]
 refine tn 18 oRh228 ?_
 try simp only [sp]
 refine tn 19 oRh229 ?_
 try simp only [sp]
 refine tn 20 oRh230 ?_
 try simp only [sp]
 refine tk 21 oRh231 ?v139 ?h139 ?_
 case h139=>(intro W h;(try dsimp only at h);go_simp;try with_reducible rfl)
 try simp only [sp]
 refine tk 22 oRh232 ?v140 ?h140 ?_
 case h140=>(intro W h;(try dsimp only at h);go_simp;try with_reducible rfl)
 try simp only [sp]
 refine wpAnyH_done (by kernel_rfl) ?_ _
 obtain ⟨k00,k01,k02,k03,k20,k21,k22,kz⟩:=HCX.out X.drew (below_drew (Below.refl _ _))
 have HOY:=hide (HOX.out.up (below_drew (Below.refl X.heap.size X)))
 have HWY:=hide (show Below C w X.drew from below_drew HWX.out)
 have hCY:C≤X.drew.heap.size:=hCX
 have hgY:gz<X.drew.heap.size:=hgz
 have hlY:w.heap.size<X.drew.heap.size∧w.heap.size+1<X.drew.heap.size∧w.heap.size+2<X.drew.heap.size:=HRX.out.lt
 obtain ⟨m0,m1,m2'⟩:=hlY
 clear HCX HIN
 generalize X.drew=Y at *
 obtain ⟨a8,c8,W8,r1,q1,q2⟩:=HOY.out.put [z] (fun y hy=>by simp at hy;subst hy;exact ⟨hz1,hz2⟩) (by simp;omega) (by simp) hCY
 have HQ1:=hide q1
 have HQ2:=hide (HWY.out.trans q2)
 clear q1 q2
 have r1:(Builtin.append_ #[44,44] 44 #[.slice ar r.length dr,.slice (some ⟨Y.heap.size,0,none⟩) 1 1]).run Tryd.prog (Y.alloc (.cells #[.int .i64 (z)] 3))=.ok (.slice a8 (r++[z]).length c8) W8:=r1
 go_wp2_with (at_builtin;(refine wpList_append_eq rfl _ _ 44 44 rfl rfl rfl r1 ?_;clear r1))
 go_ret2
 exact ⟨HQ2.out,a8,c8,by rw [List.length_append];rfl,HQ1.out⟩
theorem ob_15t (P:PgAt B w v1 v2 v3 v4 p) (hB:B≤w.heap.size) (s1:SlAt 1 IntP B w u1 f.lo) (s2:SlAt 1 IntP B w u2 f.re) (s3:SlAt 1 IntP B w u3 f.ar) (Rs:SlAt 1 IntP Bs w vs s) (O:OwI C w vr r) (hsC:Bs≤C) (hC:C≤w.heap.size) (hr:r.length≤300000000) {x y:Int} (hs:s=r++[x,y]) (hkd:Kd x) (hpt:ptrB x=true) {t:Nat} (hbt:bareK x=2+2*(t:Int)) {l:List Int} (hl:p.ty[t]?=some l) (hty:p.ty.length≤1024) {n:Nat} {z:Int} (ha:a=(n:Int)) (hin:inB (n:Int) l.length=true) (hz:l[n]?=some z) (hyz:y=z):Calls Tryd.prog 45 #[.agg #[v1,v2,v3,v4],.agg #[.int .i64 f.pa,u1,u2,u3,u4],.agg #[.int .i64 15,.int .i64 a,.int .i64 b],vs,vr] w (EfOk C r w):=by
 obtain ⟨⟨a1,d1,rfl⟩,⟨a2,d2,rfl⟩,⟨a3,d3,rfl⟩,a4,d4,rfl⟩:=fm4 P
 obtain ⟨⟨b1,x1,rfl⟩,⟨b2,x2,rfl⟩,b3,x3,rfl⟩:=fm3 s1 s2 s3
 have R:=Rx.new (i:=⟨15,a,b⟩) (u4:=u4) P hB s1 s2 s3
 dsimp only at R
 obtain ⟨W1,hW1⟩:=exR R
 rw [hW1] at R
 obtain ⟨c00,c01,c02,c03⟩:=R.c0
 obtain ⟨c10,c11,c12,c13⟩:=R.c1
 obtain ⟨c20,c21,c22⟩:=R.c2
 obtain ⟨l0,l1,l2⟩:=R.lt
 dsimp only at c20 c21 c22
 have HR:=hide R
 clear P s1 s2 s3
 have b1:=R.bel
 obtain ⟨sa,ds,hvs⟩:=sl_form Rs
 obtain ⟨ar,dr,hvr⟩:=O.form
 subst hvs hvr
 have Rs1:SlAt 1 IntP Bs W1 (.slice sa s.length ds) s:=ints_keep (Nat.le_refl _) (fun j hj=>b1.block j (by omega)) Rs
 have HO:=hide (O.up b1)
 have HRS:=hide Rs1
 have HWC:=hide (show Below C w W1 from b1.mono hC)
 have hC1:C≤W1.heap.size:=Nat.le_trans hC b1.size
 clear Rs O b1 R
 obtain ⟨L,hL⟩ : ∃ L,s.length=L:=⟨_,rfl⟩
 obtain ⟨q,hq⟩ : ∃ q,L - 1=q:=⟨_,rfl⟩
 have hLr:L=r.length+2:=by rw [← hL,hs];simp
 have hy:s[q]?=some y:=by rw [hs,← hq,hLr,List.getElem?_append_right (by omega)];simp
 have hx:s[r.length]?=some x:=by rw [hs,List.getElem?_append_right (by omega)];simp
 obtain ⟨g',o',c',hv',hg',hcx,_,_⟩:=il_at Rs1 hx
 obtain ⟨g,o,c,hv,hg,hcy,_,_⟩:=il_at Rs1 hy
 cases hv'
 cases hv
 rw [hL] at HRS ⊢
 have hgw:=Nat.lt_of_lt_of_le hg (Nat.le_trans hsC hC1)
 have hql:q<L:=by omega
 have dq:decide (q<L)=true:=by simpa using hql
 have dL:decide (0<L)=true:=by simp;omega
 have dL2:decide ((0:Int)<(L:Int))=true:=by simp;omega
 have hwq:IntKind.i64.wrap ((L:Int) - 1)=(q:Int):=by
  rw [show (L:Int) - 1=(q:Int) by omega]
  exact wrap_nat (by omega)
 have hrl:r.length<L:=by omega
 have drl:decide (r.length<L)=true:=by simpa using hrl
 clear hLr hy hs hL hq hx
 subst ha
 have HPT:=hide (rptr_any W1 (k:=x) ⟨by have:=hkd.1;omega,hkd.2⟩)
 rw [hpt] at HPT
 have HBA:=hide (rbase_any W1.drew (k:=x) ⟨by have:=hkd.1;omega,hkd.2⟩)
 have htl:t<p.ty.length:=get_lt hl
 obtain ⟨m,hm⟩ : ∃ m:Nat,m=2*t:=⟨_,rfl⟩
 have hbm:bareK x=((m+2:Nat):Int):=by rw [hbt];omega
 rw [hbm] at HBA
 have hwb:IntKind.i64.wrap (((m+2:Nat):Int) - 2)=(m:Int):=by
  rw [show ((m+2:Nat):Int) - 2=(m:Int) by omega]
  exact wrap_nat (by omega)
 have hdv:(m:Int) / 2=(t:Int):=by omega
 have hdv2:m / 2=t:=by omega
 have hwt:IntKind.i64.wrap (t:Int)=(t:Int):=wrap_nat (by omega)
 obtain ⟨g2,o2,c2,nn,u,hv2,hnn,_,hg2,hc2,hsl⟩:=lst_at HR.out.pg.ty hl
 cases hv2
 obtain ⟨ua,uc,hu⟩:=sl_form hsl
 subst hu
 have HSL:=hide hsl
 have hg2w:g2<W1.heap.size:=by have:=HR.out.hB;have:=HR.out.bel.size;omega
 have dt:decide (t<p.ty.length)=true:=by simpa using htl
 clear hnn hsl hl hbt hbm hm
 generalize m+2=m2 at *
 go_enter Tryd.func45,Tryd.ntmps45
 go_wp2_with fail
 refine HPT.out.mono ?_
 rintro e w5 ⟨rfl,hw5⟩
 rw [hw5]
 clear hw5
 go_upto_region 27 with (fail)
 refine wp_region_held_drew (S:=(fun W:World=>W=W1.drew∧W.cell? ⟨w.heap.size,0,none⟩=some (.slice (some ⟨g2,o2,none⟩) p.ty.length d1)∧W.cell? ⟨g2,o2+t,none⟩=some (.slice ua l.length uc))) (by kernel_rfl) ⟨rfl,c00,hc2⟩ (fun hHeld141=>?_)
 refine tk 0 oRh20 ?v142 ?h142 ?_
 case h142=>(intro W h;(try dsimp only at h);go_simp;try with_reducible rfl)
 try simp only [sp]
 refine tk 1 oRh21 ?v143 ?h143 ?_
 case h143=>(intro W h;(try dsimp only at h);go_simp;try with_reducible rfl)
 try simp only [sp]
 refine tk 2 oRh22 ?v144 ?h144 ?_
 case h144=>(intro W h;(try dsimp only at h);go_simp;try with_reducible rfl)
 try simp only [sp]
 refine wpAnyH_ready (rs:=[3]) (by kernel_rfl) (by simp) ?_
 refine AllReadyH.cons (o:=oRh23) rfl (fun K hK=>?_) AllReadyH.nil
 go_simp
 go_at_call 61
 refine HBA.out.mono ?_
 rintro e w5 ⟨rfl,hw5⟩
 subst hw5
 go_wp2_with fail
 refine hK.out _ _ ⟨rfl,c00,hc2⟩ (fun hHeld145=>?_)
 clear hK K
 try simp only [sp]
 refine tk 4 oRh24 ?v146 ?h146 ?_
 case h146=>(intro W h;(try dsimp only at h);go_simp;try with_reducible rfl)
 try simp only [sp]
 refine tk 5 oRh25 ?v147 ?h147 ?_
 case h147=>(intro W h;(try dsimp only at h);go_simp;try with_reducible rfl)
 try simp only [sp]
 refine tk 6 oRh26 ?v148 ?h148 ?_
 case h148=>(intro W h;(try dsimp only at h);go_simp;try with_reducible rfl)
 try simp only [sp]
 refine tk 7 oRh27 ?v149 ?h149 ?_
 case h149=>(intro W h;(try dsimp only at h);go_simp;try with_reducible rfl)
 try simp only [sp]
 refine tk 8 oRh28 ?v150 ?h150 ?_
 case h150=>(intro W h;(try dsimp only at h);go_simp;try with_reducible rfl)
 try simp only [sp]
 refine tk 9 oRh29 ?v151 ?h151 ?_
 case h151=>(intro W h;(try dsimp only at h);go_simp;try with_reducible rfl)
 try simp only [sp]
 refine wpAnyH_done (by kernel_rfl) ?_ _
 have HRX:=hide (HR.out.up (below_drew (Below.refl W1.heap.size W1)))
 have HOX:=hide (HO.out.up (below_drew (Below.refl W1.heap.size W1)))
 have HWX:=hide (show Below C w W1.drew from below_drew HWC.out)
 have HSX:=hide (show SlAt 1 IntP B W1.drew (.slice ua l.length uc) l from ints_keep (Nat.le_refl _) (fun _ _=>rfl) HSL.out)
 have hCX:C≤W1.drew.heap.size:=hC1
 clear HPT HBA hwb hdv hdv2 c00 c01 c02 c03 c10 c11 c12 c13 c20 c21 c22 hc2 HR HO HWC HSL hC1 hW1
 generalize W1.drew=X at *
 have HIN:=hide (rin_any X.drew (n:Int) l.length)
 rw [hin] at HIN
 obtain ⟨gz,oz,cz,hvz,hgzB,hcz,hz1,hz2⟩:=il_at HSX.out hz
 cases hvz
 have hgz:gz<X.heap.size:=by have:=HRX.out.hB;have:=HRX.out.bel.size;omega
 have hnl:n<l.length:=get_lt hz
 have dn:decide (n<l.length)=true:=by simpa using hnl
 have HCX:=hide (show ∀ W:World,Below X.heap.size X W→(fun W:World=>W.cell? ⟨w.heap.size,0,none⟩=some (.slice (some ⟨g2,o2,none⟩) p.ty.length d1)∧W.cell? ⟨w.heap.size,1,none⟩=some (.slice a2 p.fu.length d2)∧W.cell? ⟨w.heap.size,2,none⟩=some (.slice a3 p.ta.length d3)∧W.cell? ⟨w.heap.size,3,none⟩=some (.slice a4 p.st.length d4)∧W.cell? ⟨w.heap.size+2,0,none⟩=some (.int .i64 15)∧W.cell? ⟨w.heap.size+2,1,none⟩=some (.int .i64 (n:Int))∧W.cell? ⟨w.heap.size+2,2,none⟩=some (.int .i64 b)∧W.cell? ⟨gz,oz+n,none⟩=some (.int .i64 z)) W from fun W h=>by
  have R:=HRX.out.up h
  exact ⟨R.c0.1,R.c0.2.1,R.c0.2.2.1,R.c0.2.2.2,R.c2.1,R.c2.2.1,R.c2.2.2,(h.cell (p:=⟨gz,oz+n,none⟩) hgz).trans hcz⟩)
 clear hz hin
 go_upto_region 28 with (fail)
 refine wp_region_held_drew (S:=(fun W:World=>W.cell? ⟨w.heap.size,0,none⟩=some (.slice (some ⟨g2,o2,none⟩) p.ty.length d1)∧W.cell? ⟨w.heap.size,1,none⟩=some (.slice a2 p.fu.length d2)∧W.cell? ⟨w.heap.size,2,none⟩=some (.slice a3 p.ta.length d3)∧W.cell? ⟨w.heap.size,3,none⟩=some (.slice a4 p.st.length d4)∧W.cell? ⟨w.heap.size+2,0,none⟩=some (.int .i64 15)∧W.cell? ⟨w.heap.size+2,1,none⟩=some (.int .i64 (n:Int))∧W.cell? ⟨w.heap.size+2,2,none⟩=some (.int .i64 b)∧W.cell? ⟨gz,oz+n,none⟩=some (.int .i64 z))) (by kernel_rfl) (HCX.out _ (below_drew (Below.refl _ _))) (fun hHeld152=>?_)
 refine tk 0 oRh210 ?v153 ?h153 ?_
 case h153=>(intro W h;(try dsimp only at h);go_simp;try with_reducible rfl)
 try simp only [sp]
 refine tk 1 oRh211 ?v154 ?h154 ?_
 case h154=>(intro W h;(try dsimp only at h);go_simp;try with_reducible rfl)
 try simp only [sp]
 refine tk 2 oRh212 ?v155 ?h155 ?_
 case h155=>(intro W h;(try dsimp only at h);go_simp;try with_reducible rfl)
 try simp only [sp]
 refine tk 3 oRh213 ?v156 ?h156 ?_
 case h156=>(intro W h;(try dsimp only at h);go_simp;try with_reducible rfl)
 try simp only [sp]
 refine wpAnyH_ready (rs:=[4]) (by kernel_rfl) (by simp) ?_
 refine AllReadyH.cons (o:=oRh214) rfl (fun K hK=>?_) AllReadyH.nil
 go_simp
 go_at_call 26
 refine HIN.out.mono ?_
 rintro e w6 ⟨rfl,hw6⟩
 subst hw6
 go_wp2_with fail
 refine hK.out _ _ (HCX.out _ (below_drew (Below.refl _ _))) (fun hHeld157=>?_)
 clear hK K
 try simp only [sp]
 refine tk 5 oRh215 ?v158 ?h158 ?_
 case h158=>(intro W h;(try dsimp only at h);go_simp;try with_reducible rfl)
 try simp only [sp]
 refine tk 6 oRh216 ?v159 ?h159 ?_
 case h159=>(intro W h;(try dsimp only at h);go_simp;try with_reducible rfl)
 try simp only [sp]
 refine tk 7 oRh217 ?v160 ?h160 ?_
 case h160=>(intro W h;(try dsimp only at h);go_simp;try with_reducible rfl)
 try simp only [sp]
 refine tk 8 oRh218 ?v161 ?h161 ?_
 case h161=>(intro W h;(try dsimp only at h);go_simp;try with_reducible rfl)
 try simp only [sp]
 refine tk 9 oRh219 ?v162 ?h162 ?_
 case h162=>(intro W h;(try dsimp only at h);go_simp;try with_reducible rfl)
 try simp only [sp]
 refine tk 10 oRh220 ?v163 ?h163 ?_
 case h163=>(intro W h;(try dsimp only at h);go_simp;try with_reducible rfl)
 try simp only [sp]
 refine tn 11 oRh221 ?_
 try simp only [sp]
 refine tn 12 oRh222 ?_
 try simp only [sp]
 refine tn 13 oRh223 ?_
 try simp only [sp]
 refine tn 14 oRh224 ?_
 try simp only [sp]
 refine tn 15 oRh225 ?_
 try simp only [sp]
 refine tn 16 oRh226 ?_
 try simp only [sp]
 refine tn 17 oRh227 ?_
 try simp only [sp]
 refine tn 18 oRh228 ?_
 try simp only [sp]
 refine tn 19 oRh229 ?_
 try simp only [sp]
 refine tn 20 oRh230 ?_
 try simp only [sp]
 refine tk 21 oRh231 ?v174 ?h174 ?_
 case h174=>(intro W h;(try dsimp only at h);go_simp;try with_reducible rfl)
 try simp only [sp]
 refine tk 22 oRh232 ?v175 ?h175 ?_
 case h175=>(intro W h;(try dsimp only at h);go_simp;try with_reducible rfl)
 try simp only [sp]
 refine wpAnyH_done (by kernel_rfl) ?_ _
 obtain ⟨k00,k01,k02,k03,k20,k21,k22,kz⟩:=HCX.out X.drew (below_drew (Below.refl _ _))
 have HOY:=hide (HOX.out.up (below_drew (Below.refl X.heap.size X)))
 have HWY:=hide (show Below C w X.drew from below_drew HWX.out)
 have hCY:C≤X.drew.heap.size:=hCX
 have hgY:gz<X.drew.heap.size:=hgz
 have hlY:w.heap.size<X.drew.heap.size∧w.heap.size+1<X.drew.heap.size∧w.heap.size+2<X.drew.heap.size:=HRX.out.lt
 obtain ⟨m0,m1,m2'⟩:=hlY
 clear HCX HIN
 generalize X.drew=Y at *
 have eyz:(y == z)=true:=by simp [hyz]
 have HKD:=hide (rkt_any (w:=Y) ar r.length dr)
 clear hyz
 go_wp2_with fail
 refine HKD.out.mono ?_
 rintro e w9 ⟨rfl,hw9⟩
 subst hw9
 go_wp2_with fail
 go_ret2
 exact ⟨HWY.out,ar,dr,rfl,HOY.out⟩
theorem ob_15f (P:PgAt B w v1 v2 v3 v4 p) (hB:B≤w.heap.size) (s1:SlAt 1 IntP B w u1 f.lo) (s2:SlAt 1 IntP B w u2 f.re) (s3:SlAt 1 IntP B w u3 f.ar) (Rs:SlAt 1 IntP Bs w vs s) (O:OwI C w vr r) (hsC:Bs≤C) (hC:C≤w.heap.size) (hr:r.length≤300000000) {x y:Int} (hs:s=r++[x,y]) (hkd:Kd x) (hpt:ptrB x=true) {t:Nat} (hbt:bareK x=2+2*(t:Int)) {l:List Int} (hl:p.ty[t]?=some l) (hty:p.ty.length≤1024) {n:Nat} {z:Int} (ha:a=(n:Int)) (hin:inB (n:Int) l.length=true) (hz:l[n]?=some z) (hyz:¬ y=z):Calls Tryd.prog 45 #[.agg #[v1,v2,v3,v4],.agg #[.int .i64 f.pa,u1,u2,u3,u4],.agg #[.int .i64 15,.int .i64 a,.int .i64 b],vs,vr] w (EfNo C 8 w):=by
 obtain ⟨⟨a1,d1,rfl⟩,⟨a2,d2,rfl⟩,⟨a3,d3,rfl⟩,a4,d4,rfl⟩:=fm4 P
 obtain ⟨⟨b1,x1,rfl⟩,⟨b2,x2,rfl⟩,b3,x3,rfl⟩:=fm3 s1 s2 s3
 have R:=Rx.new (i:=⟨15,a,b⟩) (u4:=u4) P hB s1 s2 s3
 dsimp only at R
 obtain ⟨W1,hW1⟩:=exR R
 rw [hW1] at R
 obtain ⟨c00,c01,c02,c03⟩:=R.c0
 obtain ⟨c10,c11,c12,c13⟩:=R.c1
 obtain ⟨c20,c21,c22⟩:=R.c2
 obtain ⟨l0,l1,l2⟩:=R.lt
 dsimp only at c20 c21 c22
 have HR:=hide R
 clear P s1 s2 s3
 have b1:=R.bel
 obtain ⟨sa,ds,hvs⟩:=sl_form Rs
 obtain ⟨ar,dr,hvr⟩:=O.form
 subst hvs hvr
 have Rs1:SlAt 1 IntP Bs W1 (.slice sa s.length ds) s:=ints_keep (Nat.le_refl _) (fun j hj=>b1.block j (by omega)) Rs
 have HO:=hide (O.up b1)
 have HRS:=hide Rs1
 have HWC:=hide (show Below C w W1 from b1.mono hC)
 have hC1:C≤W1.heap.size:=Nat.le_trans hC b1.size
 clear Rs O b1 R
 obtain ⟨L,hL⟩ : ∃ L,s.length=L:=⟨_,rfl⟩
 obtain ⟨q,hq⟩ : ∃ q,L - 1=q:=⟨_,rfl⟩
 have hLr:L=r.length+2:=by rw [← hL,hs];simp
 have hy:s[q]?=some y:=by rw [hs,← hq,hLr,List.getElem?_append_right (by omega)];simp
 have hx:s[r.length]?=some x:=by rw [hs,List.getElem?_append_right (by omega)];simp
 obtain ⟨g',o',c',hv',hg',hcx,_,_⟩:=il_at Rs1 hx
 obtain ⟨g,o,c,hv,hg,hcy,_,_⟩:=il_at Rs1 hy
 cases hv'
 cases hv
 rw [hL] at HRS ⊢
 have hgw:=Nat.lt_of_lt_of_le hg (Nat.le_trans hsC hC1)
 have hql:q<L:=by omega
 have dq:decide (q<L)=true:=by simpa using hql
 have dL:decide (0<L)=true:=by simp;omega
 have dL2:decide ((0:Int)<(L:Int))=true:=by simp;omega
 have hwq:IntKind.i64.wrap ((L:Int) - 1)=(q:Int):=by
  rw [show (L:Int) - 1=(q:Int) by omega]
  exact wrap_nat (by omega)
 have hrl:r.length<L:=by omega
 have drl:decide (r.length<L)=true:=by simpa using hrl
 clear hLr hy hs hL hq hx
 subst ha
 have HPT:=hide (rptr_any W1 (k:=x) ⟨by have:=hkd.1;omega,hkd.2⟩)
 rw [hpt] at HPT
 have HBA:=hide (rbase_any W1.drew (k:=x) ⟨by have:=hkd.1;omega,hkd.2⟩)
 have htl:t<p.ty.length:=get_lt hl
 obtain ⟨m,hm⟩ : ∃ m:Nat,m=2*t:=⟨_,rfl⟩
 have hbm:bareK x=((m+2:Nat):Int):=by rw [hbt];omega
 rw [hbm] at HBA
 have hwb:IntKind.i64.wrap (((m+2:Nat):Int) - 2)=(m:Int):=by
  rw [show ((m+2:Nat):Int) - 2=(m:Int) by omega]
  exact wrap_nat (by omega)
 have hdv:(m:Int) / 2=(t:Int):=by omega
 have hdv2:m / 2=t:=by omega
 have hwt:IntKind.i64.wrap (t:Int)=(t:Int):=wrap_nat (by omega)
 obtain ⟨g2,o2,c2,nn,u,hv2,hnn,_,hg2,hc2,hsl⟩:=lst_at HR.out.pg.ty hl
 cases hv2
 obtain ⟨ua,uc,hu⟩:=sl_form hsl
 subst hu
 have HSL:=hide hsl
 have hg2w:g2<W1.heap.size:=by have:=HR.out.hB;have:=HR.out.bel.size;omega
 have dt:decide (t<p.ty.length)=true:=by simpa using htl
 clear hnn hsl hl hbt hbm hm
 generalize m+2=m2 at *
 go_enter Tryd.func45,Tryd.ntmps45
 go_wp2_with fail
 refine HPT.out.mono ?_
 rintro e w5 ⟨rfl,hw5⟩
 rw [hw5]
 clear hw5
 go_upto_region 27 with (fail)
 refine wp_region_held_drew (S:=(fun W:World=>W=W1.drew∧W.cell? ⟨w.heap.size,0,none⟩=some (.slice (some ⟨g2,o2,none⟩) p.ty.length d1)∧W.cell? ⟨g2,o2+t,none⟩=some (.slice ua l.length uc))) (by kernel_rfl) ⟨rfl,c00,hc2⟩ (fun hHeld176=>?_)
 refine tk 0 oRh20 ?v177 ?h177 ?_
 case h177=>(intro W h;(try dsimp only at h);go_simp;try with_reducible rfl)
 try simp only [sp]
 refine tk 1 oRh21 ?v178 ?h178 ?_
 case h178=>(intro W h;(try dsimp only at h);go_simp;try with_reducible rfl)
 try simp only [sp]
 refine tk 2 oRh22 ?v179 ?h179 ?_
 case h179=>(intro W h;(try dsimp only at h);go_simp;try with_reducible rfl)
 try simp only [sp]
 refine wpAnyH_ready (rs:=[3]) (by kernel_rfl) (by simp) ?_
 refine AllReadyH.cons (o:=oRh23) rfl (fun K hK=>?_) AllReadyH.nil
 go_simp
 go_at_call 61
 refine HBA.out.mono ?_
 rintro e w5 ⟨rfl,hw5⟩
 subst hw5
 go_wp2_with fail
 refine hK.out _ _ ⟨rfl,c00,hc2⟩ (fun hHeld180=>?_)
 clear hK K
 try simp only [sp]
 refine tk 4 oRh24 ?v181 ?h181 ?_
 case h181=>(intro W h;(try dsimp only at h);go_simp;try with_reducible rfl)
 try simp only [sp]
 refine tk 5 oRh25 ?v182 ?h182 ?_
 case h182=>(intro W h;(try dsimp only at h);go_simp;try with_reducible rfl)
 try simp only [sp]
 refine tk 6 oRh26 ?v183 ?h183 ?_
 case h183=>(intro W h;(try dsimp only at h);go_simp;try with_reducible rfl)
 try simp only [sp]
 refine tk 7 oRh27 ?v184 ?h184 ?_
 case h184=>(intro W h;(try dsimp only at h);go_simp;try with_reducible rfl)
 try simp only [sp]
 refine tk 8 oRh28 ?v185 ?h185 ?_
 case h185=>(intro W h;(try dsimp only at h);go_simp;try with_reducible rfl)
 try simp only [sp]
 refine tk 9 oRh29 ?v186 ?h186 ?_
 case h186=>(intro W h;(try dsimp only at h);go_simp;try with_reducible rfl)
 try simp only [sp]
 refine wpAnyH_done (by kernel_rfl) ?_ _
 have HRX:=hide (HR.out.up (below_drew (Below.refl W1.heap.size W1)))
 have HOX:=hide (HO.out.up (below_drew (Below.refl W1.heap.size W1)))
 have HWX:=hide (show Below C w W1.drew from below_drew HWC.out)
 have HSX:=hide (show SlAt 1 IntP B W1.drew (.slice ua l.length uc) l from ints_keep (Nat.le_refl _) (fun _ _=>rfl) HSL.out)
 have hCX:C≤W1.drew.heap.size:=hC1
 clear HPT HBA hwb hdv hdv2 c00 c01 c02 c03 c10 c11 c12 c13 c20 c21 c22 hc2 HR HO HWC HSL hC1 hW1
 generalize W1.drew=X at *
 have HIN:=hide (rin_any X.drew (n:Int) l.length)
 rw [hin] at HIN
 obtain ⟨gz,oz,cz,hvz,hgzB,hcz,hz1,hz2⟩:=il_at HSX.out hz
 cases hvz
 have hgz:gz<X.heap.size:=by have:=HRX.out.hB;have:=HRX.out.bel.size;omega
 have hnl:n<l.length:=get_lt hz
 have dn:decide (n<l.length)=true:=by simpa using hnl
 have HCX:=hide (show ∀ W:World,Below X.heap.size X W→(fun W:World=>W.cell? ⟨w.heap.size,0,none⟩=some (.slice (some ⟨g2,o2,none⟩) p.ty.length d1)∧W.cell? ⟨w.heap.size,1,none⟩=some (.slice a2 p.fu.length d2)∧W.cell? ⟨w.heap.size,2,none⟩=some (.slice a3 p.ta.length d3)∧W.cell? ⟨w.heap.size,3,none⟩=some (.slice a4 p.st.length d4)∧W.cell? ⟨w.heap.size+2,0,none⟩=some (.int .i64 15)∧W.cell? ⟨w.heap.size+2,1,none⟩=some (.int .i64 (n:Int))∧W.cell? ⟨w.heap.size+2,2,none⟩=some (.int .i64 b)∧W.cell? ⟨gz,oz+n,none⟩=some (.int .i64 z)) W from fun W h=>by
  have R:=HRX.out.up h
  exact ⟨R.c0.1,R.c0.2.1,R.c0.2.2.1,R.c0.2.2.2,R.c2.1,R.c2.2.1,R.c2.2.2,(h.cell (p:=⟨gz,oz+n,none⟩) hgz).trans hcz⟩)
 clear hz hin
 go_upto_region 28 with (fail)
 refine wp_region_held_drew (S:=(fun W:World=>W.cell? ⟨w.heap.size,0,none⟩=some (.slice (some ⟨g2,o2,none⟩) p.ty.length d1)∧W.cell? ⟨w.heap.size,1,none⟩=some (.slice a2 p.fu.length d2)∧W.cell? ⟨w.heap.size,2,none⟩=some (.slice a3 p.ta.length d3)∧W.cell? ⟨w.heap.size,3,none⟩=some (.slice a4 p.st.length d4)∧W.cell? ⟨w.heap.size+2,0,none⟩=some (.int .i64 15)∧W.cell? ⟨w.heap.size+2,1,none⟩=some (.int .i64 (n:Int))∧W.cell? ⟨w.heap.size+2,2,none⟩=some (.int .i64 b)∧W.cell? ⟨gz,oz+n,none⟩=some (.int .i64 z))) (by kernel_rfl) (HCX.out _ (below_drew (Below.refl _ _))) (fun hHeld187=>?_)
 refine tk 0 oRh210 ?v188 ?h188 ?_
 case h188=>(intro W h;(try dsimp only at h);go_simp;try with_reducible rfl)
 try simp only [sp]
 refine tk 1 oRh211 ?v189 ?h189 ?_
 case h189=>(intro W h;(try dsimp only at h);go_simp;try with_reducible rfl)
 try simp only [sp]
 refine tk 2 oRh212 ?v190 ?h190 ?_
 case h190=>(intro W h;(try dsimp only at h);go_simp;try with_reducible rfl)
 try simp only [sp]
 refine tk 3 oRh213 ?v191 ?h191 ?_
 case h191=>(intro W h;(try dsimp only at h);go_simp;try with_reducible rfl)
 try simp only [sp]
 refine wpAnyH_ready (rs:=[4]) (by kernel_rfl) (by simp) ?_
 refine AllReadyH.cons (o:=oRh214) rfl (fun K hK=>?_) AllReadyH.nil
 go_simp
 go_at_call 26
 refine HIN.out.mono ?_
 rintro e w6 ⟨rfl,hw6⟩
 subst hw6
 go_wp2_with fail
 refine hK.out _ _ (HCX.out _ (below_drew (Below.refl _ _))) (fun hHeld192=>?_)
 clear hK K
 try simp only [sp]
 refine tk 5 oRh215 ?v193 ?h193 ?_
 case h193=>(intro W h;(try dsimp only at h);go_simp;try with_reducible rfl)
 try simp only [sp]
 refine tk 6 oRh216 ?v194 ?h194 ?_
 case h194=>(intro W h;(try dsimp only at h);go_simp;try with_reducible rfl)
 try simp only [sp]
 refine tk 7 oRh217 ?v195 ?h195 ?_
 case h195=>(intro W h;(try dsimp only at h);go_simp;try with_reducible rfl)
 try simp only [sp]
 refine tk 8 oRh218 ?v196 ?h196 ?_
 case h196=>(intro W h;(try dsimp only at h);go_simp;try with_reducible rfl)
 try simp only [sp]
 refine tk 9 oRh219 ?v197 ?h197 ?_
 case h197=>(intro W h;(try dsimp only at h);go_simp;try with_reducible rfl)
 try simp only [sp]
 refine tk 10 oRh220 ?v198 ?h198 ?_
 case h198=>(intro W h;(try dsimp only at h);go_simp;try with_reducible rfl)
 try simp only [sp]
 refine tn 11 oRh221 ?_
 try simp only [sp]
 refine tn 12 oRh222 ?_
 try simp only [sp]
 refine tn 13 oRh223 ?_
 try simp only [sp]
 refine tn 14 oRh224 ?_
 try simp only [sp]
 refine tn 15 oRh225 ?_
 try simp only [sp]
 refine tn 16 oRh226 ?_
 try simp only [sp]
 refine tn 17 oRh227 ?_
 try simp only [sp]
 refine tn 18 oRh228 ?_
 try simp only [sp]
 refine tn 19 oRh229 ?_
 try simp only [sp]
 refine tn 20 oRh230 ?_
 try simp only [sp]
 refine tk 21 oRh231 ?v209 ?h209 ?_
 case h209=>(intro W h;(try dsimp only at h);go_simp;try with_reducible rfl)
 try simp only [sp]
 refine tk 22 oRh232 ?v210 ?h210 ?_
 case h210=>(intro W h;(try dsimp only at h);go_simp;try with_reducible rfl)
 try simp only [sp]
 refine wpAnyH_done (by kernel_rfl) ?_ _
 obtain ⟨k00,k01,k02,k03,k20,k21,k22,kz⟩:=HCX.out X.drew (below_drew (Below.refl _ _))
 have HOY:=hide (HOX.out.up (below_drew (Below.refl X.heap.size X)))
 have HWY:=hide (show Below C w X.drew from below_drew HWX.out)
 have hCY:C≤X.drew.heap.size:=hCX
 have hgY:gz<X.drew.heap.size:=hgz
 have hlY:w.heap.size<X.drew.heap.size∧w.heap.size+1<X.drew.heap.size∧w.heap.size+2<X.drew.heap.size:=HRX.out.lt
 obtain ⟨m0,m1,m2'⟩:=hlY
 clear HCX HIN
 generalize X.drew=Y at *
 have eyz:(y == z)=false:=by simpa using hyz
 have HKD:=hide (rkf_any (w:=Y) ar r.length dr)
 clear hyz
 go_wp2_with fail
 refine HKD.out.mono ?_
 rintro e w9 ⟨rfl,hw9⟩
 subst hw9
 go_wp2_with fail
 go_ret2
 exact ⟨HWY.out,rfl⟩
theorem ob_16f (P:PgAt B w v1 v2 v3 v4 p) (hB:B≤w.heap.size) (s1:SlAt 1 IntP B w u1 f.lo) (s2:SlAt 1 IntP B w u2 f.re) (s3:SlAt 1 IntP B w u3 f.ar) (Rs:SlAt 1 IntP Bs w vs s) (O:OwI C w vr r) (hsC:Bs≤C) (hC:C≤w.heap.size) (hr:r.length≤300000000) {x:Int} (hs:s=r++[x]) (hkd:Kd x) (hpt:ptrB x=true) {t:Nat} (hbt:bareK x=2+2*(t:Int)) {l:List Int} (hl:p.ty[t]?=some l) (hty:p.ty.length≤1024) {n:Nat} {z:Int} (ha:a=(n:Int)) (hin:inB (n:Int) l.length=true) (hz:l[n]?=some z) (hsg:(inB b p.ty.length && onlyB p b z)=false):Calls Tryd.prog 45 #[.agg #[v1,v2,v3,v4],.agg #[.int .i64 f.pa,u1,u2,u3,u4],.agg #[.int .i64 16,.int .i64 a,.int .i64 b],vs,vr] w (EfNo C 11 w):=by
 obtain ⟨⟨a1,d1,rfl⟩,⟨a2,d2,rfl⟩,⟨a3,d3,rfl⟩,a4,d4,rfl⟩:=fm4 P
 obtain ⟨⟨b1,x1,rfl⟩,⟨b2,x2,rfl⟩,b3,x3,rfl⟩:=fm3 s1 s2 s3
 have R:=Rx.new (i:=⟨16,a,b⟩) (u4:=u4) P hB s1 s2 s3
 dsimp only at R
 obtain ⟨W1,hW1⟩:=exR R
 rw [hW1] at R
 obtain ⟨c00,c01,c02,c03⟩:=R.c0
 obtain ⟨c10,c11,c12,c13⟩:=R.c1
 obtain ⟨c20,c21,c22⟩:=R.c2
 obtain ⟨l0,l1,l2⟩:=R.lt
 dsimp only at c20 c21 c22
 have HR:=hide R
 clear P s1 s2 s3
 have b1:=R.bel
 obtain ⟨sa,ds,hvs⟩:=sl_form Rs
 obtain ⟨ar,dr,hvr⟩:=O.form
 subst hvs hvr
 have Rs1:SlAt 1 IntP Bs W1 (.slice sa s.length ds) s:=ints_keep (Nat.le_refl _) (fun j hj=>b1.block j (by omega)) Rs
 have HO:=hide (O.up b1)
 have HRS:=hide Rs1
 have HWC:=hide (show Below C w W1 from b1.mono hC)
 have hC1:C≤W1.heap.size:=Nat.le_trans hC b1.size
 clear Rs O b1 R
 obtain ⟨L,hL⟩ : ∃ L,s.length=L:=⟨_,rfl⟩
 obtain ⟨q,hq⟩ : ∃ q,L - 1=q:=⟨_,rfl⟩
 have hLr:L=r.length+1:=by rw [← hL,hs];simp
 have hy:s[q]?=some x:=by rw [hs,← hq,hLr,List.getElem?_append_right (by omega)];simp
 obtain ⟨g,o,c,hv,hg,hcy,_,_⟩:=il_at Rs1 hy
 cases hv
 rw [hL] at HRS ⊢
 have hgw:=Nat.lt_of_lt_of_le hg (Nat.le_trans hsC hC1)
 have hql:q<L:=by omega
 have dq:decide (q<L)=true:=by simpa using hql
 have dL:decide (0<L)=true:=by simp;omega
 have dL2:decide ((0:Int)<(L:Int))=true:=by simp;omega
 have hwq:IntKind.i64.wrap ((L:Int) - 1)=(q:Int):=by
  rw [show (L:Int) - 1=(q:Int) by omega]
  exact wrap_nat (by omega)
 have hqr:q=r.length:=by omega
 subst hqr
 clear hLr hy hs hL hq
 subst ha
 have HPT:=hide (rptr_any W1 (k:=x) ⟨by have:=hkd.1;omega,hkd.2⟩)
 rw [hpt] at HPT
 have HBA:=hide (rbase_any W1.drew (k:=x) ⟨by have:=hkd.1;omega,hkd.2⟩)
 have htl:t<p.ty.length:=get_lt hl
 obtain ⟨m,hm⟩ : ∃ m:Nat,m=2*t:=⟨_,rfl⟩
 have hbm:bareK x=((m+2:Nat):Int):=by rw [hbt];omega
 rw [hbm] at HBA
 have hwb:IntKind.i64.wrap (((m+2:Nat):Int) - 2)=(m:Int):=by
  rw [show ((m+2:Nat):Int) - 2=(m:Int) by omega]
  exact wrap_nat (by omega)
 have hdv:(m:Int) / 2=(t:Int):=by omega
 have hdv2:m / 2=t:=by omega
 have hwt:IntKind.i64.wrap (t:Int)=(t:Int):=wrap_nat (by omega)
 obtain ⟨g2,o2,c2,nn,u,hv2,hnn,_,hg2,hc2,hsl⟩:=lst_at HR.out.pg.ty hl
 cases hv2
 obtain ⟨ua,uc,hu⟩:=sl_form hsl
 subst hu
 have HSL:=hide hsl
 have hg2w:g2<W1.heap.size:=by have:=HR.out.hB;have:=HR.out.bel.size;omega
 have dt:decide (t<p.ty.length)=true:=by simpa using htl
 clear hnn hsl hl hbt hbm hm
 generalize m+2=m2 at *
 go_enter Tryd.func45,Tryd.ntmps45
 go_wp2_with fail
 refine HPT.out.mono ?_
 rintro e w5 ⟨rfl,hw5⟩
 rw [hw5]
 clear hw5
 go_upto_region 27 with (fail)
 refine wp_region_held_drew (S:=(fun W:World=>W=W1.drew∧W.cell? ⟨w.heap.size,0,none⟩=some (.slice (some ⟨g2,o2,none⟩) p.ty.length d1)∧W.cell? ⟨g2,o2+t,none⟩=some (.slice ua l.length uc))) (by kernel_rfl) ⟨rfl,c00,hc2⟩ (fun hHeld211=>?_)
 refine tk 0 oRh20 ?v212 ?h212 ?_
 case h212=>(intro W h;(try dsimp only at h);go_simp;try with_reducible rfl)
 try simp only [sp]
 refine tk 1 oRh21 ?v213 ?h213 ?_
 case h213=>(intro W h;(try dsimp only at h);go_simp;try with_reducible rfl)
 try simp only [sp]
 refine tk 2 oRh22 ?v214 ?h214 ?_
 case h214=>(intro W h;(try dsimp only at h);go_simp;try with_reducible rfl)
 try simp only [sp]
 refine wpAnyH_ready (rs:=[3]) (by kernel_rfl) (by simp) ?_
 refine AllReadyH.cons (o:=oRh23) rfl (fun K hK=>?_) AllReadyH.nil
 go_simp
 go_at_call 61
 refine HBA.out.mono ?_
 rintro e w5 ⟨rfl,hw5⟩
 subst hw5
 go_wp2_with fail
 refine hK.out _ _ ⟨rfl,c00,hc2⟩ (fun hHeld215=>?_)
 clear hK K
 try simp only [sp]
 refine tk 4 oRh24 ?v216 ?h216 ?_
 case h216=>(intro W h;(try dsimp only at h);go_simp;try with_reducible rfl)
 try simp only [sp]
 refine tk 5 oRh25 ?v217 ?h217 ?_
 case h217=>(intro W h;(try dsimp only at h);go_simp;try with_reducible rfl)
 try simp only [sp]
 refine tk 6 oRh26 ?v218 ?h218 ?_
 case h218=>(intro W h;(try dsimp only at h);go_simp;try with_reducible rfl)
 try simp only [sp]
 refine tk 7 oRh27 ?v219 ?h219 ?_
 case h219=>(intro W h;(try dsimp only at h);go_simp;try with_reducible rfl)
 try simp only [sp]
 refine tk 8 oRh28 ?v220 ?h220 ?_
 case h220=>(intro W h;(try dsimp only at h);go_simp;try with_reducible rfl)
 try simp only [sp]
 refine tk 9 oRh29 ?v221 ?h221 ?_
 case h221=>(intro W h;(try dsimp only at h);go_simp;try with_reducible rfl)
 try simp only [sp]
 refine wpAnyH_done (by kernel_rfl) ?_ _
 have HRX:=hide (HR.out.up (below_drew (Below.refl W1.heap.size W1)))
 have HOX:=hide (HO.out.up (below_drew (Below.refl W1.heap.size W1)))
 have HWX:=hide (show Below C w W1.drew from below_drew HWC.out)
 have HSX:=hide (show SlAt 1 IntP B W1.drew (.slice ua l.length uc) l from ints_keep (Nat.le_refl _) (fun _ _=>rfl) HSL.out)
 have hCX:C≤W1.drew.heap.size:=hC1
 clear HPT HBA hwb hdv hdv2 c00 c01 c02 c03 c10 c11 c12 c13 c20 c21 c22 hc2 HR HO HWC HSL hC1 hW1
 generalize W1.drew=X at *
 have HIN:=hide (rin_any X.drew (n:Int) l.length)
 rw [hin] at HIN
 obtain ⟨gz,oz,cz,hvz,hgzB,hcz,hz1,hz2⟩:=il_at HSX.out hz
 cases hvz
 have hgz:gz<X.heap.size:=by have:=HRX.out.hB;have:=HRX.out.bel.size;omega
 have hnl:n<l.length:=get_lt hz
 have dn:decide (n<l.length)=true:=by simpa using hnl
 have HCX:=hide (show ∀ W:World,Below X.heap.size X W→(fun W:World=>W.cell? ⟨w.heap.size,0,none⟩=some (.slice (some ⟨g2,o2,none⟩) p.ty.length d1)∧W.cell? ⟨w.heap.size,1,none⟩=some (.slice a2 p.fu.length d2)∧W.cell? ⟨w.heap.size,2,none⟩=some (.slice a3 p.ta.length d3)∧W.cell? ⟨w.heap.size,3,none⟩=some (.slice a4 p.st.length d4)∧W.cell? ⟨w.heap.size+2,0,none⟩=some (.int .i64 16)∧W.cell? ⟨w.heap.size+2,1,none⟩=some (.int .i64 (n:Int))∧W.cell? ⟨w.heap.size+2,2,none⟩=some (.int .i64 b)∧W.cell? ⟨gz,oz+n,none⟩=some (.int .i64 z)) W from fun W h=>by
  have R:=HRX.out.up h
  exact ⟨R.c0.1,R.c0.2.1,R.c0.2.2.1,R.c0.2.2.2,R.c2.1,R.c2.2.1,R.c2.2.2,(h.cell (p:=⟨gz,oz+n,none⟩) hgz).trans hcz⟩)
 have HSG:=hide (rsingle_any (HRX.out.up (below_drew (Below.refl X.heap.size X))).pg (Nat.le_trans HRX.out.hB HRX.out.bel.size) b z)
 rw [hsg] at HSG
 clear hz hin
 go_upto_region 28 with (fail)
 refine wp_region_held_drew (S:=(fun W:World=>W.cell? ⟨w.heap.size,0,none⟩=some (.slice (some ⟨g2,o2,none⟩) p.ty.length d1)∧W.cell? ⟨w.heap.size,1,none⟩=some (.slice a2 p.fu.length d2)∧W.cell? ⟨w.heap.size,2,none⟩=some (.slice a3 p.ta.length d3)∧W.cell? ⟨w.heap.size,3,none⟩=some (.slice a4 p.st.length d4)∧W.cell? ⟨w.heap.size+2,0,none⟩=some (.int .i64 16)∧W.cell? ⟨w.heap.size+2,1,none⟩=some (.int .i64 (n:Int))∧W.cell? ⟨w.heap.size+2,2,none⟩=some (.int .i64 b)∧W.cell? ⟨gz,oz+n,none⟩=some (.int .i64 z))) (by kernel_rfl) (HCX.out _ (below_drew (Below.refl _ _))) (fun hHeld222=>?_)
 refine tk 0 oRh210 ?v223 ?h223 ?_
 case h223=>(intro W h;(try dsimp only at h);go_simp;try with_reducible rfl)
 try simp only [sp]
 refine tk 1 oRh211 ?v224 ?h224 ?_
 case h224=>(intro W h;(try dsimp only at h);go_simp;try with_reducible rfl)
 try simp only [sp]
 refine tk 2 oRh212 ?v225 ?h225 ?_
 case h225=>(intro W h;(try dsimp only at h);go_simp;try with_reducible rfl)
 try simp only [sp]
 refine tk 3 oRh213 ?v226 ?h226 ?_
 case h226=>(intro W h;(try dsimp only at h);go_simp;try with_reducible rfl)
 try simp only [sp]
 refine wpAnyH_ready (rs:=[4]) (by kernel_rfl) (by simp) ?_
 refine AllReadyH.cons (o:=oRh214) rfl (fun K hK=>?_) AllReadyH.nil
 go_simp
 go_at_call 26
 refine HIN.out.mono ?_
 rintro e w6 ⟨rfl,hw6⟩
 subst hw6
 go_wp2_with fail
 refine hK.out _ _ (HCX.out _ (below_drew (Below.refl _ _))) (fun hHeld227=>?_)
 clear hK K
 try simp only [sp]
 refine tk 5 oRh215 ?v228 ?h228 ?_
 case h228=>(intro W h;(try dsimp only at h);go_simp;try with_reducible rfl)
 try simp only [sp]
 refine tk 6 oRh216 ?v229 ?h229 ?_
 case h229=>(intro W h;(try dsimp only at h);go_simp;try with_reducible rfl)
 try simp only [sp]
 refine tk 7 oRh217 ?v230 ?h230 ?_
 case h230=>(intro W h;(try dsimp only at h);go_simp;try with_reducible rfl)
 try simp only [sp]
 refine tk 8 oRh218 ?v231 ?h231 ?_
 case h231=>(intro W h;(try dsimp only at h);go_simp;try with_reducible rfl)
 try simp only [sp]
 refine tk 9 oRh219 ?v232 ?h232 ?_
 case h232=>(intro W h;(try dsimp only at h);go_simp;try with_reducible rfl)
 try simp only [sp]
 refine tk 10 oRh220 ?v233 ?h233 ?_
 case h233=>(intro W h;(try dsimp only at h);go_simp;try with_reducible rfl)
 try simp only [sp]
 refine tk 11 oRh221 ?v234 ?h234 ?_
 case h234=>(intro W h;(try dsimp only at h);go_simp;try with_reducible rfl)
 try simp only [sp]
 refine tk 12 oRh222 ?v235 ?h235 ?_
 case h235=>(intro W h;(try dsimp only at h);go_simp;try with_reducible rfl)
 try simp only [sp]
 refine tk 13 oRh223 ?v236 ?h236 ?_
 case h236=>(intro W h;(try dsimp only at h);go_simp;try with_reducible rfl)
 try simp only [sp]
 refine tk 14 oRh224 ?v237 ?h237 ?_
 case h237=>(intro W h;(try dsimp only at h);go_simp;try with_reducible rfl)
 try simp only [sp]
 refine tk 15 oRh225 ?v238 ?h238 ?_
 case h238=>(intro W h;(try dsimp only at h);go_simp;try with_reducible rfl)
 try simp only [sp]
 refine tk 16 oRh226 ?v239 ?h239 ?_
 case h239=>(intro W h;(try dsimp only at h);go_simp;try with_reducible rfl)
 try simp only [sp]
 refine tk 17 oRh227 ?v240 ?h240 ?_
 case h240=>(intro W h;(try dsimp only at h);go_simp;try with_reducible rfl)
 try simp only [sp]
 refine tk 18 oRh228 ?v241 ?h241 ?_
 case h241=>(intro W h;(try dsimp only at h);go_simp;try with_reducible rfl)
 try simp only [sp]
 refine wpAnyH_ready (rs:=[19]) (by kernel_rfl) (by simp) ?_
 refine AllReadyH.cons (o:=oRh229) rfl (fun K hK=>?_) AllReadyH.nil
 go_simp
 go_at_call 42
 refine HSG.out.mono ?_
 rintro e w6 ⟨rfl,hw6⟩
 have HB6:=hide (show Below X.heap.size X w6 from (below_drew (Below.refl _ _)).trans hw6)
 clear hw6
 go_wp2_with fail
 refine hK.out _ _ (HCX.out _ HB6.out) (fun hHeld242=>?_)
 clear hK K
 try simp only [sp]
 refine tk 20 oRh230 ?v243 ?h243 ?_
 case h243=>(intro W h;(try dsimp only at h);go_simp;try with_reducible rfl)
 try simp only [sp]
 refine tk 21 oRh231 ?v244 ?h244 ?_
 case h244=>(intro W h;(try dsimp only at h);go_simp;try with_reducible rfl)
 try simp only [sp]
 refine tk 22 oRh232 ?v245 ?h245 ?_
 case h245=>(intro W h;(try dsimp only at h);go_simp;try with_reducible rfl)
 try simp only [sp]
 refine wpAnyH_done (by kernel_rfl) ?_ _
 go_wp2_with fail
 go_ret2
 exact ⟨HWX.out.trans (HB6.out.mono hCX),rfl⟩
theorem ob_16t (P:PgAt B w v1 v2 v3 v4 p) (hB:B≤w.heap.size) (s1:SlAt 1 IntP B w u1 f.lo) (s2:SlAt 1 IntP B w u2 f.re) (s3:SlAt 1 IntP B w u3 f.ar) (Rs:SlAt 1 IntP Bs w vs s) (O:OwI C w vr r) (hsC:Bs≤C) (hC:C≤w.heap.size) (hr:r.length≤300000000) {x:Int} (hs:s=r++[x]) (hkd:Kd x) (hpt:ptrB x=true) {t:Nat} (hbt:bareK x=2+2*(t:Int)) {l:List Int} (hl:p.ty[t]?=some l) (hty:p.ty.length≤1024) {n:Nat} {z:Int} (ha:a=(n:Int)) (hin:inB (n:Int) l.length=true) (hz:l[n]?=some z) (hsg:(inB b p.ty.length && onlyB p b z)=true) (hb:0≤b∧b≤1024):Calls Tryd.prog 45 #[.agg #[v1,v2,v3,v4],.agg #[.int .i64 f.pa,u1,u2,u3,u4],.agg #[.int .i64 16,.int .i64 a,.int .i64 b],vs,vr] w (EfOk C (r++[2+2*b+locK x]) w):=by
 obtain ⟨⟨a1,d1,rfl⟩,⟨a2,d2,rfl⟩,⟨a3,d3,rfl⟩,a4,d4,rfl⟩:=fm4 P
 obtain ⟨⟨b1,x1,rfl⟩,⟨b2,x2,rfl⟩,b3,x3,rfl⟩:=fm3 s1 s2 s3
 have R:=Rx.new (i:=⟨16,a,b⟩) (u4:=u4) P hB s1 s2 s3
 dsimp only at R
 obtain ⟨W1,hW1⟩:=exR R
 rw [hW1] at R
 obtain ⟨c00,c01,c02,c03⟩:=R.c0
 obtain ⟨c10,c11,c12,c13⟩:=R.c1
 obtain ⟨c20,c21,c22⟩:=R.c2
 obtain ⟨l0,l1,l2⟩:=R.lt
 dsimp only at c20 c21 c22
 have HR:=hide R
 clear P s1 s2 s3
 have b1:=R.bel
 obtain ⟨sa,ds,hvs⟩:=sl_form Rs
 obtain ⟨ar,dr,hvr⟩:=O.form
 subst hvs hvr
 have Rs1:SlAt 1 IntP Bs W1 (.slice sa s.length ds) s:=ints_keep (Nat.le_refl _) (fun j hj=>b1.block j (by omega)) Rs
 have HO:=hide (O.up b1)
 have HRS:=hide Rs1
 have HWC:=hide (show Below C w W1 from b1.mono hC)
 have hC1:C≤W1.heap.size:=Nat.le_trans hC b1.size
 have HOWN:=hide (show ∀ j,(Value.slice ar r.length dr).ownBlock=some j→j<w.heap.size from fun j hj=>(own_ge O.1 j hj).2)
 clear Rs O b1 R
 obtain ⟨L,hL⟩ : ∃ L,s.length=L:=⟨_,rfl⟩
 obtain ⟨q,hq⟩ : ∃ q,L - 1=q:=⟨_,rfl⟩
 have hLr:L=r.length+1:=by rw [← hL,hs];simp
 have hy:s[q]?=some x:=by rw [hs,← hq,hLr,List.getElem?_append_right (by omega)];simp
 obtain ⟨g,o,c,hv,hg,hcy,_,_⟩:=il_at Rs1 hy
 cases hv
 rw [hL] at HRS ⊢
 have hgw:=Nat.lt_of_lt_of_le hg (Nat.le_trans hsC hC1)
 have hql:q<L:=by omega
 have dq:decide (q<L)=true:=by simpa using hql
 have dL:decide (0<L)=true:=by simp;omega
 have dL2:decide ((0:Int)<(L:Int))=true:=by simp;omega
 have hwq:IntKind.i64.wrap ((L:Int) - 1)=(q:Int):=by
  rw [show (L:Int) - 1=(q:Int) by omega]
  exact wrap_nat (by omega)
 have hqr:q=r.length:=by omega
 subst hqr
 clear hLr hy hs hL hq
 subst ha
 have HOW:=hide (show ∀ j,(Value.slice ar r.length dr).ownBlock=some j→j<w.heap.size from fun j hj=>(HOWN.out j hj))
 have HPT:=hide (rptr_any W1 (k:=x) ⟨by have:=hkd.1;omega,hkd.2⟩)
 rw [hpt] at HPT
 have HBA:=hide (rbase_any W1.drew (k:=x) ⟨by have:=hkd.1;omega,hkd.2⟩)
 have htl:t<p.ty.length:=get_lt hl
 obtain ⟨m,hm⟩ : ∃ m:Nat,m=2*t:=⟨_,rfl⟩
 have hbm:bareK x=((m+2:Nat):Int):=by rw [hbt];omega
 rw [hbm] at HBA
 have hwb:IntKind.i64.wrap (((m+2:Nat):Int) - 2)=(m:Int):=by
  rw [show ((m+2:Nat):Int) - 2=(m:Int) by omega]
  exact wrap_nat (by omega)
 have hdv:(m:Int) / 2=(t:Int):=by omega
 have hdv2:m / 2=t:=by omega
 have hwt:IntKind.i64.wrap (t:Int)=(t:Int):=wrap_nat (by omega)
 obtain ⟨g2,o2,c2,nn,u,hv2,hnn,_,hg2,hc2,hsl⟩:=lst_at HR.out.pg.ty hl
 cases hv2
 obtain ⟨ua,uc,hu⟩:=sl_form hsl
 subst hu
 have HSL:=hide hsl
 have hg2w:g2<W1.heap.size:=by have:=HR.out.hB;have:=HR.out.bel.size;omega
 have dt:decide (t<p.ty.length)=true:=by simpa using htl
 clear hnn hsl hl hbt hbm hm
 generalize m+2=m2 at *
 go_enter Tryd.func45,Tryd.ntmps45
 go_wp2_with fail
 refine HPT.out.mono ?_
 rintro e w5 ⟨rfl,hw5⟩
 rw [hw5]
 clear hw5
 go_upto_region 27 with (fail)
 refine wp_region_held_drew (S:=(fun W:World=>W=W1.drew∧W.cell? ⟨w.heap.size,0,none⟩=some (.slice (some ⟨g2,o2,none⟩) p.ty.length d1)∧W.cell? ⟨g2,o2+t,none⟩=some (.slice ua l.length uc))) (by kernel_rfl) ⟨rfl,c00,hc2⟩ (fun hHeld246=>?_)
 refine tk 0 oRh20 ?v247 ?h247 ?_
 case h247=>(intro W h;(try dsimp only at h);go_simp;try with_reducible rfl)
 try simp only [sp]
 refine tk 1 oRh21 ?v248 ?h248 ?_
 case h248=>(intro W h;(try dsimp only at h);go_simp;try with_reducible rfl)
 try simp only [sp]
 refine tk 2 oRh22 ?v249 ?h249 ?_
 case h249=>(intro W h;(try dsimp only at h);go_simp;try with_reducible rfl)
 try simp only [sp]
 refine wpAnyH_ready (rs:=[3]) (by kernel_rfl) (by simp) ?_
 refine AllReadyH.cons (o:=oRh23) rfl (fun K hK=>?_) AllReadyH.nil
 go_simp
 go_at_call 61
 refine HBA.out.mono ?_
 rintro e w5 ⟨rfl,hw5⟩
 subst hw5
 go_wp2_with fail
 refine hK.out _ _ ⟨rfl,c00,hc2⟩ (fun hHeld250=>?_)
 clear hK K
 try simp only [sp]
 refine tk 4 oRh24 ?v251 ?h251 ?_
 case h251=>(intro W h;(try dsimp only at h);go_simp;try with_reducible rfl)
 try simp only [sp]
 refine tk 5 oRh25 ?v252 ?h252 ?_
 case h252=>(intro W h;(try dsimp only at h);go_simp;try with_reducible rfl)
 try simp only [sp]
 refine tk 6 oRh26 ?v253 ?h253 ?_
 case h253=>(intro W h;(try dsimp only at h);go_simp;try with_reducible rfl)
 try simp only [sp]
 refine tk 7 oRh27 ?v254 ?h254 ?_
 case h254=>(intro W h;(try dsimp only at h);go_simp;try with_reducible rfl)
 try simp only [sp]
 refine tk 8 oRh28 ?v255 ?h255 ?_
 case h255=>(intro W h;(try dsimp only at h);go_simp;try with_reducible rfl)
 try simp only [sp]
 refine tk 9 oRh29 ?v256 ?h256 ?_
 case h256=>(intro W h;(try dsimp only at h);go_simp;try with_reducible rfl)
 try simp only [sp]
 refine wpAnyH_done (by kernel_rfl) ?_ _
 have HRX:=hide (HR.out.up (below_drew (Below.refl W1.heap.size W1)))
 have HOX:=hide (HO.out.up (below_drew (Below.refl W1.heap.size W1)))
 have HWX:=hide (show Below C w W1.drew from below_drew HWC.out)
 have HSX:=hide (show SlAt 1 IntP B W1.drew (.slice ua l.length uc) l from ints_keep (Nat.le_refl _) (fun _ _=>rfl) HSL.out)
 have hCX:C≤W1.drew.heap.size:=hC1
 clear HPT HBA hwb hdv hdv2 c00 c01 c02 c03 c10 c11 c12 c13 c20 c21 c22 hc2 HR HO HWC HSL hC1 hW1
 generalize W1.drew=X at *
 have HIN:=hide (rin_any X.drew (n:Int) l.length)
 rw [hin] at HIN
 obtain ⟨gz,oz,cz,hvz,hgzB,hcz,hz1,hz2⟩:=il_at HSX.out hz
 cases hvz
 have hgz:gz<X.heap.size:=by have:=HRX.out.hB;have:=HRX.out.bel.size;omega
 have hnl:n<l.length:=get_lt hz
 have dn:decide (n<l.length)=true:=by simpa using hnl
 have HCX:=hide (show ∀ W:World,Below X.heap.size X W→(fun W:World=>W.cell? ⟨w.heap.size,0,none⟩=some (.slice (some ⟨g2,o2,none⟩) p.ty.length d1)∧W.cell? ⟨w.heap.size,1,none⟩=some (.slice a2 p.fu.length d2)∧W.cell? ⟨w.heap.size,2,none⟩=some (.slice a3 p.ta.length d3)∧W.cell? ⟨w.heap.size,3,none⟩=some (.slice a4 p.st.length d4)∧W.cell? ⟨w.heap.size+2,0,none⟩=some (.int .i64 16)∧W.cell? ⟨w.heap.size+2,1,none⟩=some (.int .i64 (n:Int))∧W.cell? ⟨w.heap.size+2,2,none⟩=some (.int .i64 b)∧W.cell? ⟨gz,oz+n,none⟩=some (.int .i64 z)) W from fun W h=>by
  have R:=HRX.out.up h
  exact ⟨R.c0.1,R.c0.2.1,R.c0.2.2.1,R.c0.2.2.2,R.c2.1,R.c2.2.1,R.c2.2.2,(h.cell (p:=⟨gz,oz+n,none⟩) hgz).trans hcz⟩)
 have HSG:=hide (rsingle_any (HRX.out.up (below_drew (Below.refl X.heap.size X))).pg (Nat.le_trans HRX.out.hB HRX.out.bel.size) b z)
 rw [hsg] at HSG
 clear hz hin
 go_upto_region 28 with (fail)
 refine wp_region_held_drew (S:=(fun W:World=>W.cell? ⟨w.heap.size,0,none⟩=some (.slice (some ⟨g2,o2,none⟩) p.ty.length d1)∧W.cell? ⟨w.heap.size,1,none⟩=some (.slice a2 p.fu.length d2)∧W.cell? ⟨w.heap.size,2,none⟩=some (.slice a3 p.ta.length d3)∧W.cell? ⟨w.heap.size,3,none⟩=some (.slice a4 p.st.length d4)∧W.cell? ⟨w.heap.size+2,0,none⟩=some (.int .i64 16)∧W.cell? ⟨w.heap.size+2,1,none⟩=some (.int .i64 (n:Int))∧W.cell? ⟨w.heap.size+2,2,none⟩=some (.int .i64 b)∧W.cell? ⟨gz,oz+n,none⟩=some (.int .i64 z))) (by kernel_rfl) (HCX.out _ (below_drew (Below.refl _ _))) (fun hHeld257=>?_)
 refine tk 0 oRh210 ?v258 ?h258 ?_
 case h258=>(intro W h;(try dsimp only at h);go_simp;try with_reducible rfl)
 try simp only [sp]
 refine tk 1 oRh211 ?v259 ?h259 ?_
 case h259=>(intro W h;(try dsimp only at h);go_simp;try with_reducible rfl)
 try simp only [sp]
 refine tk 2 oRh212 ?v260 ?h260 ?_
 case h260=>(intro W h;(try dsimp only at h);go_simp;try with_reducible rfl)
 try simp only [sp]
 refine tk 3 oRh213 ?v261 ?h261 ?_
 case h261=>(intro W h;(try dsimp only at h);go_simp;try with_reducible rfl)
 try simp only [sp]
 refine wpAnyH_ready (rs:=[4]) (by kernel_rfl) (by simp) ?_
 refine AllReadyH.cons (o:=oRh214) rfl (fun K hK=>?_) AllReadyH.nil
 go_simp
 go_at_call 26
 refine HIN.out.mono ?_
 rintro e w6 ⟨rfl,hw6⟩
 subst hw6
 go_wp2_with fail
 refine hK.out _ _ (HCX.out _ (below_drew (Below.refl _ _))) (fun hHeld262=>?_)
 clear hK K
 try simp only [sp]
 refine tk 5 oRh215 ?v263 ?h263 ?_
 case h263=>(intro W h;(try dsimp only at h);go_simp;try with_reducible rfl)
 try simp only [sp]
 refine tk 6 oRh216 ?v264 ?h264 ?_
 case h264=>(intro W h;(try dsimp only at h);go_simp;try with_reducible rfl)
 try simp only [sp]
 refine tk 7 oRh217 ?v265 ?h265 ?_
 case h265=>(intro W h;(try dsimp only at h);go_simp;try with_reducible rfl)
 try simp only [sp]
 refine tk 8 oRh218 ?v266 ?h266 ?_
 case h266=>(intro W h;(try dsimp only at h);go_simp;try with_reducible rfl)
 try simp only [sp]
 refine tk 9 oRh219 ?v267 ?h267 ?_
 case h267=>(intro W h;(try dsimp only at h);go_simp;try with_reducible rfl)
 try simp only [sp]
 refine tk 10 oRh220 ?v268 ?h268 ?_
 case h268=>(intro W h;(try dsimp only at h);go_simp;try with_reducible rfl)
 try simp only [sp]
 refine tk 11 oRh221 ?v269 ?h269 ?_
 case h269=>(intro W h;(try dsimp only at h);go_simp;try with_reducible rfl)
 try simp only [sp]
 refine tk 12 oRh222 ?v270 ?h270 ?_
 case h270=>(intro W h;(try dsimp only at h);go_simp;try with_reducible rfl)
 try simp only [sp]
 refine tk 13 oRh223 ?v271 ?h271 ?_
 case h271=>(intro W h;(try dsimp only at h);go_simp;try with_reducible rfl)
 try simp only [sp]
 refine tk 14 oRh224 ?v272 ?h272 ?_
 case h272=>(intro W h;(try dsimp only at h);go_simp;try with_reducible rfl)
 try simp only [sp]
 refine tk 15 oRh225 ?v273 ?h273 ?_
 case h273=>(intro W h;(try dsimp only at h);go_simp;try with_reducible rfl)
 try simp only [sp]
 refine tk 16 oRh226 ?v274 ?h274 ?_
 case h274=>(intro W h;(try dsimp only at h);go_simp;try with_reducible rfl)
 try simp only [sp]
 refine tk 17 oRh227 ?v275 ?h275 ?_
 case h275=>(intro W h;(try dsimp only at h);go_simp;try with_reducible rfl)
 try simp only [sp]
 refine tk 18 oRh228 ?v276 ?h276 ?_
 case h276=>(intro W h;(try dsimp only at h);go_simp;try with_reducible rfl)
 try simp only [sp]
 refine wpAnyH_ready (rs:=[19]) (by kernel_rfl) (by simp) ?_
 refine AllReadyH.cons (o:=oRh229) rfl (fun K hK=>?_) AllReadyH.nil
 go_simp
 go_at_call 42
 refine HSG.out.mono ?_
 rintro e w6 ⟨rfl,hw6⟩
 have HB6:=hide (show Below X.heap.size X w6 from (below_drew (Below.refl _ _)).trans hw6)
 clear hw6
 go_wp2_with fail
 refine hK.out _ _ (HCX.out _ HB6.out) (fun hHeld277=>?_)
 clear hK K
 try simp only [sp]
 refine tk 20 oRh230 ?v278 ?h278 ?_
 case h278=>(intro W h;(try dsimp only at h);go_simp;try with_reducible rfl)
 try simp only [sp]
 refine tk 21 oRh231 ?v279 ?h279 ?_
 case h279=>(intro W h;(try dsimp only at h);go_simp;try with_reducible rfl)
 try simp only [sp]
 refine tk 22 oRh232 ?v280 ?h280 ?_
 case h280=>(intro W h;(try dsimp only at h);go_simp;try with_reducible rfl)
 try simp only [sp]
 refine wpAnyH_done (by kernel_rfl) ?_ _
 have hlk:locK x=0∨locK x=1048576:=by unfold locK;split <;> simp
 have HLC:=hide (rloc_any w6.drew (k:=x) ⟨by have:=hkd.1;omega,hkd.2⟩)
 have h1w:IntKind.i64.wrap (2*b)=2*b:=wrapI (by omega) (by omega)
 have h2w:IntKind.i64.wrap (2+2*b)=2+2*b:=wrapI (by omega) (by omega)
 have h3w:IntKind.i64.wrap (2+2*b+locK x)=2+2*b+locK x:=wrapI (by omega) (by omega)
 have hbd : -9223372036854775808≤2+2*b+locK x∧2+2*b+locK x≤9223372036854775807:=⟨by omega,by omega⟩
 have HBD:=hide (show Below X.heap.size X w6.drew from below_drew HB6.out)
 obtain ⟨k00,k01,k02,k03,k20,k21,k22,kz⟩:=HCX.out w6 HB6.out
 have HOY:=hide (HOX.out.up HBD.out)
 have HWY:=hide (show Below C w w6.drew from HWX.out.trans (HBD.out.mono hCX))
 have hCY:C≤w6.drew.heap.size:=Nat.le_trans hCX HBD.out.size
 have hl6:w.heap.size+2<w6.heap.size:=(HRX.out.up HB6.out).lt.2.2
 obtain ⟨a8,c8,W8,r1,q1,q2,q3⟩:=HOY.out.put2 (x:=2+2*b+locK x) hbd (by omega) hCY
 have HQ1:=hide q1
 have HQ2:=hide (HWY.out.trans q2)
 have HK8:=hide (show W8.cell? ⟨w.heap.size+2,2,none⟩=some (.int .i64 b) from (World.cell?_of_block (a:=⟨w.heap.size+2,2,none⟩) (q3 (w.heap.size+2) hl6 (fun e=>by have:=HOW.out _ e;omega))).trans k22)
 clear q1 q2 q3 hlk hbd
 generalize locK x=lk at *
 go_upto_region 34 with (fail)
 refine wp_region_held_drew (S:=(fun W:World=>W.cell? ⟨w.heap.size+2,2,none⟩=some (.int .i64 b))) (by kernel_rfl) k22 (fun hHeld281=>?_)
 refine tk 0 oRh233 ?v282 ?h282 ?_
 case h282=>(intro W h;(try dsimp only at h);go_simp;try with_reducible rfl)
 try simp only [sp]
 refine tk 1 oRh234 ?v283 ?h283 ?_
 case h283=>(intro W h;(try dsimp only at h);go_simp;try with_reducible rfl)
 try simp only [sp]
 refine tk 2 oRh235 ?v284 ?h284 ?_
 case h284=>(intro W h;(try dsimp only at h);go_simp;try with_reducible rfl)
 try simp only [sp]
 refine tk 3 oRh236 ?v285 ?h285 ?_
 case h285=>(intro W h;(try dsimp only at h);go_simp;try with_reducible rfl)
 try simp only [sp]
 refine tk 4 oRh237 ?v286 ?h286 ?_
 case h286=>(intro W h;(try dsimp only at h);go_simp;try with_reducible rfl)
 try simp only [sp]
 refine tk 5 oRh238 ?v287 ?h287 ?_
 case h287=>(intro W h;(try dsimp only at h);go_simp;try with_reducible rfl)
 try simp only [sp]
 refine wpAnyH_ready (rs:=[6]) (by kernel_rfl) (by simp) ?_
 refine AllReadyH.cons (o:=oRh239) rfl (fun K hK=>?_) AllReadyH.nil
 go_simp
 go_at_call 62
 refine HLC.out.mono ?_
 rintro e w9 ⟨rfl,hw9⟩
 subst hw9
 go_wp2_with fail
 refine hK.out _ _ k22 (fun hHeld288=>?_)
 clear hK K
 try simp only [sp]
 refine tk 7 oRh240 ?v289 ?h289 ?_
 case h289=>(intro W h;(try dsimp only at h);go_simp;try with_reducible rfl)
 try simp only [sp]
 refine wpAnyH_ready (rs:=[8]) (by kernel_rfl) (by simp) ?_
 refine AllReadyH.cons (o:=oRh241) rfl (fun K hK=>?_) AllReadyH.nil
 go_simp
 go_wp2_with fail
 refine hK.out _ _ ((((Below.refl w6.drew.heap.size w6.drew).alloc (Nat.le_refl _) _).cell (p:=⟨w.heap.size+2,2,none⟩) hl6).trans k22) (fun hHeld290=>?_)
 clear hK K
 try simp only [sp]
 refine wpAnyH_ready (rs:=[9]) (by kernel_rfl) (by simp) ?_
 refine AllReadyH.cons (o:=oRh242) rfl (fun K hK=>?_) AllReadyH.nil
 refine step_append_eq (by rfl) _ _ 44 44 (by rfl) (by rfl) (by rfl) r1 ?_
 refine hK.out _ _ HK8.out (fun hHeld291=>?_)
 clear hK K
 try simp only [sp]
 clear r1
 refine tk 10 oRh243 ?v292 ?h292 ?_
 case h292=>(intro W h;(try dsimp only at h);go_simp;try with_reducible rfl)
 try simp only [sp]
 refine tk 11 oRh244 ?v293 ?h293 ?_
 case h293=>(intro W h;(try dsimp only at h);go_simp;try with_reducible rfl)
 try simp only [sp]
 refine wpAnyH_done (by kernel_rfl) ?_ _
 go_wp2_with fail
 go_ret2
 exact ⟨HQ2.out,a8,c8,by rw [List.length_append];rfl,by rw [List.length_append];exact HQ1.out⟩
end
end Go.Proofs.YtfkejdocklcpoaaDoor
