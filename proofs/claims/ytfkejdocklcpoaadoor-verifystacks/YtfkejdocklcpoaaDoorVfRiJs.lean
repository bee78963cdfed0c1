/- The document's effect: calls, and objects. -/
import Derived.Test.YtfkejdocklcpoaaDoorVfRh2Js
import Derived.Test.YtfkejdocklcpoaaDoorVfTk
namespace Go.Proofs.YtfkejdocklcpoaaDoor
set_option maxRecDepth 100000
set_option maxHeartbeats 4000000
open Go.RowKit
abbrev oRi0 : Oper := { dst := some 159, op := .fieldAddr 27 (.tmp 4) 1, type := 0, pos := "ref.go:182", after := #[], guard := none }
abbrev oRi1 : Oper := { dst := some 160, op := .load 23 (.tmp 159), type := 23, pos := "ref.go:182", after := #[{ on := 0, ground := .data }], guard := none }
abbrev oRi2 : Oper := { dst := some 161, op := .fieldAddr 27 (.tmp 4) 2, type := 0, pos := "ref.go:182", after := #[], guard := none }
abbrev oRi3 : Oper := { dst := some 162, op := .load 24 (.tmp 161), type := 24, pos := "ref.go:182", after := #[{ on := 2, ground := .data }], guard := none }
abbrev oRi4 : Oper := { dst := some 163, op := .fieldAddr 50 (.tmp 6) 1, type := 0, pos := "ref.go:182", after := #[], guard := none }
abbrev oRi5 : Oper := { dst := some 164, op := .load 3 (.tmp 163), type := 3, pos := "ref.go:182", after := #[{ on := 4, ground := .data }], guard := none }
abbrev oRi6 : Oper := { dst := some 165, op := .indexAddr 24 (.tmp 162) (.tmp 164), type := 0, pos := "ref.go:182", after := #[{ on := 3, ground := .data }, { on := 5, ground := .data }], guard := none }
abbrev oRi7 : Oper := { dst := some 166, op := .load 44 (.tmp 165), type := 44, pos := "ref.go:182", after := #[{ on := 6, ground := .data }], guard := none }
abbrev oRi8 : Oper := { dst := some 167, op := .indexAddr 44 (.tmp 166) (.const (.int .i64 0)), type := 0, pos := "ref.go:182", after := #[{ on := 7, ground := .data }], guard := none }
abbrev oRi9 : Oper := { dst := some 168, op := .load 3 (.tmp 167), type := 3, pos := "ref.go:182", after := #[{ on := 8, ground := .data }], guard := none }
abbrev oRi10 : Oper := { dst := some 169, op := .indexAddr 23 (.tmp 160) (.tmp 168), type := 0, pos := "ref.go:182", after := #[{ on := 1, ground := .data }, { on := 9, ground := .data }], guard := none }
abbrev oRi11 : Oper := { dst := some 170, op := .load 48 (.tmp 169), type := 48, pos := "ref.go:182", after := #[{ on := 10, ground := .data }], guard := none }
abbrev oRi12 : Oper := { dst := some 15, op := .alloc 48, type := 0, pos := "ref.go:182", after := #[], guard := none }
abbrev oRi13 : Oper := { dst := none, op := .store 48 (.tmp 15) (.tmp 170), type := 0, pos := "ref.go:182", after := #[{ on := 12, ground := .data }, { on := 11, ground := .data }, { on := 0, ground := .phase }, { on := 1, ground := .phase }, { on := 2, ground := .phase }, { on := 3, ground := .phase }, { on := 4, ground := .phase }, { on := 5, ground := .phase }, { on := 6, ground := .phase }, { on := 7, ground := .phase }, { on := 8, ground := .phase }, { on := 9, ground := .phase }, { on := 10, ground := .phase }, { on := 11, ground := .phase }, { on := 12, ground := .phase }], guard := none }
abbrev oRi14 : Oper := { dst := some 171, op := .move (.tmp 12), type := 3, pos := "ref.go:183", after := #[], guard := none }
abbrev oRi15 : Oper := { dst := some 172, op := .binOp .eql 3 (.tmp 171) (.const (.int .i64 0)) 3, type := 4, pos := "ref.go:183", after := #[{ on := 0, ground := .data }], guard := none }
abbrev oRi16 : Oper := { dst := some 173, op := .move (.tmp 172), type := 4, pos := "ref.go:183", after := #[{ on := 1, ground := .data }], guard := none }
abbrev oRi17 : Oper := { dst := some 174, op := .move (.tmp 3), type := 44, pos := "ref.go:183", after := #[{ on := 2, ground := .guard }], guard := some (2, true) }
abbrev oRi18 : Oper := { dst := some 175, op := .move (.tmp 3), type := 44, pos := "ref.go:183", after := #[{ on := 2, ground := .guard }], guard := some (2, true) }
abbrev oRi19 : Oper := { dst := some 176, op := .call { callee := .builtin .len, args := #[.tmp 175], argTypes := #[44] }, type := 3, pos := "ref.go:183", after := #[{ on := 4, ground := .data }, { on := 2, ground := .guard }], guard := some (2, true) }
abbrev oRi20 : Oper := { dst := some 177, op := .binOp .sub 3 (.tmp 176) (.const (.int .i64 1)) 3, type := 3, pos := "ref.go:183", after := #[{ on := 5, ground := .data }, { on := 2, ground := .guard }], guard := some (2, true) }
abbrev oRi21 : Oper := { dst := some 178, op := .slice 44 (.tmp 174) none (some (.tmp 177)) none, type := 44, pos := "ref.go:183", after := #[{ on := 3, ground := .data }, { on := 6, ground := .data }, { on := 2, ground := .guard }], guard := some (2, true) }
abbrev oRi22 : Oper := { dst := some 179, op := .fieldAddr 48 (.tmp 15) 1, type := 0, pos := "ref.go:183", after := #[{ on := 2, ground := .guard }], guard := some (2, true) }
abbrev oRi23 : Oper := { dst := some 180, op := .load 44 (.tmp 179), type := 44, pos := "ref.go:183", after := #[{ on := 8, ground := .data }, { on := 2, ground := .guard }], guard := some (2, true) }
abbrev oRi24 : Oper := { dst := some 181, op := .fieldAddr 48 (.tmp 15) 0, type := 0, pos := "ref.go:183", after := #[{ on := 2, ground := .guard }], guard := some (2, true) }
abbrev oRi25 : Oper := { dst := some 182, op := .load 3 (.tmp 181), type := 3, pos := "ref.go:183", after := #[{ on := 10, ground := .data }, { on := 2, ground := .guard }], guard := some (2, true) }
abbrev oRi26 : Oper := { dst := some 183, op := .slice 44 (.tmp 180) none (some (.tmp 182)) none, type := 44, pos := "ref.go:183", after := #[{ on := 9, ground := .data }, { on := 11, ground := .data }, { on := 2, ground := .guard }], guard := some (2, true) }
abbrev oRi27 : Oper := { dst := some 184, op := .call { callee := .value (.func 44), args := #[.tmp 178, .tmp 183], argTypes := #[44, 44] }, type := 4, pos := "ref.go:183", after := #[{ on := 7, ground := .data }, { on := 12, ground := .data }, { on := 2, ground := .chain }, { on := 2, ground := .guard }], guard := some (2, true) }
abbrev oRi28 : Oper := { dst := some 185, op := .pick (.tmp 173) (.tmp 184) (.const (.bool false)), type := 4, pos := "ref.go:183", after := #[{ on := 2, ground := .data }, { on := 13, ground := .data }], guard := none }
abbrev oRi29 : Oper := { dst := some 13, op := .assign (.tmp 185), type := 4, pos := "ref.go:183", after := #[{ on := 14, ground := .data }, { on := 13, ground := .chain }, { on := 0, ground := .phase }, { on := 1, ground := .phase }, { on := 2, ground := .phase }, { on := 3, ground := .phase }, { on := 4, ground := .phase }, { on := 5, ground := .phase }, { on := 6, ground := .phase }, { on := 7, ground := .phase }, { on := 8, ground := .phase }, { on := 9, ground := .phase }, { on := 10, ground := .phase }, { on := 11, ground := .phase }, { on := 12, ground := .phase }, { on := 13, ground := .phase }, { on := 14, ground := .phase }], guard := none }
section
variable {B Bs:Nat} {w:World} {p:Pg} {f:Fd} {a b:Int} {v1 v2 v3 v4 u1 u2 u3 u4 vs:Value} {s r:List Int}
theorem ef_24t (P:PgAt B w v1 v2 v3 v4 p) (hB:B≤w.heap.size) (s1:SlAt 1 IntP B w u1 f.lo) (s2:SlAt 1 IntP B w u2 f.re) (s3:SlAt 1 IntP B w u3 f.ar) (s4:SlAt 3 InsP B w u4 f.co) (H:Hok p) (Rs:SlAt 1 IntP Bs w vs s) (hsB:Bs≤w.heap.size) (hsl:s.length≤300000000) {ks:List Int} {kn:Nat} (hs:s=r++ks) (hkl:ks.length=kn) (hkn:(takesP p f ⟨24,a,b⟩).n=kn) (hkd:∀ x∈s,-1≤x∧x≤2000000) (hfi:(Must.fit f.re).fine (s.drop (s.length - f.re.length))=true) (hle:f.re.length≤s.length):Calls Tryd.prog 24 #[.agg #[v1,v2,v3,v4],.agg #[.int .i64 f.pa,u1,u2,u3,u4],.agg #[.int .i64 24,.int .i64 a,.int .i64 b],vs] w (EfOk w.heap.size (r) w):=by
 obtain ⟨b4,x4,hu4⟩:=sl_form s4
 subst hu4
 obtain ⟨⟨a1,d1,rfl⟩,⟨a2,d2,rfl⟩,⟨a3,d3,rfl⟩,a4,d4,rfl⟩:=fm4 P
 obtain ⟨⟨b1,x1,rfl⟩,⟨b2,x2,rfl⟩,b3,x3,rfl⟩:=fm3 s1 s2 s3
 have R:=Rx.new (i:=⟨24,a,b⟩) (u4:=.slice b4 f.co.length x4) P hB s1 s2 s3
 dsimp only at R
 obtain ⟨W1,hW1⟩:=exR R
 rw [hW1] at R
 obtain ⟨c00,c01,c02,c03⟩:=R.c0
 obtain ⟨c10,c11,c12,c13⟩:=R.c1
 obtain ⟨c20,c21,c22⟩:=R.c2
 obtain ⟨l0,l1,l2⟩:=R.lt
 dsimp only at c20 c21 c22
 have HR:=hide R
 have c14:W1.cell? ⟨w.heap.size+1,4,none⟩=some (.slice b4 f.co.length x4):=cell_of R.e1 rfl
 clear P s1 s2 s3 s4
 have b1:=R.bel
 obtain ⟨sa,ds,hvs⟩:=sl_form Rs
 subst hvs
 have HND:=hide (needs_any (i:=⟨24,a,b⟩) (u4:=.slice b4 f.co.length x4) R.pg (Nat.le_trans R.hB b1.size) R.lo R.re R.ar H ⟨by show (1:Int)≤24;decide,by show (24:Int)≤29;decide⟩ (by simp [namesB]))
 dsimp only at HND
 rw [hkn] at HND
 have HRS:=hide (show ∀ W:World,Below w.heap.size w W→SlAt 1 IntP Bs W (.slice sa s.length ds) s from fun W h=>ints_keep (Nat.le_refl _) (fun j hj=>h.block j (by omega)) Rs)
 have hcap:s.length≤ds:=by
  obtain ⟨_,_,hv,h,_⟩:=Rs
  cases hv
  exact h.2.1
 obtain ⟨L,hL⟩ : ∃ L,s.length=L:=⟨_,rfl⟩
 obtain ⟨rl,hrl⟩ : ∃ l,r.length=l:=⟨_,rfl⟩
 have hLr:L=rl+kn:=by rw [← hL,hs,← hrl,List.length_append,hkl]
 rw [hL] at HRS hcap hsl ⊢
 have HTK:=hide (show s.take rl=r from by rw [hs,← hrl];simp)
 have hwn:IntKind.i64.wrap ((L:Int) - (kn:Int))=(rl:Int):=by
  rw [show (L:Int) - (kn:Int)=(rl:Int) by omega]
  exact wrap_nat (by omega)
 have hrd:rl≤ds:=by omega
 have hrd2:(rl:Int)≤(ds:Int):=by omega
 have HHL:=hide hL
 have HRLN:=hide hrl
 have HHS:=hide hs
 have HLR:=hide hLr
 have hrl3:rl≤300000000:=by omega
 have hrlL0:rl≤L:=by omega
 clear Rs hs hL hrl hLr
 go_enter Tryd.func24,Tryd.ntmps24
 go_wp2_with fail
 refine HND.out.mono ?_
 rintro e w2 ⟨rfl,hb2⟩
 have HR2:=hide (HR.out.up hb2)
 have hbw:=HR2.out.bel
 have hB2:Bs≤w2.heap.size:=Nat.le_trans hsB hbw.size
 have c3:Below w2.heap.size w2 (w2.alloc (.cells #[] 3)):=(Below.refl _ _).alloc (Nat.le_refl _) _
 have R3:SlAt 1 IntP Bs (w2.alloc (.cells #[] 3)) (.slice sa rl ds) r:=by
  have h:=HRS.out (w2.alloc (.cells #[] 3)) (bel_tr hbw c3)
  rw [← HHL.out] at h
  have h2:=sl_take h (n:=rl) (by rw [HHL.out];exact hrlL0)
  rw [HTK.out] at h2
  exact h2
 obtain ⟨a5,c5,W5,r5,q5,q6⟩:=(OwI.new (heap_new w2 (.cells #[] 3) rfl)).app R3 (by rw [HRLN.out];simp;omega) (Nat.le_of_lt (lt_of_block (heap_new w2 (.cells #[] 3) rfl)))
 rw [List.nil_append,HRLN.out] at r5 q5
 have HO5:=hide q5
 have HB5:=hide (show Below w2.heap.size w2 W5 from c3.trans q6)
 have HR5:=hide (HR2.out.up HB5.out)
 have HBW:=hide (show Below w.heap.size w W5 from bel_tr hbw HB5.out)
 have hC5:w2.heap.size≤W5.heap.size:=HB5.out.size
 have h2w:w.heap.size≤w2.heap.size:=hbw.size
 clear hb2 c3 R3 q5 q6 hbw
 by_cases h0:L=0
 · have dL:decide (0<L)=false:=by simp;omega
   have dL2:decide ((0:Int)<(L:Int))=false:=by simp;omega
   clear h0
   obtain ⟨k00,k01,k02,k03⟩:=HR5.out.c0
   obtain ⟨k10,k11,k12,k13⟩:=HR5.out.c1
   obtain ⟨k20,k21,k22⟩:=HR5.out.c2
   have k14:W5.cell? ⟨w.heap.size+1,4,none⟩=some (.slice b4 f.co.length x4):=cell_of HR5.out.e1 rfl
   obtain ⟨l50,l51,l52⟩:=HR5.out.lt
   dsimp only at k20 k21 k22
   clear c00 c01 c02 c03 c10 c11 c12 c13 c14 c20 c21 c22
   have HAL:=hide (rall_any (HRS.out W5 HBW.out) HR5.out.re (Nat.le_trans hB2 hC5) (Nat.le_trans HR5.out.hB HR5.out.bel.size) hle (by have:=HHL.out;omega) hkd)
   rw [hfi] at HAL
   go_wp2_with (at_builtin;(refine wpList_append_eq rfl _ _ 44 44 rfl rfl rfl r5 ?_;clear r5))
   refine HAL.out.mono ?_
   rintro e w6 ⟨rfl,hb6⟩
   have HB6:=hide hb6
   clear hb6
   have HFIN:=hide (show EfOk w.heap.size r w (.returned (.tuple #[.slice a5 rl c5,.int .i64 0])) w6 from ⟨bel_tr HBW.out HB6.out,a5,c5,by rw [HRLN.out],by rw [HRLN.out];exact (HO5.out.up HB6.out).weak h2w⟩)
   go_wp2_with fail
   go_ret2
   exact HFIN.out
 · obtain ⟨q,hq⟩ : ∃ q,L - 1=q:=⟨_,rfl⟩
   obtain ⟨y,hy⟩ : ∃ y,s[q]?=some y:=⟨s[q]'(by rw [HHL.out];omega),by simp⟩
   have RS5:=HRS.out W5 HBW.out
   rw [← HHL.out] at RS5
   obtain ⟨g,o,c,hv,hg,hcy,_,_⟩:=il_at RS5 hy
   cases hv
   have hgw:=Nat.lt_of_lt_of_le hg (Nat.le_trans hB2 hC5)
   have hql:q<L:=by omega
   have dq:decide (q<L)=true:=by simpa using hql
   have dL:decide (0<L)=true:=by simp;omega
   have dL2:decide ((0:Int)<(L:Int))=true:=by simp;omega
   have hwq:IntKind.i64.wrap ((L:Int) - 1)=(q:Int):=by
    rw [show (L:Int) - 1=(q:Int) by omega]
    exact wrap_nat (by omega)
   clear hy hq RS5 h0
   obtain ⟨k00,k01,k02,k03⟩:=HR5.out.c0
   obtain ⟨k10,k11,k12,k13⟩:=HR5.out.c1
   obtain ⟨k20,k21,k22⟩:=HR5.out.c2
   have k14:W5.cell? ⟨w.heap.size+1,4,none⟩=some (.slice b4 f.co.length x4):=cell_of HR5.out.e1 rfl
   obtain ⟨l50,l51,l52⟩:=HR5.out.lt
   dsimp only at k20 k21 k22
   clear c00 c01 c02 c03 c10 c11 c12 c13 c14 c20 c21 c22
   have HAL:=hide (rall_any (HRS.out W5 HBW.out) HR5.out.re (Nat.le_trans hB2 hC5) (Nat.le_trans HR5.out.hB HR5.out.bel.size) hle (by have:=HHL.out;omega) hkd)
   rw [hfi] at HAL
   go_wp2_with (at_builtin;(refine wpList_append_eq rfl _ _ 44 44 rfl rfl rfl r5 ?_;clear r5))
   refine HAL.out.mono ?_
   rintro e w6 ⟨rfl,hb6⟩
   have HB6:=hide hb6
   clear hb6
   have HFIN:=hide (show EfOk w.heap.size r w (.returned (.tuple #[.slice a5 rl c5,.int .i64 0])) w6 from ⟨bel_tr HBW.out HB6.out,a5,c5,by rw [HRLN.out],by rw [HRLN.out];exact (HO5.out.up HB6.out).weak h2w⟩)
   go_wp2_with fail
   go_ret2
   exact HFIN.out
theorem ef_24f (P:PgAt B w v1 v2 v3 v4 p) (hB:B≤w.heap.size) (s1:SlAt 1 IntP B w u1 f.lo) (s2:SlAt 1 IntP B w u2 f.re) (s3:SlAt 1 IntP B w u3 f.ar) (s4:SlAt 3 InsP B w u4 f.co) (H:Hok p) (Rs:SlAt 1 IntP Bs w vs s) (hsB:Bs≤w.heap.size) (hsl:s.length≤300000000) {ks:List Int} {kn:Nat} (hs:s=r++ks) (hkl:ks.length=kn) (hkn:(takesP p f ⟨24,a,b⟩).n=kn) (hkd:∀ x∈s,-1≤x∧x≤2000000) (hfi:(Must.fit f.re).fine (s.drop (s.length - f.re.length))=false) (hle:f.re.length≤s.length):Calls Tryd.prog 24 #[.agg #[v1,v2,v3,v4],.agg #[.int .i64 f.pa,u1,u2,u3,u4],.agg #[.int .i64 24,.int .i64 a,.int .i64 b],vs] w (EfNo w.heap.size 8 w):=by
 obtain ⟨b4,x4,hu4⟩:=sl_form s4
 subst hu4
 obtain ⟨⟨a1,d1,rfl⟩,⟨a2,d2,rfl⟩,⟨a3,d3,rfl⟩,a4,d4,rfl⟩:=fm4 P
 obtain ⟨⟨b1,x1,rfl⟩,⟨b2,x2,rfl⟩,b3,x3,rfl⟩:=fm3 s1 s2 s3
 have R:=Rx.new (i:=⟨24,a,b⟩) (u4:=.slice b4 f.co.length x4) P hB s1 s2 s3
 dsimp only at R
 obtain ⟨W1,hW1⟩:=exR R
 rw [hW1] at R
 obtain ⟨c00,c01,c02,c03⟩:=R.c0
 obtain ⟨c10,c11,c12,c13⟩:=R.c1
 obtain ⟨c20,c21,c22⟩:=R.c2
 obtain ⟨l0,l1,l2⟩:=R.lt
 dsimp only at c20 c21 c22
 have HR:=hide R
 have c14:W1.cell? ⟨w.heap.size+1,4,none⟩=some (.slice b4 f.co.length x4):=cell_of R.e1 rfl
 clear P s1 s2 s3 s4
 have b1:=R.bel
 obtain ⟨sa,ds,hvs⟩:=sl_form Rs
 subst hvs
 have HND:=hide (needs_any (i:=⟨24,a,b⟩) (u4:=.slice b4 f.co.length x4) R.pg (Nat.le_trans R.hB b1.size) R.lo R.re R.ar H ⟨by show (1:Int)≤24;decide,by show (24:Int)≤29;decide⟩ (by simp [namesB]))
 dsimp only at HND
 rw [hkn] at HND
 have HRS:=hide (show ∀ W:World,Below w.heap.size w W→SlAt 1 IntP Bs W (.slice sa s.length ds) s from fun W h=>ints_keep (Nat.le_refl _) (fun j hj=>h.block j (by omega)) Rs)
 have hcap:s.length≤ds:=by
  obtain ⟨_,_,hv,h,_⟩:=Rs
  cases hv
  exact h.2.1
 obtain ⟨L,hL⟩ : ∃ L,s.length=L:=⟨_,rfl⟩
 obtain ⟨rl,hrl⟩ : ∃ l,r.length=l:=⟨_,rfl⟩
 have hLr:L=rl+kn:=by rw [← hL,hs,← hrl,List.length_append,hkl]
 rw [hL] at HRS hcap hsl ⊢
 have HTK:=hide (show s.take rl=r from by rw [hs,← hrl];simp)
 have hwn:IntKind.i64.wrap ((L:Int) - (kn:Int))=(rl:Int):=by
  rw [show (L:Int) - (kn:Int)=(rl:Int) by omega]
  exact wrap_nat (by omega)
 have hrd:rl≤ds:=by omega
 have hrd2:(rl:Int)≤(ds:Int):=by omega
 have HHL:=hide hL
 have HRLN:=hide hrl
 have HHS:=hide hs
 have HLR:=hide hLr
 have hrl3:rl≤300000000:=by omega
 have hrlL0:rl≤L:=by omega
 clear Rs hs hL hrl hLr
 go_enter Tryd.func24,Tryd.ntmps24
 go_wp2_with fail
 refine HND.out.mono ?_
 rintro e w2 ⟨rfl,hb2⟩
 have HR2:=hide (HR.out.up hb2)
 have hbw:=HR2.out.bel
 have hB2:Bs≤w2.heap.size:=Nat.le_trans hsB hbw.size
 have c3:Below w2.heap.size w2 (w2.alloc (.cells #[] 3)):=(Below.refl _ _).alloc (Nat.le_refl _) _
 have R3:SlAt 1 IntP Bs (w2.alloc (.cells #[] 3)) (.slice sa rl ds) r:=by
  have h:=HRS.out (w2.alloc (.cells #[] 3)) (bel_tr hbw c3)
  rw [← HHL.out] at h
  have h2:=sl_take h (n:=rl) (by rw [HHL.out];exact hrlL0)
  rw [HTK.out] at h2
  exact h2
 obtain ⟨a5,c5,W5,r5,q5,q6⟩:=(OwI.new (heap_new w2 (.cells #[] 3) rfl)).app R3 (by rw [HRLN.out];simp;omega) (Nat.le_of_lt (lt_of_block (heap_new w2 (.cells #[] 3) rfl)))
 rw [List.nil_append,HRLN.out] at r5 q5
 have HO5:=hide q5
 have HB5:=hide (show Below w2.heap.size w2 W5 from c3.trans q6)
 have HR5:=hide (HR2.out.up HB5.out)
 have HBW:=hide (show Below w.heap.size w W5 from bel_tr hbw HB5.out)
 have hC5:w2.heap.size≤W5.heap.size:=HB5.out.size
 have h2w:w.heap.size≤w2.heap.size:=hbw.size
 clear hb2 c3 R3 q5 q6 hbw
 by_cases h0:L=0
 · have dL:decide (0<L)=false:=by simp;omega
   have dL2:decide ((0:Int)<(L:Int))=false:=by simp;omega
   clear h0
   obtain ⟨k00,k01,k02,k03⟩:=HR5.out.c0
   obtain ⟨k10,k11,k12,k13⟩:=HR5.out.c1
   obtain ⟨k20,k21,k22⟩:=HR5.out.c2
   have k14:W5.cell? ⟨w.heap.size+1,4,none⟩=some (.slice b4 f.co.length x4):=cell_of HR5.out.e1 rfl
   obtain ⟨l50,l51,l52⟩:=HR5.out.lt
   dsimp only at k20 k21 k22
   clear c00 c01 c02 c03 c10 c11 c12 c13 c14 c20 c21 c22
   have HAL:=hide (rall_any (HRS.out W5 HBW.out) HR5.out.re (Nat.le_trans hB2 hC5) (Nat.le_trans HR5.out.hB HR5.out.bel.size) hle (by have:=HHL.out;omega) hkd)
   rw [hfi] at HAL
   go_wp2_with (at_builtin;(refine wpList_append_eq rfl _ _ 44 44 rfl rfl rfl r5 ?_;clear r5))
   refine HAL.out.mono ?_
   rintro e w6 ⟨rfl,hb6⟩
   have HB6:=hide hb6
   clear hb6
   have HFIN:=hide (show EfNo w.heap.size 8 w (.returned (.tuple #[.slice none 0 0,.int .i64 8])) w6 from ⟨bel_tr HBW.out HB6.out,rfl⟩)
   go_wp2_with fail
   go_ret2
   exact HFIN.out
 · obtain ⟨q,hq⟩ : ∃ q,L - 1=q:=⟨_,rfl⟩
   obtain ⟨y,hy⟩ : ∃ y,s[q]?=some y:=⟨s[q]'(by rw [HHL.out];omega),by simp⟩
   have RS5:=HRS.out W5 HBW.out
   rw [← HHL.out] at RS5
   obtain ⟨g,o,c,hv,hg,hcy,_,_⟩:=il_at RS5 hy
   cases hv
   have hgw:=Nat.lt_of_lt_of_le hg (Nat.le_trans hB2 hC5)
   have hql:q<L:=by omega
   have dq:decide (q<L)=true:=by simpa using hql
   have dL:decide (0<L)=true:=by simp;omega
   have dL2:decide ((0:Int)<(L:Int))=true:=by simp;omega
   have hwq:IntKind.i64.wrap ((L:Int) - 1)=(q:Int):=by
    rw [show (L:Int) - 1=(q:Int) by omega]
    exact wrap_nat (by omega)
   clear hy hq RS5 h0
   obtain ⟨k00,k01,k02,k03⟩:=HR5.out.c0
   obtain ⟨k10,k11,k12,k13⟩:=HR5.out.c1
   obtain ⟨k20,k21,k22⟩:=HR5.out.c2
   have k14:W5.cell? ⟨w.heap.size+1,4,none⟩=some (.slice b4 f.co.length x4):=cell_of HR5.out.e1 rfl
   obtain ⟨l50,l51,l52⟩:=HR5.out.lt
   dsimp only at k20 k21 k22
   clear c00 c01 c02 c03 c10 c11 c12 c13 c14 c20 c21 c22
   have HAL:=hide (rall_any (HRS.out W5 HBW.out) HR5.out.re (Nat.le_trans hB2 hC5) (Nat.le_trans HR5.out.hB HR5.out.bel.size) hle (by have:=HHL.out;omega) hkd)
   rw [hfi] at HAL
   go_wp2_with (at_builtin;(refine wpList_append_eq rfl _ _ 44 44 rfl rfl rfl r5 ?_;clear r5))
   refine HAL.out.mono ?_
   rintro e w6 ⟨rfl,hb6⟩
   have HB6:=hide hb6
   clear hb6
   have HFIN:=hide (show EfNo w.heap.size 8 w (.returned (.tuple #[.slice none 0 0,.int .i64 8])) w6 from ⟨bel_tr HBW.out HB6.out,rfl⟩)
   go_wp2_with fail
   go_ret2
   exact HFIN.out
theorem ef_22t (P:PgAt B w v1 v2 v3 v4 p) (hB:B≤w.heap.size) (s1:SlAt 1 IntP B w u1 f.lo) (s2:SlAt 1 IntP B w u2 f.re) (s3:SlAt 1 IntP B w u3 f.ar) (s4:SlAt 3 InsP B w u4 f.co) (H:Hok p) (Rs:SlAt 1 IntP Bs w vs s) (hsB:Bs≤w.heap.size) (hsl:s.length≤300000000) {ks:List Int} {kn:Nat} (hs:s=r++ks) (hkl:ks.length=kn) (hkn:(takesP p f ⟨22,a,b⟩).n=kn) (hkd:∀ x∈s,-1≤x∧x≤2000000) {n:Nat} {g0:Fd} (hN:namesB p f ⟨22,(n:Int),b⟩=true) (ha:a=(n:Int)) (hg0:p.fu[n]?=some g0) (hpk:g0.pa=(kn:Int)) (hple:kn≤g0.lo.length) (hre:g0.re.length≤4096) (hkle:kn≤s.length) (hfi:(Must.fit (g0.lo.take kn)).fine (s.drop (s.length - kn))=true):Calls Tryd.prog 24 #[.agg #[v1,v2,v3,v4],.agg #[.int .i64 f.pa,u1,u2,u3,u4],.agg #[.int .i64 22,.int .i64 a,.int .i64 b],vs] w (EfOk w.heap.size (r++g0.re) w):=by
 obtain ⟨b4,x4,hu4⟩:=sl_form s4
 subst hu4
 obtain ⟨⟨a1,d1,rfl⟩,⟨a2,d2,rfl⟩,⟨a3,d3,rfl⟩,a4,d4,rfl⟩:=fm4 P
 obtain ⟨⟨b1,x1,rfl⟩,⟨b2,x2,rfl⟩,b3,x3,rfl⟩:=fm3 s1 s2 s3
 have R:=Rx.new (i:=⟨22,a,b⟩) (u4:=.slice b4 f.co.length x4) P hB s1 s2 s3
 dsimp only at R
 obtain ⟨W1,hW1⟩:=exR R
 rw [hW1] at R
 obtain ⟨c00,c01,c02,c03⟩:=R.c0
 obtain ⟨c10,c11,c12,c13⟩:=R.c1
 obtain ⟨c20,c21,c22⟩:=R.c2
 obtain ⟨l0,l1,l2⟩:=R.lt
 dsimp only at c20 c21 c22
 have HR:=hide R
 have c14:W1.cell? ⟨w.heap.size+1,4,none⟩=some (.slice b4 f.co.length x4):=cell_of R.e1 rfl
 clear P s1 s2 s3 s4
 have b1:=R.bel
 obtain ⟨sa,ds,hvs⟩:=sl_form Rs
 subst hvs
 have HND:=hide (needs_any (i:=⟨22,a,b⟩) (u4:=.slice b4 f.co.length x4) R.pg (Nat.le_trans R.hB b1.size) R.lo R.re R.ar H ⟨by show (1:Int)≤22;decide,by show (22:Int)≤29;decide⟩ (by rw [ha];exact hN))
 dsimp only at HND
 rw [hkn] at HND
 have HRS:=hide (show ∀ W:World,Below w.heap.size w W→SlAt 1 IntP Bs W (.slice sa s.length ds) s from fun W h=>ints_keep (Nat.le_refl _) (fun j hj=>h.block j (by omega)) Rs)
 have hcap:s.length≤ds:=by
  obtain ⟨_,_,hv,h,_⟩:=Rs
  cases hv
  exact h.2.1
 obtain ⟨L,hL⟩ : ∃ L,s.length=L:=⟨_,rfl⟩
 obtain ⟨rl,hrl⟩ : ∃ l,r.length=l:=⟨_,rfl⟩
 have hLr:L=rl+kn:=by rw [← hL,hs,← hrl,List.length_append,hkl]
 rw [hL] at HRS hcap hsl ⊢
 have HTK:=hide (show s.take rl=r from by rw [hs,← hrl];simp)
 have hwn:IntKind.i64.wrap ((L:Int) - (kn:Int))=(rl:Int):=by
  rw [show (L:Int) - (kn:Int)=(rl:Int) by omega]
  exact wrap_nat (by omega)
 have hrd:rl≤ds:=by omega
 have hrd2:(rl:Int)≤(ds:Int):=by omega
 have HHL:=hide hL
 have HRLN:=hide hrl
 have HHS:=hide hs
 have HLR:=hide hLr
 have hrl3:rl≤300000000:=by omega
 have hrlL0:rl≤L:=by omega
 clear Rs hs hL hrl hLr
 subst ha
 go_enter Tryd.func24,Tryd.ntmps24
 go_wp2_with fail
 refine HND.out.mono ?_
 rintro e w2 ⟨rfl,hb2⟩
 have HR2:=hide (HR.out.up hb2)
 have hbw:=HR2.out.bel
 have hB2:Bs≤w2.heap.size:=Nat.le_trans hsB hbw.size
 have c3:Below w2.heap.size w2 (w2.alloc (.cells #[] 3)):=(Below.refl _ _).alloc (Nat.le_refl _) _
 have R3:SlAt 1 IntP Bs (w2.alloc (.cells #[] 3)) (.slice sa rl ds) r:=by
  have h:=HRS.out (w2.alloc (.cells #[] 3)) (bel_tr hbw c3)
  rw [← HHL.out] at h
  have h2:=sl_take h (n:=rl) (by rw [HHL.out];exact hrlL0)
  rw [HTK.out] at h2
  exact h2
 obtain ⟨a5,c5,W5,r5,q5,q6⟩:=(OwI.new (heap_new w2 (.cells #[] 3) rfl)).app R3 (by rw [HRLN.out];simp;omega) (Nat.le_of_lt (lt_of_block (heap_new w2 (.cells #[] 3) rfl)))
 rw [List.nil_append,HRLN.out] at r5 q5
 have HO5:=hide q5
 have HB5:=hide (show Below w2.heap.size w2 W5 from c3.trans q6)
 have HR5:=hide (HR2.out.up HB5.out)
 have HBW:=hide (show Below w.heap.size w W5 from bel_tr hbw HB5.out)
 have hC5:w2.heap.size≤W5.heap.size:=HB5.out.size
 have h2w:w.heap.size≤w2.heap.size:=hbw.size
 clear hb2 c3 R3 q5 q6 hbw
 by_cases h0:L=0
 · have dL:decide (0<L)=false:=by simp;omega
   have dL2:decide ((0:Int)<(L:Int))=false:=by simp;omega
   clear h0
   obtain ⟨k00,k01,k02,k03⟩:=HR5.out.c0
   obtain ⟨k10,k11,k12,k13⟩:=HR5.out.c1
   obtain ⟨k20,k21,k22⟩:=HR5.out.c2
   have k14:W5.cell? ⟨w.heap.size+1,4,none⟩=some (.slice b4 f.co.length x4):=cell_of HR5.out.e1 rfl
   obtain ⟨l50,l51,l52⟩:=HR5.out.lt
   dsimp only at k20 k21 k22
   clear c00 c01 c02 c03 c10 c11 c12 c13 c14 c20 c21 c22
   have hBW5:B≤W5.heap.size:=Nat.le_trans HR5.out.hB HR5.out.bel.size
   obtain ⟨qg,og,cg,ng,z1,z2,z3,z4,hvg,hng,hnl,hqg,⟨y0,y1,y2,y3,y4⟩,t1,t2,t3,t4⟩:=fd_at HR5.out.pg.fu hg0
   cases hvg
   obtain ⟨e1,j1,hz1⟩:=sl_form t1
   obtain ⟨e2,j2,hz2⟩:=sl_form t2
   obtain ⟨e3,j3,hz3⟩:=sl_form t3
   obtain ⟨e4,j4,hz4⟩:=sl_form t4
   subst hz1 hz2 hz3 hz4
   rw [hpk] at y0
   have hqgw:qg<W5.heap.size:=Nat.lt_of_lt_of_le hqg hBW5
   have dng:decide (n<p.fu.length)=true:=by simpa using hnl
   have hcj:g0.lo.length≤j1:=by
    obtain ⟨_,_,hv,h,_⟩:=t1
    cases hv
    exact h.2.1
   have hkj:kn≤j1:=by omega
   have hkj2:(kn:Int)≤(j1:Int):=by omega
   clear hng
   obtain ⟨W6,hW6⟩ : ∃ W6,W5.alloc (.cells #[.int .i64 (kn:Int),.slice e1 g0.lo.length j1,.slice e2 g0.re.length j2,.slice e3 g0.ar.length j3,.slice e4 g0.co.length j4] 48)=W6:=⟨_,rfl⟩
   have b6:Below W5.heap.size W5 W6:=by rw [← hW6];exact (Below.refl _ _).alloc (Nat.le_refl _) _
   have e6:W6.heap[W5.heap.size]?=some (.cells #[.int .i64 (kn:Int),.slice e1 g0.lo.length j1,.slice e2 g0.re.length j2,.slice e3 g0.ar.length j3,.slice e4 g0.co.length j4] 48 (0,0)):=by rw [← hW6];exact heap_new _ _ rfl
   have HB6:=hide b6
   have HE6:=hide e6
   have k60:W6.cell? ⟨W5.heap.size,0,none⟩=some (.int .i64 (kn:Int)):=cell_of e6 rfl
   have k61:W6.cell? ⟨W5.heap.size,1,none⟩=some (.slice e1 g0.lo.length j1):=cell_of e6 rfl
   have l6:W5.heap.size<W6.heap.size:=lt_of_block e6
   have HAL:=hide (rall_any (HRS.out W6 (bel_tr HBW.out HB6.out)) (show SlAt 1 IntP B W6 (.slice e1 kn j1) (g0.lo.take kn) from sl_take (ints_keep (Nat.le_refl _) (fun j hj=>HB6.out.block j (by omega)) t1) hple) (Nat.le_trans hB2 (Nat.le_trans hC5 HB6.out.size)) (Nat.le_trans hBW5 HB6.out.size) (by rw [List.length_take];omega) (by have:=HHL.out;omega) hkd)
   rw [List.length_take,Nat.min_eq_left hple,hfi] at HAL
   clear b6 e6 hg0 hpk hfi
   go_wp2_with (at_builtin;(refine wpList_append_eq rfl _ _ 44 44 rfl rfl rfl r5 ?_;clear r5))
   refine HAL.out.mono ?_
   rintro e w7 ⟨rfl,hb7⟩
   have HB7:=hide (bel_tr HB6.out hb7)
   obtain ⟨a8,c8,W8,r1,q1,q2⟩:=(HO5.out.up HB7.out).app (show SlAt 1 IntP B w7 (.slice e2 g0.re.length j2) g0.re from ints_keep (Nat.le_refl _) (fun j hj=>HB7.out.block j (by omega)) t2) (by rw [HRLN.out];omega) (Nat.le_trans hC5 HB7.out.size)
   rw [List.length_append,HRLN.out] at r1
   have HW8:=hide (show Below w.heap.size w W8 from (bel_tr HBW.out HB7.out).trans (q2.mono h2w))
   have k7:w7.cell? ⟨W5.heap.size,2,none⟩=some (.slice e2 g0.re.length j2):=(hb7.cell (p:=⟨W5.heap.size,2,none⟩) (lt_of_block HE6.out)).trans (cell_of HE6.out rfl)
   have HFIN:=hide (show EfOk w.heap.size (r++g0.re) w (.returned (.tuple #[.slice a8 (rl+g0.re.length) c8,.int .i64 0])) W8 from ⟨HW8.out,a8,c8,by rw [List.length_append,HRLN.out],by have:=q1.weak h2w;rw [List.length_append,HRLN.out] at this ⊢;exact this⟩)
   clear hb7 q1 q2
   go_wp2_with (at_builtin;(refine wpList_append_eq rfl _ _ 44 44 rfl rfl rfl r1 ?_;clear r1))
   go_ret2
   exact HFIN.out
 · obtain ⟨q,hq⟩ : ∃ q,L - 1=q:=⟨_,rfl⟩
   obtain ⟨y,hy⟩ : ∃ y,s[q]?=some y:=⟨s[q]'(by rw [HHL.out];omega),by simp⟩
   have RS5:=HRS.out W5 HBW.out
   rw [← HHL.out] at RS5
   obtain ⟨g,o,c,hv,hg,hcy,_,_⟩:=il_at RS5 hy
   cases hv
   have hgw:=Nat.lt_of_lt_of_le hg (Nat.le_trans hB2 hC5)
   have hql:q<L:=by omega
   have dq:decide (q<L)=true:=by simpa using hql
   have dL:decide (0<L)=true:=by simp;omega
   have dL2:decide ((0:Int)<(L:Int))=true:=by simp;omega
   have hwq:IntKind.i64.wrap ((L:Int) - 1)=(q:Int):=by
    rw [show (L:Int) - 1=(q:Int) by omega]
    exact wrap_nat (by omega)
   clear hy hq RS5 h0
   obtain ⟨k00,k01,k02,k03⟩:=HR5.out.c0
   obtain ⟨k10,k11,k12,k13⟩:=HR5.out.c1
   obtain ⟨k20,k21,k22⟩:=HR5.out.c2
   have k14:W5.cell? ⟨w.heap.size+1,4,none⟩=some (.slice b4 f.co.length x4):=cell_of HR5.out.e1 rfl
   obtain ⟨l50,l51,l52⟩:=HR5.out.lt
   dsimp only at k20 k21 k22
   clear c00 c01 c02 c03 c10 c11 c12 c13 c14 c20 c21 c22
   have hBW5:B≤W5.heap.size:=Nat.le_trans HR5.out.hB HR5.out.bel.size
   obtain ⟨qg,og,cg,ng,z1,z2,z3,z4,hvg,hng,hnl,hqg,⟨y0,y1,y2,y3,y4⟩,t1,t2,t3,t4⟩:=fd_at HR5.out.pg.fu hg0
   cases hvg
   obtain ⟨e1,j1,hz1⟩:=sl_form t1
   obtain ⟨e2,j2,hz2⟩:=sl_form t2
   obtain ⟨e3,j3,hz3⟩:=sl_form t3
   obtain ⟨e4,j4,hz4⟩:=sl_form t4
   subst hz1 hz2 hz3 hz4
   rw [hpk] at y0
   have hqgw:qg<W5.heap.size:=Nat.lt_of_lt_of_le hqg hBW5
   have dng:decide (n<p.fu.length)=true:=by simpa using hnl
   have hcj:g0.lo.length≤j1:=by
    obtain ⟨_,_,hv,h,_⟩:=t1
    cases hv
    exact h.2.1
   have hkj:kn≤j1:=by omega
   have hkj2:(kn:Int)≤(j1:Int):=by omega
   clear hng
   obtain ⟨W6,hW6⟩ : ∃ W6,W5.alloc (.cells #[.int .i64 (kn:Int),.slice e1 g0.lo.length j1,.slice e2 g0.re.length j2,.slice e3 g0.ar.length j3,.slice e4 g0.co.length j4] 48)=W6:=⟨_,rfl⟩
   have b6:Below W5.heap.size W5 W6:=by rw [← hW6];exact (Below.refl _ _).alloc (Nat.le_refl _) _
   have e6:W6.heap[W5.heap.size]?=some (.cells #[.int .i64 (kn:Int),.slice e1 g0.lo.length j1,.slice e2 g0.re.length j2,.slice e3 g0.ar.length j3,.slice e4 g0.co.length j4] 48 (0,0)):=by rw [← hW6];exact heap_new _ _ rfl
   have HB6:=hide b6
   have HE6:=hide e6
   have k60:W6.cell? ⟨W5.heap.size,0,none⟩=some (.int .i64 (kn:Int)):=cell_of e6 rfl
   have k61:W6.cell? ⟨W5.heap.size,1,none⟩=some (.slice e1 g0.lo.length j1):=cell_of e6 rfl
   have l6:W5.heap.size<W6.heap.size:=lt_of_block e6
   have HAL:=hide (rall_any (HRS.out W6 (bel_tr HBW.out HB6.out)) (show SlAt 1 IntP B W6 (.slice e1 kn j1) (g0.lo.take kn) from sl_take (ints_keep (Nat.le_refl _) (fun j hj=>HB6.out.block j (by omega)) t1) hple) (Nat.le_trans hB2 (Nat.le_trans hC5 HB6.out.size)) (Nat.le_trans hBW5 HB6.out.size) (by rw [List.length_take];omega) (by have:=HHL.out;omega) hkd)
   rw [List.length_take,Nat.min_eq_left hple,hfi] at HAL
   clear b6 e6 hg0 hpk hfi
   go_wp2_with (at_builtin;(refine wpList_append_eq rfl _ _ 44 44 rfl rfl rfl r5 ?_;clear r5))
   refine HAL.out.mono ?_
   rintro e w7 ⟨rfl,hb7⟩
   have HB7:=hide (bel_tr HB6.out hb7)
   obtain ⟨a8,c8,W8,r1,q1,q2⟩:=(HO5.out.up HB7.out).app (show SlAt 1 IntP B w7 (.slice e2 g0.re.length j2) g0.re from ints_keep (Nat.le_refl _) (fun j hj=>HB7.out.block j (by omega)) t2) (by rw [HRLN.out];omega) (Nat.le_trans hC5 HB7.out.size)
   rw [List.length_append,HRLN.out] at r1
   have HW8:=hide (show Below w.heap.size w W8 from (bel_tr HBW.out HB7.out).trans (q2.mono h2w))
   have k7:w7.cell? ⟨W5.heap.size,2,none⟩=some (.slice e2 g0.re.length j2):=(hb7.cell (p:=⟨W5.heap.size,2,none⟩) (lt_of_block HE6.out)).trans (cell_of HE6.out rfl)
   have HFIN:=hide (show EfOk w.heap.size (r++g0.re) w (.returned (.tuple #[.slice a8 (rl+g0.re.length) c8,.int .i64 0])) W8 from ⟨HW8.out,a8,c8,by rw [List.length_append,HRLN.out],by have:=q1.weak h2w;rw [List.length_append,HRLN.out] at this ⊢;exact this⟩)
   clear hb7 q1 q2
   go_wp2_with (at_builtin;(refine wpList_append_eq rfl _ _ 44 44 rfl rfl rfl r1 ?_;clear r1))
   go_ret2
   exact HFIN.out
theorem ef_22f (P:PgAt B w v1 v2 v3 v4 p) (hB:B≤w.heap.size) (s1:SlAt 1 IntP B w u1 f.lo) (s2:SlAt 1 IntP B w u2 f.re) (s3:SlAt 1 IntP B w u3 f.ar) (s4:SlAt 3 InsP B w u4 f.co) (H:Hok p) (Rs:SlAt 1 IntP Bs w vs s) (hsB:Bs≤w.heap.size) (hsl:s.length≤300000000) {ks:List Int} {kn:Nat} (hs:s=r++ks) (hkl:ks.length=kn) (hkn:(takesP p f ⟨22,a,b⟩).n=kn) (hkd:∀ x∈s,-1≤x∧x≤2000000) {n:Nat} {g0:Fd} (hN:namesB p f ⟨22,(n:Int),b⟩=true) (ha:a=(n:Int)) (hg0:p.fu[n]?=some g0) (hpk:g0.pa=(kn:Int)) (hple:kn≤g0.lo.length) (hre:g0.re.length≤4096) (hkle:kn≤s.length) (hfi:(Must.fit (g0.lo.take kn)).fine (s.drop (s.length - kn))=false):Calls Tryd.prog 24 #[.agg #[v1,v2,v3,v4],.agg #[.int .i64 f.pa,u1,u2,u3,u4],.agg #[.int .i64 22,.int .i64 a,.int .i64 b],vs] w (EfNo w.heap.size 8 w):=by
 obtain ⟨b4,x4,hu4⟩:=sl_form s4
 subst hu4
 obtain ⟨⟨a1,d1,rfl⟩,⟨a2,d2,rfl⟩,⟨a3,d3,rfl⟩,a4,d4,rfl⟩:=fm4 P
 obtain ⟨⟨b1,x1,rfl⟩,⟨b2,x2,rfl⟩,b3,x3,rfl⟩:=fm3 s1 s2 s3
 have R:=Rx.new (i:=⟨22,a,b⟩) (u4:=.slice b4 f.co.length x4) P hB s1 s2 s3
 dsimp only at R
 obtain ⟨W1,hW1⟩:=exR R
 rw [hW1] at R
 obtain ⟨c00,c01,c02,c03⟩:=R.c0
 obtain ⟨c10,c11,c12,c13⟩:=R.c1
 obtain ⟨c20,c21,c22⟩:=R.c2
 obtain ⟨l0,l1,l2⟩:=R.lt
 dsimp only at c20 c21 c22
 have HR:=hide R
 have c14:W1.cell? ⟨w.heap.size+1,4,none⟩=some (.slice b4 f.co.length x4):=cell_of R.e1 rfl
 clear P s1 s2 s3 s4
 have b1:=R.bel
 obtain ⟨sa,ds,hvs⟩:=sl_form Rs
 subst hvs
 have HND:=hide (needs_any (i:=⟨22,a,b⟩) (u4:=.slice b4 f.co.length x4) R.pg (Nat.le_trans R.hB b1.size) R.lo R.re R.ar H ⟨by show (1:Int)≤22;decide,by show (22:Int)≤29;decide⟩ (by rw [ha];exact hN))
 dsimp only at HND
 rw [hkn] at HND
 have HRS:=hide (show ∀ W:World,Below w.heap.size w W→SlAt 1 IntP Bs W (.slice sa s.length ds) s from fun W h=>ints_keep (Nat.le_refl _) (fun j hj=>h.block j (by omega)) Rs)
 have hcap:s.length≤ds:=by
  obtain ⟨_,_,hv,h,_⟩:=Rs
  cases hv
  exact h.2.1
 obtain ⟨L,hL⟩ : ∃ L,s.length=L:=⟨_,rfl⟩
 obtain ⟨rl,hrl⟩ : ∃ l,r.length=l:=⟨_,rfl⟩
 have hLr:L=rl+kn:=by rw [← hL,hs,← hrl,List.length_append,hkl]
 rw [hL] at HRS hcap hsl ⊢
 have HTK:=hide (show s.take rl=r from by rw [hs,← hrl];simp)
 have hwn:IntKind.i64.wrap ((L:Int) - (kn:Int))=(rl:Int):=by
  rw [show (L:Int) - (kn:Int)=(rl:Int) by omega]
  exact wrap_nat (by omega)
 have hrd:rl≤ds:=by omega
 have hrd2:(rl:Int)≤(ds:Int):=by omega
 have HHL:=hide hL
 have HRLN:=hide hrl
 have HHS:=hide hs
 have HLR:=hide hLr
 have hrl3:rl≤300000000:=by omega
 have hrlL0:rl≤L:=by omega
 clear Rs hs hL hrl hLr
 subst ha
 go_enter Tryd.func24,Tryd.ntmps24
 go_wp2_with fail
 refine HND.out.mono ?_
 rintro e w2 ⟨rfl,hb2⟩
 have HR2:=hide (HR.out.up hb2)
 have hbw:=HR2.out.bel
 have hB2:Bs≤w2.heap.size:=Nat.le_trans hsB hbw.size
 have c3:Below w2.heap.size w2 (w2.alloc (.cells #[] 3)):=(Below.refl _ _).alloc (Nat.le_refl _) _
 have R3:SlAt 1 IntP Bs (w2.alloc (.cells #[] 3)) (.slice sa rl ds) r:=by
  have h:=HRS.out (w2.alloc (.cells #[] 3)) (bel_tr hbw c3)
  rw [← HHL.out] at h
  have h2:=sl_take h (n:=rl) (by rw [HHL.out];exact hrlL0)
  rw [HTK.out] at h2
  exact h2
 obtain ⟨a5,c5,W5,r5,q5,q6⟩:=(OwI.new (heap_new w2 (.cells #[] 3) rfl)).app R3 (by rw [HRLN.out];simp;omega) (Nat.le_of_lt (lt_of_block (heap_new w2 (.cells #[] 3) rfl)))
 rw [List.nil_append,HRLN.out] at r5 q5
 have HO5:=hide q5
 have HB5:=hide (show Below w2.heap.size w2 W5 from c3.trans q6)
 have HR5:=hide (HR2.out.up HB5.out)
 have HBW:=hide (show Below w.heap.size w W5 from bel_tr hbw HB5.out)
 have hC5:w2.heap.size≤W5.heap.size:=HB5.out.size
 have h2w:w.heap.size≤w2.heap.size:=hbw.size
 clear hb2 c3 R3 q5 q6 hbw
 by_cases h0:L=0
 · have dL:decide (0<L)=false:=by simp;omega
   have dL2:decide ((0:Int)<(L:Int))=false:=by simp;omega
   clear h0
   obtain ⟨k00,k01,k02,k03⟩:=HR5.out.c0
   obtain ⟨k10,k11,k12,k13⟩:=HR5.out.c1
   obtain ⟨k20,k21,k22⟩:=HR5.out.c2
   have k14:W5.cell? ⟨w.heap.size+1,4,none⟩=some (.slice b4 f.co.length x4):=cell_of HR5.out.e1 rfl
   obtain ⟨l50,l51,l52⟩:=HR5.out.lt
   dsimp only at k20 k21 k22
   clear c00 c01 c02 c03 c10 c11 c12 c13 c14 c20 c21 c22
   have hBW5:B≤W5.heap.size:=Nat.le_trans HR5.out.hB HR5.out.bel.size
   obtain ⟨qg,og,cg,ng,z1,z2,z3,z4,hvg,hng,hnl,hqg,⟨y0,y1,y2,y3,y4⟩,t1,t2,t3,t4⟩:=fd_at HR5.out.pg.fu hg0
   cases hvg
   obtain ⟨e1,j1,hz1⟩:=sl_form t1
   obtain ⟨e2,j2,hz2⟩:=sl_form t2
   obtain ⟨e3,j3,hz3⟩:=sl_form t3
   obtain ⟨e4,j4,hz4⟩:=sl_form t4
   subst hz1 hz2 hz3 hz4
   rw [hpk] at y0
   have hqgw:qg<W5.heap.size:=Nat.lt_of_lt_of_le hqg hBW5
   have dng:decide (n<p.fu.length)=true:=by simpa using hnl
   have hcj:g0.lo.length≤j1:=by
    obtain ⟨_,_,hv,h,_⟩:=t1
    cases hv
    exact h.2.1
   have hkj:kn≤j1:=by omega
   have hkj2:(kn:Int)≤(j1:Int):=by omega
   clear hng
   obtain ⟨W6,hW6⟩ : ∃ W6,W5.alloc (.cells #[.int .i64 (kn:Int),.slice e1 g0.lo.length j1,.slice e2 g0.re.length j2,.slice e3 g0.ar.length j3,.slice e4 g0.co.length j4] 48)=W6:=⟨_,rfl⟩
   have b6:Below W5.heap.size W5 W6:=by rw [← hW6];exact (Below.refl _ _).alloc (Nat.le_refl _) _
   have e6:W6.heap[W5.heap.size]?=some (.cells #[.int .i64 (kn:Int),.slice e1 g0.lo.length j1,.slice e2 g0.re.length j2,.slice e3 g0.ar.length j3,.slice e4 g0.co.length j4] 48 (0,0)):=by rw [← hW6];exact heap_new _ _ rfl
   have HB6:=hide b6
   have HE6:=hide e6
   have k60:W6.cell? ⟨W5.heap.size,0,none⟩=some (.int .i64 (kn:Int)):=cell_of e6 rfl
   have k61:W6.cell? ⟨W5.heap.size,1,none⟩=some (.slice e1 g0.lo.length j1):=cell_of e6 rfl
   have l6:W5.heap.size<W6.heap.size:=lt_of_block e6
   have HAL:=hide (rall_any (HRS.out W6 (bel_tr HBW.out HB6.out)) (show SlAt 1 IntP B W6 (.slice e1 kn j1) (g0.lo.take kn) from sl_take (ints_keep (Nat.le_refl _) (fun j hj=>HB6.out.block j (by omega)) t1) hple) (Nat.le_trans hB2 (Nat.le_trans hC5 HB6.out.size)) (Nat.le_trans hBW5 HB6.out.size) (by rw [List.length_take];omega) (by have:=HHL.out;omega) hkd)
   rw [List.length_take,Nat.min_eq_left hple,hfi] at HAL
   clear b6 e6 hg0 hpk hfi
   go_wp2_with (at_builtin;(refine wpList_append_eq rfl _ _ 44 44 rfl rfl rfl r5 ?_;clear r5))
   refine HAL.out.mono ?_
   rintro e w7 ⟨rfl,hb7⟩
   have HB7:=hide (bel_tr HB6.out hb7)
   obtain ⟨a8,c8,W8,r1,q1,q2⟩:=(HO5.out.up HB7.out).app (show SlAt 1 IntP B w7 (.slice e2 g0.re.length j2) g0.re from ints_keep (Nat.le_refl _) (fun j hj=>HB7.out.block j (by omega)) t2) (by rw [HRLN.out];omega) (Nat.le_trans hC5 HB7.out.size)
   rw [List.length_append,HRLN.out] at r1
   have HW8:=hide (show Below w.heap.size w W8 from (bel_tr HBW.out HB7.out).trans (q2.mono h2w))
   have k7:w7.cell? ⟨W5.heap.size,2,none⟩=some (.slice e2 g0.re.length j2):=(hb7.cell (p:=⟨W5.heap.size,2,none⟩) (lt_of_block HE6.out)).trans (cell_of HE6.out rfl)
   have HFIN:=hide (show EfNo w.heap.size 8 w (.returned (.tuple #[.slice none 0 0,.int .i64 8])) W8 from ⟨HW8.out,rfl⟩)
   clear hb7 q1 q2
   go_wp2_with (at_builtin;(refine wpList_append_eq rfl _ _ 44 44 rfl rfl rfl r1 ?_;clear r1))
   go_ret2
   exact HFIN.out
 · obtain ⟨q,hq⟩ : ∃ q,L - 1=q:=⟨_,rfl⟩
   obtain ⟨y,hy⟩ : ∃ y,s[q]?=some y:=⟨s[q]'(by rw [HHL.out];omega),by simp⟩
   have RS5:=HRS.out W5 HBW.out
   rw [← HHL.out] at RS5
   obtain ⟨g,o,c,hv,hg,hcy,_,_⟩:=il_at RS5 hy
   cases hv
   have hgw:=Nat.lt_of_lt_of_le hg (Nat.le_trans hB2 hC5)
   have hql:q<L:=by omega
   have dq:decide (q<L)=true:=by simpa using hql
   have dL:decide (0<L)=true:=by simp;omega
   have dL2:decide ((0:Int)<(L:Int))=true:=by simp;omega
   have hwq:IntKind.i64.wrap ((L:Int) - 1)=(q:Int):=by
    rw [show (L:Int) - 1=(q:Int) by omega]
    exact wrap_nat (by omega)
   clear hy hq RS5 h0
   obtain ⟨k00,k01,k02,k03⟩:=HR5.out.c0
   obtain ⟨k10,k11,k12,k13⟩:=HR5.out.c1
   obtain ⟨k20,k21,k22⟩:=HR5.out.c2
   have k14:W5.cell? ⟨w.heap.size+1,4,none⟩=some (.slice b4 f.co.length x4):=cell_of HR5.out.e1 rfl
   obtain ⟨l50,l51,l52⟩:=HR5.out.lt
   dsimp only at k20 k21 k22
   clear c00 c01 c02 c03 c10 c11 c12 c13 c14 c20 c21 c22
   have hBW5:B≤W5.heap.size:=Nat.le_trans HR5.out.hB HR5.out.bel.size
   obtain ⟨qg,og,cg,ng,z1,z2,z3,z4,hvg,hng,hnl,hqg,⟨y0,y1,y2,y3,y4⟩,t1,t2,t3,t4⟩:=fd_at HR5.out.pg.fu hg0
   cases hvg
   obtain ⟨e1,j1,hz1⟩:=sl_form t1
   obtain ⟨e2,j2,hz2⟩:=sl_form t2
   obtain ⟨e3,j3,hz3⟩:=sl_form t3
   obtain ⟨e4,j4,hz4⟩:=sl_form t4
   subst hz1 hz2 hz3 hz4
   rw [hpk] at y0
   have hqgw:qg<W5.heap.size:=Nat.lt_of_lt_of_le hqg hBW5
   have dng:decide (n<p.fu.length)=true:=by simpa using hnl
   have hcj:g0.lo.length≤j1:=by
    obtain ⟨_,_,hv,h,_⟩:=t1
    cases hv
    exact h.2.1
   have hkj:kn≤j1:=by omega
   have hkj2:(kn:Int)≤(j1:Int):=by omega
   clear hng
   obtain ⟨W6,hW6⟩ : ∃ W6,W5.alloc (.cells #[.int .i64 (kn:Int),.slice e1 g0.lo.length j1,.slice e2 g0.re.length j2,.slice e3 g0.ar.length j3,.slice e4 g0.co.length j4] 48)=W6:=⟨_,rfl⟩
   have b6:Below W5.heap.size W5 W6:=by rw [← hW6];exact (Below.refl _ _).alloc (Nat.le_refl _) _
   have e6:W6.heap[W5.heap.size]?=some (.cells #[.int .i64 (kn:Int),.slice e1 g0.lo.length j1,.slice e2 g0.re.length j2,.slice e3 g0.ar.length j3,.slice e4 g0.co.length j4] 48 (0,0)):=by rw [← hW6];exact heap_new _ _ rfl
   have HB6:=hide b6
   have HE6:=hide e6
   have k60:W6.cell? ⟨W5.heap.size,0,none⟩=some (.int .i64 (kn:Int)):=cell_of e6 rfl
   have k61:W6.cell? ⟨W5.heap.size,1,none⟩=some (.slice e1 g0.lo.length j1):=cell_of e6 rfl
   have l6:W5.heap.size<W6.heap.size:=lt_of_block e6
   have HAL:=hide (rall_any (HRS.out W6 (bel_tr HBW.out HB6.out)) (show SlAt 1 IntP B W6 (.slice e1 kn j1) (g0.lo.take kn) from sl_take (ints_keep (Nat.le_refl _) (fun j hj=>HB6.out.block j (by omega)) t1) hple) (Nat.le_trans hB2 (Nat.le_trans hC5 HB6.out.size)) (Nat.le_trans hBW5 HB6.out.size) (by rw [List.length_take];omega) (by have:=HHL.out;omega) hkd)
   rw [List.length_take,Nat.min_eq_left hple,hfi] at HAL
   clear b6 e6 hg0 hpk hfi
   go_wp2_with (at_builtin;(refine wpList_append_eq rfl _ _ 44 44 rfl rfl rfl r5 ?_;clear r5))
   refine HAL.out.mono ?_
   rintro e w7 ⟨rfl,hb7⟩
   have HB7:=hide (bel_tr HB6.out hb7)
   obtain ⟨a8,c8,W8,r1,q1,q2⟩:=(HO5.out.up HB7.out).app (show SlAt 1 IntP B w7 (.slice e2 g0.re.length j2) g0.re from ints_keep (Nat.le_refl _) (fun j hj=>HB7.out.block j (by omega)) t2) (by rw [HRLN.out];omega) (Nat.le_trans hC5 HB7.out.size)
   rw [List.length_append,HRLN.out] at r1
   have HW8:=hide (show Below w.heap.size w W8 from (bel_tr HBW.out HB7.out).trans (q2.mono h2w))
   have k7:w7.cell? ⟨W5.heap.size,2,none⟩=some (.slice e2 g0.re.length j2):=(hb7.cell (p:=⟨W5.heap.size,2,none⟩) (lt_of_block HE6.out)).trans (cell_of HE6.out rfl)
   have HFIN:=hide (show EfNo w.heap.size 8 w (.returned (.tuple #[.slice none 0 0,.int .i64 8])) W8 from ⟨HW8.out,rfl⟩)
   clear hb7 q1 q2
   go_wp2_with (at_builtin;(refine wpList_append_eq rfl _ _ 44 44 rfl rfl rfl r1 ?_;clear r1))
   go_ret2
   exact HFIN.out
theorem ef_23a (P:PgAt B w v1 v2 v3 v4 p) (hB:B≤w.heap.size) (s1:SlAt 1 IntP B w u1 f.lo) (s2:SlAt 1 IntP B w u2 f.re) (s3:SlAt 1 IntP B w u3 f.ar) (s4:SlAt 3 InsP B w u4 f.co) (H:Hok p) (Rs:SlAt 1 IntP Bs w vs s) (hsB:Bs≤w.heap.size) (hsl:s.length≤300000000) {ks:List Int} {kn:Nat} (hs:s=r++ks) (hkl:ks.length=kn) (hkn:(takesP p f ⟨23,a,b⟩).n=kn) {n m kp:Nat} {tt:List Int} {g0:Fd} (hN:namesB p f ⟨23,(n:Int),b⟩=true) (ha:a=(n:Int)) (htt:p.ta[n]?=some tt) (ht0:tt[0]?=some (m:Int)) (hg0:p.fu[m]?=some g0) (hpk:g0.pa=(kp:Int)) (hkp:kn=kp+1) (hple:kp≤g0.lo.length) (hre:g0.re.length≤4096) {y:Int} (hlast:s[s.length - 1]?=some y) (hy0:¬ y=0):Calls Tryd.prog 24 #[.agg #[v1,v2,v3,v4],.agg #[.int .i64 f.pa,u1,u2,u3,u4],.agg #[.int .i64 23,.int .i64 a,.int .i64 b],vs] w (EfNo w.heap.size 8 w):=by
 obtain ⟨b4,x4,hu4⟩:=sl_form s4
 subst hu4
 obtain ⟨⟨a1,d1,rfl⟩,⟨a2,d2,rfl⟩,⟨a3,d3,rfl⟩,a4,d4,rfl⟩:=fm4 P
 obtain ⟨⟨b1,x1,rfl⟩,⟨b2,x2,rfl⟩,b3,x3,rfl⟩:=fm3 s1 s2 s3
 have R:=Rx.new (i:=⟨23,a,b⟩) (u4:=.slice b4 f.co.length x4) P hB s1 s2 s3
 dsimp only at R
 obtain ⟨W1,hW1⟩:=exR R
 rw [hW1] at R
 obtain ⟨c00,c01,c02,c03⟩:=R.c0
 obtain ⟨c10,c11,c12,c13⟩:=R.c1
 obtain ⟨c20,c21,c22⟩:=R.c2
 obtain ⟨l0,l1,l2⟩:=R.lt
 dsimp only at c20 c21 c22
 have HR:=hide R
 have c14:W1.cell? ⟨w.heap.size+1,4,none⟩=some (.slice b4 f.co.length x4):=cell_of R.e1 rfl
 clear P s1 s2 s3 s4
 have b1:=R.bel
 obtain ⟨sa,ds,hvs⟩:=sl_form Rs
 subst hvs
 have HND:=hide (needs_any (i:=⟨23,a,b⟩) (u4:=.slice b4 f.co.length x4) R.pg (Nat.le_trans R.hB b1.size) R.lo R.re R.ar H ⟨by show (1:Int)≤23;decide,by show (23:Int)≤29;decide⟩ (by rw [ha];exact hN))
 dsimp only at HND
 rw [hkn] at HND
 have HRS:=hide (show ∀ W:World,Below w.heap.size w W→SlAt 1 IntP Bs W (.slice sa s.length ds) s from fun W h=>ints_keep (Nat.le_refl _) (fun j hj=>h.block j (by omega)) Rs)
 have hcap:s.length≤ds:=by
  obtain ⟨_,_,hv,h,_⟩:=Rs
  cases hv
  exact h.2.1
 obtain ⟨L,hL⟩ : ∃ L,s.length=L:=⟨_,rfl⟩
 obtain ⟨rl,hrl⟩ : ∃ l,r.length=l:=⟨_,rfl⟩
 have hLr:L=rl+kn:=by rw [← hL,hs,← hrl,List.length_append,hkl]
 rw [hL] at HRS hcap hsl ⊢
 have HTK:=hide (show s.take rl=r from by rw [hs,← hrl];simp)
 have hwn:IntKind.i64.wrap ((L:Int) - (kn:Int))=(rl:Int):=by
  rw [show (L:Int) - (kn:Int)=(rl:Int) by omega]
  exact wrap_nat (by omega)
 have hrd:rl≤ds:=by omega
 have hrd2:(rl:Int)≤(ds:Int):=by omega
 have HHL:=hide hL
 have HRLN:=hide hrl
 have HHS:=hide hs
 have HLR:=hide hLr
 have hrl3:rl≤300000000:=by omega
 have hrlL0:rl≤L:=by omega
 clear Rs hs hL hrl hLr
 subst ha
 have HKP:=hide hkp
 clear hkp
 have hL1:0<L:=by have:=HLR.out;have:=HKP.out;omega
 go_enter Tryd.func24,Tryd.ntmps24
 go_wp2_with fail
 refine HND.out.mono ?_
 rintro e w2 ⟨rfl,hb2⟩
 have HR2:=hide (HR.out.up hb2)
 have hbw:=HR2.out.bel
 have hB2:Bs≤w2.heap.size:=Nat.le_trans hsB hbw.size
 have c3:Below w2.heap.size w2 (w2.alloc (.cells #[] 3)):=(Below.refl _ _).alloc (Nat.le_refl _) _
 have R3:SlAt 1 IntP Bs (w2.alloc (.cells #[] 3)) (.slice sa rl ds) r:=by
  have h:=HRS.out (w2.alloc (.cells #[] 3)) (bel_tr hbw c3)
  rw [← HHL.out] at h
  have h2:=sl_take h (n:=rl) (by rw [HHL.out];exact hrlL0)
  rw [HTK.out] at h2
  exact h2
 obtain ⟨a5,c5,W5,r5,q5,q6⟩:=(OwI.new (heap_new w2 (.cells #[] 3) rfl)).app R3 (by rw [HRLN.out];simp;omega) (Nat.le_of_lt (lt_of_block (heap_new w2 (.cells #[] 3) rfl)))
 rw [List.nil_append,HRLN.out] at r5 q5
 have HO5:=hide q5
 have HB5:=hide (show Below w2.heap.size w2 W5 from c3.trans q6)
 have HR5:=hide (HR2.out.up HB5.out)
 have HBW:=hide (show Below w.heap.size w W5 from bel_tr hbw HB5.out)
 have hC5:w2.heap.size≤W5.heap.size:=HB5.out.size
 have h2w:w.heap.size≤w2.heap.size:=hbw.size
 clear hb2 c3 R3 q5 q6 hbw
 have h0:¬ L=0:=by omega
 obtain ⟨q,hq⟩ : ∃ q,L - 1=q:=⟨_,rfl⟩
 obtain hy:s[q]?=some y:=by rw [← hq,← HHL.out];exact hlast
 have RS5:=HRS.out W5 HBW.out
 rw [← HHL.out] at RS5
 obtain ⟨g,o,c,hv,hg,hcy,_,_⟩:=il_at RS5 hy
 cases hv
 have hgw:=Nat.lt_of_lt_of_le hg (Nat.le_trans hB2 hC5)
 have hql:q<L:=by omega
 have dq:decide (q<L)=true:=by simpa using hql
 have dL:decide (0<L)=true:=by simp;omega
 have dL2:decide ((0:Int)<(L:Int))=true:=by simp;omega
 have hwq:IntKind.i64.wrap ((L:Int) - 1)=(q:Int):=by
  rw [show (L:Int) - 1=(q:Int) by omega]
  exact wrap_nat (by omega)
 clear hy hq RS5 h0
 obtain ⟨k00,k01,k02,k03⟩:=HR5.out.c0
 obtain ⟨k10,k11,k12,k13⟩:=HR5.out.c1
 obtain ⟨k20,k21,k22⟩:=HR5.out.c2
 have k14:W5.cell? ⟨w.heap.size+1,4,none⟩=some (.slice b4 f.co.length x4):=cell_of HR5.out.e1 rfl
 obtain ⟨l50,l51,l52⟩:=HR5.out.lt
 dsimp only at k20 k21 k22
 clear c00 c01 c02 c03 c10 c11 c12 c13 c14 c20 c21 c22
 have hBW5:B≤W5.heap.size:=Nat.le_trans HR5.out.hB HR5.out.bel.size
 obtain ⟨qg,og,cg,ng,z1,z2,z3,z4,hvg,hng,hnl,hqg,⟨y0,y1,y2,y3,y4⟩,t1,t2,t3,t4⟩:=fd_at HR5.out.pg.fu hg0
 cases hvg
 obtain ⟨e1,j1,hz1⟩:=sl_form t1
 obtain ⟨e2,j2,hz2⟩:=sl_form t2
 obtain ⟨e3,j3,hz3⟩:=sl_form t3
 obtain ⟨e4,j4,hz4⟩:=sl_form t4
 subst hz1 hz2 hz3 hz4
 rw [hpk] at y0
 have hqgw:qg<W5.heap.size:=Nat.lt_of_lt_of_le hqg hBW5
 have dng:decide (m<p.fu.length)=true:=by simpa using hnl
 have hcj:g0.lo.length≤j1:=by
  obtain ⟨_,_,hv,h,_⟩:=t1
  cases hv
  exact h.2.1
 have hkj:kp≤j1:=by omega
 have hkj2:(kp:Int)≤(j1:Int):=by omega
 obtain ⟨gt,ot,ct,nt,ut,hvt,hnt,hlt2,hgt,hct,hslt⟩:=lst_at HR5.out.pg.ta htt
 cases hvt
 obtain ⟨g3,o3,c3,hv3,hg3,hc3,_,_⟩:=il_at hslt ht0
 subst hv3
 rw [Nat.add_zero] at hc3
 have hgtw:gt<W5.heap.size:=Nat.lt_of_lt_of_le hgt hBW5
 have hg3w:g3<W5.heap.size:=Nat.lt_of_lt_of_le hg3 hBW5
 have ddt:decide (n<p.ta.length)=true:=by simpa using hlt2
 have htl0:0<tt.length:=get_lt ht0
 have dd0:decide (0<tt.length)=true:=by simpa using htl0
 clear hng hnt hslt
 have HS35:=hide (show ∀ W:World,Below W5.heap.size W5 W→(fun W:World=>W.cell? ⟨w.heap.size,1,none⟩=some (.slice (some ⟨qg,og,none⟩) p.fu.length d2)∧W.cell? ⟨w.heap.size,2,none⟩=some (.slice (some ⟨gt,ot,none⟩) p.ta.length d3)∧W.cell? ⟨w.heap.size+2,1,none⟩=some (.int .i64 (n:Int))∧W.cell? ⟨gt,ot+n,none⟩=some (.slice (some ⟨g3,o3,none⟩) tt.length c3)∧W.cell? ⟨g3,o3,none⟩=some (.int .i64 (m:Int))∧W.cell? ⟨qg,og+m*5,none⟩=some (.int .i64 (kp:Int))∧W.cell? ⟨qg,og+m*5+1,none⟩=some (.slice e1 g0.lo.length j1)∧W.cell? ⟨qg,og+m*5+2,none⟩=some (.slice e2 g0.re.length j2)∧W.cell? ⟨qg,og+m*5+3,none⟩=some (.slice e3 g0.ar.length j3)∧W.cell? ⟨qg,og+m*5+4,none⟩=some (.slice e4 g0.co.length j4)) W from fun W h=>⟨(h.cell (p:=⟨w.heap.size,1,none⟩) l50).trans k01,(h.cell (p:=⟨w.heap.size,2,none⟩) l50).trans k02,(h.cell (p:=⟨w.heap.size+2,1,none⟩) l52).trans k21,(h.cell (p:=⟨gt,ot+n,none⟩) hgtw).trans hct,(h.cell (p:=⟨g3,o3,none⟩) hg3w).trans hc3,(h.cell (p:=⟨qg,og+m*5,none⟩) hqgw).trans y0,(h.cell (p:=⟨qg,og+m*5+1,none⟩) hqgw).trans y1,(h.cell (p:=⟨qg,og+m*5+2,none⟩) hqgw).trans y2,(h.cell (p:=⟨qg,og+m*5+3,none⟩) hqgw).trans y3,(h.cell (p:=⟨qg,og+m*5+4,none⟩) hqgw).trans y4⟩)
 go_upto_region 35 with (at_builtin;(refine wpList_append_eq rfl _ _ 44 44 rfl rfl rfl r5 ?_;clear r5))
 go_cut [15] from 159 to 170 (fun v wc=>Hid (v=.pointer (some ⟨W5.heap.size,0,none⟩)∧Below W5.heap.size W5 wc∧wc.heap[W5.heap.size]?=some (.cells #[.int .i64 (kp:Int),.slice e1 g0.lo.length j1,.slice e2 g0.re.length j2,.slice e3 g0.ar.length j3,.slice e4 g0.co.length j4] 48 (0,0))))
 case first =>
  refine wp_region_held_drew (S:=(fun W:World=>W.cell? ⟨w.heap.size,1,none⟩=some (.slice (some ⟨qg,og,none⟩) p.fu.length d2)∧W.cell? ⟨w.heap.size,2,none⟩=some (.slice (some ⟨gt,ot,none⟩) p.ta.length d3)∧W.cell? ⟨w.heap.size+2,1,none⟩=some (.int .i64 (n:Int))∧W.cell? ⟨gt,ot+n,none⟩=some (.slice (some ⟨g3,o3,none⟩) tt.length c3)∧W.cell? ⟨g3,o3,none⟩=some (.int .i64 (m:Int))∧W.cell? ⟨qg,og+m*5,none⟩=some (.int .i64 (kp:Int))∧W.cell? ⟨qg,og+m*5+1,none⟩=some (.slice e1 g0.lo.length j1)∧W.cell? ⟨qg,og+m*5+2,none⟩=some (.slice e2 g0.re.length j2)∧W.cell? ⟨qg,og+m*5+3,none⟩=some (.slice e3 g0.ar.length j3)∧W.cell? ⟨qg,og+m*5+4,none⟩=some (.slice e4 g0.co.length j4))) (by kernel_rfl) (HS35.out _ (below_drew (Below.refl _ _))) (fun hHeld1=>?_)
  refine tk 0 oRi0 ?v2 ?h2 ?_
  case h2=>(intro W h;(try dsimp only at h);go_simp;try with_reducible rfl)
  try simp only [sp]
  refine tk 1 oRi1 ?v3 ?h3 ?_
  case h3=>(intro W h;(try dsimp only at h);go_simp;try with_reducible rfl)
  try simp only [sp]
  refine tk 2 oRi2 ?v4 ?h4 ?_
  case h4=>(intro W h;(try dsimp only at h);go_simp;try with_reducible rfl)
  try simp only [sp]
  refine tk 3 oRi3 ?v5 ?h5 ?_
  case h5=>(intro W h;(try dsimp only at h);go_simp;try with_reducible rfl)
  try simp only [sp]
  refine tk 4 oRi4 ?v6 ?h6 ?_
  case h6=>(intro W h;(try dsimp only at h);go_simp;try with_reducible rfl)
  try simp only [sp]
  refine tk 5 oRi5 ?v7 ?h7 ?_
  case h7=>(intro W h;(try dsimp only at h);go_simp;try with_reducible rfl)
  try simp only [sp]
  refine tk 6 oRi6 ?v8 ?h8 ?_
  case h8=>(intro W h;(try dsimp only at h);go_simp;try with_reducible rfl)
  try simp only [sp]
  refine tk 7 oRi7 ?v9 ?h9 ?_
  case h9=>(intro W h;(try dsimp only at h);go_simp;try with_reducible rfl)
  try simp only [sp]
  refine tk 8 oRi8 ?v10 ?h10 ?_
  case h10=>(intro W h;(try dsimp only at h);go_simp;try with_reducible rfl)
  try simp only [sp]
  refine tk 9 oRi9 ?v11 ?h11 ?_
  case h11=>(intro W h;(try dsimp only at h);go_simp;try with_reducible rfl)
  try simp only [sp]
  refine tk 10 oRi10 ?v12 ?h12 ?_
  case h12=>(intro W h;(try dsimp only at h);go_simp;try with_reducible rfl)
  try simp only [sp]
  refine tk 11 oRi11 ?v13 ?h13 ?_
  case h13=>(intro W h;(try dsimp only at h);go_simp;try with_reducible rfl)
  try simp only [sp]
  refine wpAnyH_ready (rs:=[12]) (by kernel_rfl) (by simp) ?_
  refine AllReadyH.cons (o:=oRi12) rfl (fun K hK=>?_) AllReadyH.nil
  go_simp
  go_wp2_with fail
  refine hK.out _ _ (HS35.out _ ((below_drew (Below.refl _ _)).alloc (Nat.le_refl _) _)) (fun hHeld14=>?_)
  clear hK K
  try simp only [sp]
  refine wpAnyH_ready (rs:=[13]) (by kernel_rfl) (by simp) ?_
  refine AllReadyH.cons (o:=oRi13) rfl (fun K hK=>?_) AllReadyH.nil
  go_simp
  go_wp2_with fail
  refine hK.out _ _ (HS35.out _ ((below_drew (Below.refl _ _)).alloc (Nat.le_refl _) _)) (fun hHeld15=>?_)
  clear hK K
  try simp only [sp]
  refine wpAnyH_done (by kernel_rfl) ?_ _
  go_wp2_with fail
  go_meet
  exact hide ⟨rfl,(below_drew (Below.refl _ _)).alloc (Nat.le_refl _) _,heap_new W5.drew _ rfl⟩
 case rest =>
  obtain ⟨hvp,hbc,hec⟩:=hcut.out
  subst hvp
  have HB6:=hide hbc
  have HE6:=hide hec
  have HS36:=hide (show ∀ W:World,Below wc.heap.size wc W→(fun W:World=>W.cell? ⟨W5.heap.size,0,none⟩=some (.int .i64 (kp:Int))∧W.cell? ⟨W5.heap.size,1,none⟩=some (.slice e1 g0.lo.length j1)) W from fun W h=>by
   have h1:=(h.block _ (lt_of_block hec)).trans hec
   exact ⟨cell_of h1 rfl,cell_of h1 rfl⟩)
  have ey:(y == 0)=false:=by simpa using hy0
  clear hcut hbc hec hg0 hpk hy0
  go_upto_region 36 with (fail)
  refine wp_region_held_drew (S:=(fun W:World=>W.cell? ⟨W5.heap.size,0,none⟩=some (.int .i64 (kp:Int))∧W.cell? ⟨W5.heap.size,1,none⟩=some (.slice e1 g0.lo.length j1))) (by kernel_rfl) (HS36.out _ (below_drew (Below.refl _ _))) (fun hHeld16=>?_)
  refine tk 0 oRi14 ?v17 ?h17 ?_
  case h17=>(intro W h;(try dsimp only at h);go_simp;try with_reducible rfl)
  try simp only [sp]
  refine tk 1 oRi15 ?v18 ?h18 ?_
  case h18=>(intro W h;(try dsimp only at h);go_simp;try with_reducible rfl)
  try simp only [sp]
  refine tk 2 oRi16 ?v19 ?h19 ?_
  case h19=>(intro W h;(try dsimp only at h);go_simp;try with_reducible rfl)
  try simp only [sp]
  refine tn 3 oRi17 ?_
  try simp only [sp]
  refine tn 4 oRi18 ?_
  try simp only [sp]
  refine tn 5 oRi19 ?_
  try simp only [sp]
  refine tn 6 oRi20 ?_
  try simp only [sp]
  refine tn 7 oRi21 ?_
  try simp only [sp]
  refine tn 8 oRi22 ?_
  try simp only [sp]
  refine tn 9 oRi23 ?_
  try simp only [sp]
  refine tn 10 oRi24 ?_
  try simp only [sp]
  refine tn 11 oRi25 ?_
  try simp only [sp]
  refine tn 12 oRi26 ?_
  try simp only [sp]
  refine tn 13 oRi27 ?_
  try simp only [sp]
  refine tk 14 oRi28 ?v31 ?h31 ?_
  case h31=>(intro W h;(try dsimp only at h);go_simp;try with_reducible rfl)
  try simp only [sp]
  refine tk 15 oRi29 ?v32 ?h32 ?_
  case h32=>(intro W h;(try dsimp only at h);go_simp;try with_reducible rfl)
  try simp only [sp]
  refine wpAnyH_done (by kernel_rfl) ?_ _
  have hb7:Below wc.heap.size wc wc.drew:=below_drew (Below.refl _ _)
  generalize wc.drew=w7 at *
  have HB7:=hide (bel_tr HB6.out hb7)
  obtain ⟨a8,c8,W8,r1,q1,q2⟩:=(HO5.out.up HB7.out).app (show SlAt 1 IntP B w7 (.slice e2 g0.re.length j2) g0.re from ints_keep (Nat.le_refl _) (fun j hj=>HB7.out.block j (by omega)) t2) (by rw [HRLN.out];omega) (Nat.le_trans hC5 HB7.out.size)
  rw [List.length_append,HRLN.out] at r1
  have HW8:=hide (show Below w.heap.size w W8 from (bel_tr HBW.out HB7.out).trans (q2.mono h2w))
  have k7:w7.cell? ⟨W5.heap.size,2,none⟩=some (.slice e2 g0.re.length j2):=(hb7.cell (p:=⟨W5.heap.size,2,none⟩) (lt_of_block HE6.out)).trans (cell_of HE6.out rfl)
  have HFIN:=hide (show EfNo w.heap.size 8 w (.returned (.tuple #[.slice none 0 0,.int .i64 8])) W8 from ⟨HW8.out,rfl⟩)
  clear hb7 q1 q2
  go_wp2_with (at_builtin;(refine wpList_append_eq rfl _ _ 44 44 rfl rfl rfl r1 ?_;clear r1))
  go_ret2
  exact HFIN.out
theorem ef_23t (P:PgAt B w v1 v2 v3 v4 p) (hB:B≤w.heap.size) (s1:SlAt 1 IntP B w u1 f.lo) (s2:SlAt 1 IntP B w u2 f.re) (s3:SlAt 1 IntP B w u3 f.ar) (s4:SlAt 3 InsP B w u4 f.co) (H:Hok p) (Rs:SlAt 1 IntP Bs w vs s) (hsB:Bs≤w.heap.size) (hsl:s.length≤300000000) {ks:List Int} {kn:Nat} (hs:s=r++ks) (hkl:ks.length=kn) (hkn:(takesP p f ⟨23,a,b⟩).n=kn) (hkd:∀ x∈s,-1≤x∧x≤2000000) {n m kp:Nat} {tt:List Int} {g0:Fd} (hN:namesB p f ⟨23,(n:Int),b⟩=true) (ha:a=(n:Int)) (htt:p.ta[n]?=some tt) (ht0:tt[0]?=some (m:Int)) (hg0:p.fu[m]?=some g0) (hpk:g0.pa=(kp:Int)) (hkp:kn=kp+1) (hple:kp≤g0.lo.length) (hre:g0.re.length≤4096) {y:Int} (hlast:s[s.length - 1]?=some y) (hy0:y=0) (hfi:(Must.fit (g0.lo.take kp)).fine ((s.take (s.length - 1)).drop (s.length - 1 - kp))=true):Calls Tryd.prog 24 #[.agg #[v1,v2,v3,v4],.agg #[.int .i64 f.pa,u1,u2,u3,u4],.agg #[.int .i64 23,.int .i64 a,.int .i64 b],vs] w (EfOk w.heap.size (r++g0.re) w):=by
 obtain ⟨b4,x4,hu4⟩:=sl_form s4
 subst hu4
 obtain ⟨⟨a1,d1,rfl⟩,⟨a2,d2,rfl⟩,⟨a3,d3,rfl⟩,a4,d4,rfl⟩:=fm4 P
 obtain ⟨⟨b1,x1,rfl⟩,⟨b2,x2,rfl⟩,b3,x3,rfl⟩:=fm3 s1 s2 s3
 have R:=Rx.new (i:=⟨23,a,b⟩) (u4:=.slice b4 f.co.length x4) P hB s1 s2 s3
 dsimp only at R
 obtain ⟨W1,hW1⟩:=exR R
 rw [hW1] at R
 obtain ⟨c00,c01,c02,c03⟩:=R.c0
 obtain ⟨c10,c11,c12,c13⟩:=R.c1
 obtain ⟨c20,c21,c22⟩:=R.c2
 obtain ⟨l0,l1,l2⟩:=R.lt
 dsimp only at c20 c21 c22
 have HR:=hide R
 have c14:W1.cell? ⟨w.heap.size+1,4,none⟩=some (.slice b4 f.co.length x4):=cell_of R.e1 rfl
 clear P s1 s2 s3 s4
 have b1:=R.bel
 obtain ⟨sa,ds,hvs⟩:=sl_form Rs
 subst hvs
 have HND:=hide (needs_any (i:=⟨23,a,b⟩) (u4:=.slice b4 f.co.length x4) R.pg (Nat.le_trans R.hB b1.size) R.lo R.re R.ar H ⟨by show (1:Int)≤23;decide,by show (23:Int)≤29;decide⟩ (by rw [ha];exact hN))
 dsimp only at HND
 rw [hkn] at HND
 have HRS:=hide (show ∀ W:World,Below w.heap.size w W→SlAt 1 IntP Bs W (.slice sa s.length ds) s from fun W h=>ints_keep (Nat.le_refl _) (fun j hj=>h.block j (by omega)) Rs)
 have hcap:s.length≤ds:=by
  obtain ⟨_,_,hv,h,_⟩:=Rs
  cases hv
  exact h.2.1
 obtain ⟨L,hL⟩ : ∃ L,s.length=L:=⟨_,rfl⟩
 obtain ⟨rl,hrl⟩ : ∃ l,r.length=l:=⟨_,rfl⟩
 have hLr:L=rl+kn:=by rw [← hL,hs,← hrl,List.length_append,hkl]
 rw [hL] at HRS hcap hsl ⊢
 have HTK:=hide (show s.take rl=r from by rw [hs,← hrl];simp)
 have hwn:IntKind.i64.wrap ((L:Int) - (kn:Int))=(rl:Int):=by
  rw [show (L:Int) - (kn:Int)=(rl:Int) by omega]
  exact wrap_nat (by omega)
 have hrd:rl≤ds:=by omega
 have hrd2:(rl:Int)≤(ds:Int):=by omega
 have HHL:=hide hL
 have HRLN:=hide hrl
 have HHS:=hide hs
 have HLR:=hide hLr
 have hrl3:rl≤300000000:=by omega
 have hrlL0:rl≤L:=by omega
 clear Rs hs hL hrl hLr
 subst ha
 have HKP:=hide hkp
 clear hkp
 have hL1:0<L:=by have:=HLR.out;have:=HKP.out;omega
 go_enter Tryd.func24,Tryd.ntmps24
 go_wp2_with fail
 refine HND.out.mono ?_
 rintro e w2 ⟨rfl,hb2⟩
 have HR2:=hide (HR.out.up hb2)
 have hbw:=HR2.out.bel
 have hB2:Bs≤w2.heap.size:=Nat.le_trans hsB hbw.size
 have c3:Below w2.heap.size w2 (w2.alloc (.cells #[] 3)):=(Below.refl _ _).alloc (Nat.le_refl _) _
 have R3:SlAt 1 IntP Bs (w2.alloc (.cells #[] 3)) (.slice sa rl ds) r:=by
  have h:=HRS.out (w2.alloc (.cells #[] 3)) (bel_tr hbw c3)
  rw [← HHL.out] at h
  have h2:=sl_take h (n:=rl) (by rw [HHL.out];exact hrlL0)
  rw [HTK.out] at h2
  exact h2
 obtain ⟨a5,c5,W5,r5,q5,q6⟩:=(OwI.new (heap_new w2 (.cells #[] 3) rfl)).app R3 (by rw [HRLN.out];simp;omega) (Nat.le_of_lt (lt_of_block (heap_new w2 (.cells #[] 3) rfl)))
 rw [List.nil_append,HRLN.out] at r5 q5
 have HO5:=hide q5
 have HB5:=hide (show Below w2.heap.size w2 W5 from c3.trans q6)
 have HR5:=hide (HR2.out.up HB5.out)
 have HBW:=hide (show Below w.heap.size w W5 from bel_tr hbw HB5.out)
 have hC5:w2.heap.size≤W5.heap.size:=HB5.out.size
 have h2w:w.heap.size≤w2.heap.size:=hbw.size
 clear hb2 c3 R3 q5 q6 hbw
 have h0:¬ L=0:=by omega
 obtain ⟨q,hq⟩ : ∃ q,L - 1=q:=⟨_,rfl⟩
 obtain hy:s[q]?=some y:=by rw [← hq,← HHL.out];exact hlast
 have RS5:=HRS.out W5 HBW.out
 rw [← HHL.out] at RS5
 obtain ⟨g,o,c,hv,hg,hcy,_,_⟩:=il_at RS5 hy
 cases hv
 have hgw:=Nat.lt_of_lt_of_le hg (Nat.le_trans hB2 hC5)
 have HQ1L:=hide hq
 have hql:q<L:=by omega
 have dq:decide (q<L)=true:=by simpa using hql
 have dL:decide (0<L)=true:=by simp;omega
 have dL2:decide ((0:Int)<(L:Int))=true:=by simp;omega
 have hwq:IntKind.i64.wrap ((L:Int) - 1)=(q:Int):=by
  rw [show (L:Int) - 1=(q:Int) by omega]
  exact wrap_nat (by omega)
 clear hy hq RS5 h0
 obtain ⟨k00,k01,k02,k03⟩:=HR5.out.c0
 obtain ⟨k10,k11,k12,k13⟩:=HR5.out.c1
 obtain ⟨k20,k21,k22⟩:=HR5.out.c2
 have k14:W5.cell? ⟨w.heap.size+1,4,none⟩=some (.slice b4 f.co.length x4):=cell_of HR5.out.e1 rfl
 obtain ⟨l50,l51,l52⟩:=HR5.out.lt
 dsimp only at k20 k21 k22
 clear c00 c01 c02 c03 c10 c11 c12 c13 c14 c20 c21 c22
 have hBW5:B≤W5.heap.size:=Nat.le_trans HR5.out.hB HR5.out.bel.size
 obtain ⟨qg,og,cg,ng,z1,z2,z3,z4,hvg,hng,hnl,hqg,⟨y0,y1,y2,y3,y4⟩,t1,t2,t3,t4⟩:=fd_at HR5.out.pg.fu hg0
 cases hvg
 obtain ⟨e1,j1,hz1⟩:=sl_form t1
 obtain ⟨e2,j2,hz2⟩:=sl_form t2
 obtain ⟨e3,j3,hz3⟩:=sl_form t3
 obtain ⟨e4,j4,hz4⟩:=sl_form t4
 subst hz1 hz2 hz3 hz4
 rw [hpk] at y0
 have hqgw:qg<W5.heap.size:=Nat.lt_of_lt_of_le hqg hBW5
 have dng:decide (m<p.fu.length)=true:=by simpa using hnl
 have hcj:g0.lo.length≤j1:=by
  obtain ⟨_,_,hv,h,_⟩:=t1
  cases hv
  exact h.2.1
 have hkj:kp≤j1:=by omega
 have hkj2:(kp:Int)≤(j1:Int):=by omega
 obtain ⟨gt,ot,ct,nt,ut,hvt,hnt,hlt2,hgt,hct,hslt⟩:=lst_at HR5.out.pg.ta htt
 cases hvt
 obtain ⟨g3,o3,c3,hv3,hg3,hc3,_,_⟩:=il_at hslt ht0
 subst hv3
 rw [Nat.add_zero] at hc3
 have hgtw:gt<W5.heap.size:=Nat.lt_of_lt_of_le hgt hBW5
 have hg3w:g3<W5.heap.size:=Nat.lt_of_lt_of_le hg3 hBW5
 have ddt:decide (n<p.ta.length)=true:=by simpa using hlt2
 have htl0:0<tt.length:=get_lt ht0
 have dd0:decide (0<tt.length)=true:=by simpa using htl0
 clear hng hnt hslt
 have HS35:=hide (show ∀ W:World,Below W5.heap.size W5 W→(fun W:World=>W.cell? ⟨w.heap.size,1,none⟩=some (.slice (some ⟨qg,og,none⟩) p.fu.length d2)∧W.cell? ⟨w.heap.size,2,none⟩=some (.slice (some ⟨gt,ot,none⟩) p.ta.length d3)∧W.cell? ⟨w.heap.size+2,1,none⟩=some (.int .i64 (n:Int))∧W.cell? ⟨gt,ot+n,none⟩=some (.slice (some ⟨g3,o3,none⟩) tt.length c3)∧W.cell? ⟨g3,o3,none⟩=some (.int .i64 (m:Int))∧W.cell? ⟨qg,og+m*5,none⟩=some (.int .i64 (kp:Int))∧W.cell? ⟨qg,og+m*5+1,none⟩=some (.slice e1 g0.lo.length j1)∧W.cell? ⟨qg,og+m*5+2,none⟩=some (.slice e2 g0.re.length j2)∧W.cell? ⟨qg,og+m*5+3,none⟩=some (.slice e3 g0.ar.length j3)∧W.cell? ⟨qg,og+m*5+4,none⟩=some (.slice e4 g0.co.length j4)) W from fun W h=>⟨(h.cell (p:=⟨w.heap.size,1,none⟩) l50).trans k01,(h.cell (p:=⟨w.heap.size,2,none⟩) l50).trans k02,(h.cell (p:=⟨w.heap.size+2,1,none⟩) l52).trans k21,(h.cell (p:=⟨gt,ot+n,none⟩) hgtw).trans hct,(h.cell (p:=⟨g3,o3,none⟩) hg3w).trans hc3,(h.cell (p:=⟨qg,og+m*5,none⟩) hqgw).trans y0,(h.cell (p:=⟨qg,og+m*5+1,none⟩) hqgw).trans y1,(h.cell (p:=⟨qg,og+m*5+2,none⟩) hqgw).trans y2,(h.cell (p:=⟨qg,og+m*5+3,none⟩) hqgw).trans y3,(h.cell (p:=⟨qg,og+m*5+4,none⟩) hqgw).trans y4⟩)
 go_upto_region 35 with (at_builtin;(refine wpList_append_eq rfl _ _ 44 44 rfl rfl rfl r5 ?_;clear r5))
 go_cut [15] from 159 to 170 (fun v wc=>Hid (v=.pointer (some ⟨W5.heap.size,0,none⟩)∧Below W5.heap.size W5 wc∧wc.heap[W5.heap.size]?=some (.cells #[.int .i64 (kp:Int),.slice e1 g0.lo.length j1,.slice e2 g0.re.length j2,.slice e3 g0.ar.length j3,.slice e4 g0.co.length j4] 48 (0,0))))
 case first =>
  refine wp_region_held_drew (S:=(fun W:World=>W.cell? ⟨w.heap.size,1,none⟩=some (.slice (some ⟨qg,og,none⟩) p.fu.length d2)∧W.cell? ⟨w.heap.size,2,none⟩=some (.slice (some ⟨gt,ot,none⟩) p.ta.length d3)∧W.cell? ⟨w.heap.size+2,1,none⟩=some (.int .i64 (n:Int))∧W.cell? ⟨gt,ot+n,none⟩=some (.slice (some ⟨g3,o3,none⟩) tt.length c3)∧W.cell? ⟨g3,o3,none⟩=some (.int .i64 (m:Int))∧W.cell? ⟨qg,og+m*5,none⟩=some (.int .i64 (kp:Int))∧W.cell? ⟨qg,og+m*5+1,none⟩=some (.slice e1 g0.lo.length j1)∧W.cell? ⟨qg,og+m*5+2,none⟩=some (.slice e2 g0.re.length j2)∧W.cell? ⟨qg,og+m*5+3,none⟩=some (.slice e3 g0.ar.length j3)∧W.cell? ⟨qg,og+m*5+4,none⟩=some (.slice e4 g0.co.length j4))) (by kernel_rfl) (HS35.out _ (below_drew (Below.refl _ _))) (fun hHeld33=>?_)
  refine tk 0 oRi0 ?v34 ?h34 ?_
  case h34=>(intro W h;(try dsimp only at h);go_simp;try with_reducible rfl)
  try simp only [sp]
  refine tk 1 oRi1 ?v35 ?h35 ?_
  case h35=>(intro W h;(try dsimp only at h);go_simp;try with_reducible rfl)
  try simp only [sp]
  refine tk 2 oRi2 ?v36 ?h36 ?_
  case h36=>(intro W h;(try dsimp only at h);go_simp;try with_reducible rfl)
  try simp only [sp]
  refine tk 3 oRi3 ?v37 ?h37 ?_
  case h37=>(intro W h;(try dsimp only at h);go_simp;try with_reducible rfl)
  try simp only [sp]
  refine tk 4 oRi4 ?v38 ?h38 ?_
  case h38=>(intro W h;(try dsimp only at h);go_simp;try with_reducible rfl)
  try simp only [sp]
  refine tk 5 oRi5 ?v39 ?h39 ?_
  case h39=>(intro W h;(try dsimp only at h);go_simp;try with_reducible rfl)
  try simp only [sp]
  refine tk 6 oRi6 ?v40 ?h40 ?_
  case h40=>(intro W h;(try dsimp only at h);go_simp;try with_reducible rfl)
  try simp only [sp]
  refine tk 7 oRi7 ?v41 ?h41 ?_
  case h41=>(intro W h;(try dsimp only at h);go_simp;try with_reducible rfl)
  try simp only [sp]
  refine tk 8 oRi8 ?v42 ?h42 ?_
  case h42=>(intro W h;(try dsimp only at h);go_simp;try with_reducible rfl)
  try simp only [sp]
  refine tk 9 oRi9 ?v43 ?h43 ?_
  case h43=>(intro W h;(try dsimp only at h);go_simp;try with_reducible rfl)
  try simp only [sp]
  refine tk 10 oRi10 ?v44 ?h44 ?_
  case h44=>(intro W h;(try dsimp only at h);go_simp;try with_reducible rfl)
  try simp only [sp]
  refine tk 11 oRi11 ?v45 ?h45 ?_
  case h45=>(intro W h;(try dsimp only at h);go_simp;try with_reducible rfl)
  try simp only [sp]
  refine wpAnyH_ready (rs:=[12]) (by kernel_rfl) (by simp) ?_
  refine AllReadyH.cons (o:=oRi12) rfl (fun K hK=>?_) AllReadyH.nil
  go_simp
  go_wp2_with fail
  refine hK.out _ _ (HS35.out _ ((below_drew (Below.refl _ _)).alloc (Nat.le_refl _) _)) (fun hHeld46=>?_)
  clear hK K
  try simp only [sp]
  refine wpAnyH_ready (rs:=[13]) (by kernel_rfl) (by simp) ?_
  refine AllReadyH.cons (o:=oRi13) rfl (fun K hK=>?_) AllReadyH.nil
  go_simp
  go_wp2_with fail
  refine hK.out _ _ (HS35.out _ ((below_drew (Below.refl _ _)).alloc (Nat.le_refl _) _)) (fun hHeld47=>?_)
  clear hK K
  try simp only [sp]
  refine wpAnyH_done (by kernel_rfl) ?_ _
  go_wp2_with fail
  go_meet
  exact hide ⟨rfl,(below_drew (Below.refl _ _)).alloc (Nat.le_refl _) _,heap_new W5.drew _ rfl⟩
 case rest =>
  obtain ⟨hvp,hbc,hec⟩:=hcut.out
  subst hvp
  have HB6:=hide hbc
  have HE6:=hide hec
  have HS36:=hide (show ∀ W:World,Below wc.heap.size wc W→(fun W:World=>W.cell? ⟨W5.heap.size,0,none⟩=some (.int .i64 (kp:Int))∧W.cell? ⟨W5.heap.size,1,none⟩=some (.slice e1 g0.lo.length j1)) W from fun W h=>by
   have h1:=(h.block _ (lt_of_block hec)).trans hec
   exact ⟨cell_of h1 rfl,cell_of h1 rfl⟩)
  have ey:(y == 0)=true:=by simp [hy0]
  have hqd:q≤ds:=by omega
  have hqd2:(q:Int)≤(ds:Int):=by omega
  have HQL:=hide (show (s.take q).length=q from by rw [List.length_take,HHL.out];omega)
  have HAL:=hide (rall_any (w:=wc.drew) (s:=s.take q) (t:=g0.lo.take kp) (va:=.slice (some ⟨g,o,none⟩) q ds) (vb:=.slice e1 kp j1) (by have h:=HRS.out wc.drew (bel_tr HBW.out (below_drew HB6.out));rw [← HHL.out] at h;exact sl_take h (by rw [HHL.out];omega)) (show SlAt 1 IntP B wc.drew (.slice e1 kp j1) (g0.lo.take kp) from sl_take (ints_keep (Nat.le_refl _) (fun j hj=>(below_drew HB6.out).block j (by omega)) t1) hple) (Nat.le_trans hB2 (Nat.le_trans hC5 HB6.out.size)) (Nat.le_trans hBW5 HB6.out.size) (by rw [HQL.out,List.length_take];have:=HLR.out;have:=HKP.out;have:=HQ1L.out;omega) (by rw [HQL.out];omega) (fun x hx=>hkd x (List.mem_of_mem_take hx)))
  rw [HQL.out,List.length_take,Nat.min_eq_left hple] at HAL
  rw [show (Must.fit (g0.lo.take kp)).fine ((s.take q).drop (q - kp))=true from by rw [← hfi,HHL.out,HQ1L.out]] at HAL
  clear hcut hbc hec hg0 hpk hy0 hfi
  go_upto_region 36 with (fail)
  refine wp_region_held_drew (S:=(fun W:World=>W.cell? ⟨W5.heap.size,0,none⟩=some (.int .i64 (kp:Int))∧W.cell? ⟨W5.heap.size,1,none⟩=some (.slice e1 g0.lo.length j1))) (by kernel_rfl) (HS36.out _ (below_drew (Below.refl _ _))) (fun hHeld48=>?_)
  refine tk 0 oRi14 ?v49 ?h49 ?_
  case h49=>(intro W h;(try dsimp only at h);go_simp;try with_reducible rfl)
  try simp only [sp]
  refine tk 1 oRi15 ?v50 ?h50 ?_
  case h50=>(intro W h;(try dsimp only at h);go_simp;try with_reducible rfl)
  try simp only [sp]
  refine tk 2 oRi16 ?v51 ?h51 ?_
  case h51=>(intro W h;(try dsimp only at h);go_simp;try with_reducible rfl)
  try simp only [sp]
  refine tk 3 oRi17 ?v52 ?h52 ?_
  case h52=>(intro W h;(try dsimp only at h);go_simp;try with_reducible rfl)
  try simp only [sp]
  refine tk 4 oRi18 ?v53 ?h53 ?_
  case h53=>(intro W h;(try dsimp only at h);go_simp;try with_reducible rfl)
  try simp only [sp]
  refine tk 5 oRi19 ?v54 ?h54 ?_
  case h54=>(intro W h;(try dsimp only at h);go_simp;try with_reducible rfl)
  try simp only [sp]
  refine tk 6 oRi20 ?v55 ?h55 ?_
  case h55=>(intro W h;(try dsimp only at h);go_simp;try with_reducible rfl)
  try simp only [sp]
  refine tk 7 oRi21 ?v56 ?h56 ?_
  case h56=>(intro W h;(try dsimp only at h);go_simp;try with_reducible rfl)
  try simp only [sp]
  refine tk 8 oRi22 ?v57 ?h57 ?_
  case h57=>(intro W h;(try dsimp only at h);go_simp;try with_reducible rfl)
  try simp only [sp]
  refine tk 9 oRi23 ?v58 ?h58 ?_
  case h58=>(intro W h;(try dsimp only at h);go_simp;try with_reducible rfl)
  try simp only [sp]
  refine tk 10 oRi24 ?v59 ?h59 ?_
  case h59=>(intro W h;(try dsimp only at h);go_simp;try with_reducible rfl)
  try simp only [sp]
  refine tk 11 oRi25 ?v60 ?h60 ?_
  case h60=>(intro W h;(try dsimp only at h);go_simp;try with_reducible rfl)
  try simp only [sp]
  refine tk 12 oRi26 ?v61 ?h61 ?_
  case h61=>(intro W h;(try dsimp only at h);go_simp;try with_reducible rfl)
  try simp only [sp]
  refine wpAnyH_ready (rs:=[13]) (by kernel_rfl) (by simp) ?_
  refine AllReadyH.cons (o:=oRi27) rfl (fun K hK=>?_) AllReadyH.nil
  go_simp
  go_at_call 44
  refine HAL.out.mono ?_
  rintro e w7 ⟨rfl,hb7'⟩
  have hb7:Below wc.heap.size wc w7:=(below_drew (Below.refl _ _)).trans hb7'
  go_wp2_with fail
  refine hK.out _ _ (HS36.out _ hb7) (fun hHeld62=>?_)
  clear hK K
  try simp only [sp]
  refine tk 14 oRi28 ?v63 ?h63 ?_
  case h63=>(intro W h;(try dsimp only at h);go_simp;try with_reducible rfl)
  try simp only [sp]
  refine tk 15 oRi29 ?v64 ?h64 ?_
  case h64=>(intro W h;(try dsimp only at h);go_simp;try with_reducible rfl)
  try simp only [sp]
  refine wpAnyH_done (by kernel_rfl) ?_ _
  clear hb7'
  have HB7:=hide (bel_tr HB6.out hb7)
  obtain ⟨a8,c8,W8,r1,q1,q2⟩:=(HO5.out.up HB7.out).app (show SlAt 1 IntP B w7 (.slice e2 g0.re.length j2) g0.re from ints_keep (Nat.le_refl _) (fun j hj=>HB7.out.block j (by omega)) t2) (by rw [HRLN.out];omega) (Nat.le_trans hC5 HB7.out.size)
  rw [List.length_append,HRLN.out] at r1
  have HW8:=hide (show Below w.heap.size w W8 from (bel_tr HBW.out HB7.out).trans (q2.mono h2w))
  have k7:w7.cell? ⟨W5.heap.size,2,none⟩=some (.slice e2 g0.re.length j2):=(hb7.cell (p:=⟨W5.heap.size,2,none⟩) (lt_of_block HE6.out)).trans (cell_of HE6.out rfl)
  have HFIN:=hide (show EfOk w.heap.size (r++g0.re) w (.returned (.tuple #[.slice a8 (rl+g0.re.length) c8,.int .i64 0])) W8 from ⟨HW8.out,a8,c8,by rw [List.length_append,HRLN.out],by have:=q1.weak h2w;rw [List.length_append,HRLN.out] at this ⊢;exact this⟩)
  clear hb7 q1 q2
  go_wp2_with (at_builtin;(refine wpList_append_eq rfl _ _ 44 44 rfl rfl rfl r1 ?_;clear r1))
  go_ret2
  exact HFIN.out
theorem ef_23f (P:PgAt B w v1 v2 v3 v4 p) (hB:B≤w.heap.size) (s1:SlAt 1 IntP B w u1 f.lo) (s2:SlAt 1 IntP B w u2 f.re) (s3:SlAt 1 IntP B w u3 f.ar) (s4:SlAt 3 InsP B w u4 f.co) (H:Hok p) (Rs:SlAt 1 IntP Bs w vs s) (hsB:Bs≤w.heap.size) (hsl:s.length≤300000000) {ks:List Int} {kn:Nat} (hs:s=r++ks) (hkl:ks.length=kn) (hkn:(takesP p f ⟨23,a,b⟩).n=kn) (hkd:∀ x∈s,-1≤x∧x≤2000000) {n m kp:Nat} {tt:List Int} {g0:Fd} (hN:namesB p f ⟨23,(n:Int),b⟩=true) (ha:a=(n:Int)) (htt:p.ta[n]?=some tt) (ht0:tt[0]?=some (m:Int)) (hg0:p.fu[m]?=some g0) (hpk:g0.pa=(kp:Int)) (hkp:kn=kp+1) (hple:kp≤g0.lo.length) (hre:g0.re.length≤4096) {y:Int} (hlast:s[s.length - 1]?=some y) (hy0:y=0) (hfi:(Must.fit (g0.lo.take kp)).fine ((s.take (s.length - 1)).drop (s.length - 1 - kp))=false):Calls Tryd.prog 24 #[.agg #[v1,v2,v3,v4],.agg #[.int .i64 f.pa,u1,u2,u3,u4],.agg #[.int .i64 23,.int .i64 a,.int .i64 b],vs] w (EfNo w.heap.size 8 w):=by
 obtain ⟨b4,x4,hu4⟩:=sl_form s4
 subst hu4
 obtain ⟨⟨a1,d1,rfl⟩,⟨a2,d2,rfl⟩,⟨a3,d3,rfl⟩,a4,d4,rfl⟩:=fm4 P
 obtain ⟨⟨b1,x1,rfl⟩,⟨b2,x2,rfl⟩,b3,x3,rfl⟩:=fm3 s1 s2 s3
 have R:=Rx.new (i:=⟨23,a,b⟩) (u4:=.slice b4 f.co.length x4) P hB s1 s2 s3
 dsimp only at R
 obtain ⟨W1,hW1⟩:=exR R
 rw [hW1] at R
 obtain ⟨c00,c01,c02,c03⟩:=R.c0
 obtain ⟨c10,c11,c12,c13⟩:=R.c1
 obtain ⟨c20,c21,c22⟩:=R.c2
 obtain ⟨l0,l1,l2⟩:=R.lt
 dsimp only at c20 c21 c22
 have HR:=hide R
 have c14:W1.cell? ⟨w.heap.size+1,4,none⟩=some (.slice b4 f.co.length x4):=cell_of R.e1 rfl
 clear P s1 s2 s3 s4
 have b1:=R.bel
 obtain ⟨sa,ds,hvs⟩:=sl_form Rs
 subst hvs
 have HND:=hide (needs_any (i:=⟨23,a,b⟩) (u4:=.slice b4 f.co.length x4) R.pg (Nat.le_trans R.hB b1.size) R.lo R.re R.ar H ⟨by show (1:Int)≤23;decide,by show (23:Int)≤29;decide⟩ (by rw [ha];exact hN))
 dsimp only at HND
 rw [hkn] at HND
 have HRS:=hide (show ∀ W:World,Below w.heap.size w W→SlAt 1 IntP Bs W (.slice sa s.length ds) s from fun W h=>ints_keep (Nat.le_refl _) (fun j hj=>h.block j (by omega)) Rs)
 have hcap:s.length≤ds:=by
  obtain ⟨_,_,hv,h,_⟩:=Rs
  cases hv
  exact h.2.1
 obtain ⟨L,hL⟩ : ∃ L,s.length=L:=⟨_,rfl⟩
 obtain ⟨rl,hrl⟩ : ∃ l,r.length=l:=⟨_,rfl⟩
 have hLr:L=rl+kn:=by rw [← hL,hs,← hrl,List.length_append,hkl]
 rw [hL] at HRS hcap hsl ⊢
 have HTK:=hide (show s.take rl=r from by rw [hs,← hrl];simp)
 have hwn:IntKind.i64.wrap ((L:Int) - (kn:Int))=(rl:Int):=by
  rw [show (L:Int) - (kn:Int)=(rl:Int) by omega]
  exact wrap_nat (by omega)
 have hrd:rl≤ds:=by omega
 have hrd2:(rl:Int)≤(ds:Int):=by omega
 have HHL:=hide hL
 have HRLN:=hide hrl
 have HHS:=hide hs
 have HLR:=hide hLr
 have hrl3:rl≤300000000:=by omega
 have hrlL0:rl≤L:=by omega
 clear Rs hs hL hrl hLr
 subst ha
 have HKP:=hide hkp
 clear hkp
 have hL1:0<L:=by have:=HLR.out;have:=HKP.out;omega
 go_enter Tryd.func24,Tryd.ntmps24
 go_wp2_with fail
 refine HND.out.mono ?_
 rintro e w2 ⟨rfl,hb2⟩
 have HR2:=hide (HR.out.up hb2)
 have hbw:=HR2.out.bel
 have hB2:Bs≤w2.heap.size:=Nat.le_trans hsB hbw.size
 have c3:Below w2.heap.size w2 (w2.alloc (.cells #[] 3)):=(Below.refl _ _).alloc (Nat.le_refl _) _
 have R3:SlAt 1 IntP Bs (w2.alloc (.cells #[] 3)) (.slice sa rl ds) r:=by
  have h:=HRS.out (w2.alloc (.cells #[] 3)) (bel_tr hbw c3)
  rw [← HHL.out] at h
  have h2:=sl_take h (n:=rl) (by rw [HHL.out];exact hrlL0)
  rw [HTK.out] at h2
  exact h2
 obtain ⟨a5,c5,W5,r5,q5,q6⟩:=(OwI.new (heap_new w2 (.cells #[] 3) rfl)).app R3 (by rw [HRLN.out];simp;omega) (Nat.le_of_lt (lt_of_block (heap_new w2 (.cells #[] 3) rfl)))
 rw [List.nil_append,HRLN.out] at r5 q5
 have HO5:=hide q5
 have HB5:=hide (show Below w2.heap.size w2 W5 from c3.trans q6)
 have HR5:=hide (HR2.out.up HB5.out)
 have HBW:=hide (show Below w.heap.size w W5 from bel_tr hbw HB5.out)
 have hC5:w2.heap.size≤W5.heap.size:=HB5.out.size
 have h2w:w.heap.size≤w2.heap.size:=hbw.size
 clear hb2 c3 R3 q5 q6 hbw
 have h0:¬ L=0:=by omega
 obtain ⟨q,hq⟩ : ∃ q,L - 1=q:=⟨_,rfl⟩
 obtain hy:s[q]?=some y:=by rw [← hq,← HHL.out];exact hlast
 have RS5:=HRS.out W5 HBW.out
 rw [← HHL.out] at RS5
 obtain ⟨g,o,c,hv,hg,hcy,_,_⟩:=il_at RS5 hy
 cases hv
 have hgw:=Nat.lt_of_lt_of_le hg (Nat.le_trans hB2 hC5)
 have HQ1L:=hide hq
 have hql:q<L:=by omega
 have dq:decide (q<L)=true:=by simpa using hql
 have dL:decide (0<L)=true:=by simp;omega
 have dL2:decide ((0:Int)<(L:Int))=true:=by simp;omega
 have hwq:IntKind.i64.wrap ((L:Int) - 1)=(q:Int):=by
  rw [show (L:Int) - 1=(q:Int) by omega]
  exact wrap_nat (by omega)
 clear hy hq RS5 h0
 obtain ⟨k00,k01,k02,k03⟩:=HR5.out.c0
 obtain ⟨k10,k11,k12,k13⟩:=HR5.out.c1
 obtain ⟨k20,k21,k22⟩:=HR5.out.c2
 have k14:W5.cell? ⟨w.heap.size+1,4,none⟩=some (.slice b4 f.co.length x4):=cell_of HR5.out.e1 rfl
 obtain ⟨l50,l51,l52⟩:=HR5.out.lt
 dsimp only at k20 k21 k22
 clear c00 c01 c02 c03 c10 c11 c12 c13 c14 c20 c21 c22
 have hBW5:B≤W5.heap.size:=Nat.le_trans HR5.out.hB HR5.out.bel.size
 obtain ⟨qg,og,cg,ng,z1,z2,z3,z4,hvg,hng,hnl,hqg,⟨y0,y1,y2,y3,y4⟩,t1,t2,t3,t4⟩:=fd_at HR5.out.pg.fu hg0
 cases hvg
 obtain ⟨e1,j1,hz1⟩:=sl_form t1
 obtain ⟨e2,j2,hz2⟩:=sl_form t2
 obtain ⟨e3,j3,hz3⟩:=sl_form t3
 obtain ⟨e4,j4,hz4⟩:=sl_form t4
 subst hz1 hz2 hz3 hz4
 rw [hpk] at y0
 have hqgw:qg<W5.heap.size:=Nat.lt_of_lt_of_le hqg hBW5
 have dng:decide (m<p.fu.length)=true:=by simpa using hnl
 have hcj:g0.lo.length≤j1:=by
  obtain ⟨_,_,hv,h,_⟩:=t1
  cases hv
  exact h.2.1
 have hkj:kp≤j1:=by omega
 have hkj2:(kp:Int)≤(j1:Int):=by omega
 obtain ⟨gt,ot,ct,nt,ut,hvt,hnt,hlt2,hgt,hct,hslt⟩:=lst_at HR5.out.pg.ta htt
 cases hvt
 obtain ⟨g3,o3,c3,hv3,hg3,hc3,_,_⟩:=il_at hslt ht0
 subst hv3
 rw [Nat.add_zero] at hc3
 have hgtw:gt<W5.heap.size:=Nat.lt_of_lt_of_le hgt hBW5
 have hg3w:g3<W5.heap.size:=Nat.lt_of_lt_of_le hg3 hBW5
 have ddt:decide (n<p.ta.length)=true:=by simpa using hlt2
 have htl0:0<tt.length:=get_lt ht0
 have dd0:decide (0<tt.length)=true:=by simpa using htl0
 clear hng hnt hslt
 have HS35:=hide (show ∀ W:World,Below W5.heap.size W5 W→(fun W:World=>W.cell? ⟨w.heap.size,1,none⟩=some (.slice (some ⟨qg,og,none⟩) p.fu.length d2)∧W.cell? ⟨w.heap.size,2,none⟩=some (.slice (some ⟨gt,ot,none⟩) p.ta.length d3)∧W.cell? ⟨w.heap.size+2,1,none⟩=some (.int .i64 (n:Int))∧W.cell? ⟨gt,ot+n,none⟩=some (.slice (some ⟨g3,o3,none⟩) tt.length c3)∧W.cell? ⟨g3,o3,none⟩=some (.int .i64 (m:Int))∧W.cell? ⟨qg,og+m*5,none⟩=some (.int .i64 (kp:Int))∧W.cell? ⟨qg,og+m*5+1,none⟩=some (.slice e1 g0.lo.length j1)∧W.cell? ⟨qg,og+m*5+2,none⟩=some (.slice e2 g0.re.length j2)∧W.cell? ⟨qg,og+m*5+3,none⟩=some (.slice e3 g0.ar.length j3)∧W.cell? ⟨qg,og+m*5+4,none⟩=some (.slice e4 g0.co.length j4)) W from fun W h=>⟨(h.cell (p:=⟨w.heap.size,1,none⟩) l50).trans k01,(h.cell (p:=⟨w.heap.size,2,none⟩) l50).trans k02,(h.cell (p:=⟨w.heap.size+2,1,none⟩) l52).trans k21,(h.cell (p:=⟨gt,ot+n,none⟩) hgtw).trans hct,(h.cell (p:=⟨g3,o3,none⟩) hg3w).trans hc3,(h.cell (p:=⟨qg,og+m*5,none⟩) hqgw).trans y0,(h.cell (p:=⟨qg,og+m*5+1,none⟩) hqgw).trans y1,(h.cell (p:=⟨qg,og+m*5+2,none⟩) hqgw).trans y2,(h.cell (p:=⟨qg,og+m*5+3,none⟩) hqgw).trans y3,(h.cell (p:=⟨qg,og+m*5+4,none⟩) hqgw).trans y4⟩)
 go_upto_region 35 with (at_builtin;(refine wpList_append_eq rfl _ _ 44 44 rfl rfl rfl r5 ?_;clear r5))
 go_cut [15] from 159 to 170 (fun v wc=>Hid (v=.pointer (some ⟨W5.heap.size,0,none⟩)∧Below W5.heap.size W5 wc∧wc.heap[W5.heap.size]?=some (.cells #[.int .i64 (kp:Int),.slice e1 g0.lo.length j1,.slice e2 g0.re.length j2,.slice e3 g0.ar.length j3,.slice e4 g0.co.length j4] 48 (0,0))))
 case first =>
  refine wp_region_held_drew (S:=(fun W:World=>W.cell? ⟨w.heap.size,1,none⟩=some (.slice (some ⟨qg,og,none⟩) p.fu.length d2)∧W.cell? ⟨w.heap.size,2,none⟩=some (.slice (some ⟨gt,ot,none⟩) p.ta.length d3)∧W.cell? ⟨w.heap.size+2,1,none⟩=some (.int .i64 (n:Int))∧W.cell? ⟨gt,ot+n,none⟩=some (.slice (some ⟨g3,o3,none⟩) tt.length c3)∧W.cell? ⟨g3,o3,none⟩=some (.int .i64 (m:Int))∧W.cell? ⟨qg,og+m*5,none⟩=some (.int .i64 (kp:Int))∧W.cell? ⟨qg,og+m*5+1,none⟩=some (.slice e1 g0.lo.length j1)∧W.cell? ⟨qg,og+m*5+2,none⟩=some (.slice e2 g0.re.length j2)∧W.cell? ⟨qg,og+m*5+3,none⟩=some (.slice e3 g0.ar.length j3)∧W.cell? ⟨qg,og+m*5+4,none⟩=some (.slice e4 g0.co.length j4))) (by kernel_rfl) (HS35.out _ (below_drew (Below.refl _ _))) (fun hHeld65=>?_)
  refine tk 0 oRi0 ?v66 ?h66 ?_
  case h66=>(intro W h;(try dsimp only at h);go_simp;try with_reducible rfl)
  try simp only [sp]
  refine tk 1 oRi1 ?v67 ?h67 ?_
  case h67=>(intro W h;(try dsimp only at h);go_simp;try with_reducible rfl)
  try simp only [sp]
  refine tk 2 oRi2 ?v68 ?h68 ?_
  case h68=>(intro W h;(try dsimp only at h);go_simp;try with_reducible rfl)
  try simp only [sp]
  refine tk 3 oRi3 ?v69 ?h69 ?_
  case h69=>(intro W h;(try dsimp only at h);go_simp;try with_reducible rfl)
  try simp only [sp]
  refine tk 4 oRi4 ?v70 ?h70 ?_
  case h70=>(intro W h;(try dsimp only at h);go_simp;try with_reducible rfl)
  try simp only [sp]
  refine tk 5 oRi5 ?v71 ?h71 ?_
  case h71=>(intro W h;(try dsimp only at h);go_simp;try with_reducible rfl)
  try simp only [sp]
  refine tk 6 oRi6 ?v72 ?h72 ?_
  case h72=>(intro W h;(try dsimp only at h);go_simp;try with_reducible rfl)
  try simp only [sp]
  refine tk 7 oRi7 ?v73 ?h73 ?_
  case h73=>(intro W h;(try dsimp only at h);go_simp;try with_reducible rfl)
  try simp only [sp]
  refine tk 8 oRi8 ?v74 ?h74 ?_
  case h74=>(intro W h;(try dsimp only at h);go_simp;try with_reducible rfl)
  try simp only [sp]
  refine tk 9 oRi9 ?v75 ?h75 ?_
  case h75=>(intro W h;(try dsimp only at h);go_simp;try with_reducible rfl)
  try simp only [sp]
  refine tk 10 oRi10 ?v76 ?h76 ?_
  case h76=>(intro W h;(try dsimp only at h);go_simp;try with_reducible rfl)
  try simp only [sp]
  refine tk 11 oRi11 ?v77 ?h77 ?_
  case h77=>(intro W h;(try dsimp only at h);go_simp;try with_reducible rfl)
  try simp only [sp]
  refine wpAnyH_ready (rs:=[12]) (by kernel_rfl) (by simp) ?_
  refine AllReadyH.cons (o:=oRi12) rfl (fun K hK=>?_) AllReadyH.nil
  go_simp
  go_wp2_with fail
  refine hK.out _ _ (HS35.out _ ((below_drew (Below.refl _ _)).alloc (Nat.le_refl _) _)) (fun hHeld78=>?_)
  clear hK K
  try simp only [sp]
  refine wpAnyH_ready (rs:=[13]) (by kernel_rfl) (by simp) ?_
  refine AllReadyH.cons (o:=oRi13) rfl (fun K hK=>?_) AllReadyH.nil
  go_simp
  go_wp2_with fail
  refine hK.out _ _ (HS35.out _ ((below_drew (Below.refl _ _)).alloc (Nat.le_refl _) _)) (fun hHeld79=>?_)
  clear hK K
  try simp only [sp]
  refine wpAnyH_done (by kernel_rfl) ?_ _
  go_wp2_with fail
  go_meet
  exact hide ⟨rfl,(below_drew (Below.refl _ _)).alloc (Nat.le_refl _) _,heap_new W5.drew _ rfl⟩
 case rest =>
  obtain ⟨hvp,hbc,hec⟩:=hcut.out
  subst hvp
  have HB6:=hide hbc
  have HE6:=hide hec
  have HS36:=hide (show ∀ W:World,Below wc.heap.size wc W→(fun W:World=>W.cell? ⟨W5.heap.size,0,none⟩=some (.int .i64 (kp:Int))∧W.cell? ⟨W5.heap.size,1,none⟩=some (.slice e1 g0.lo.length j1)) W from fun W h=>by
   have h1:=(h.block _ (lt_of_block hec)).trans hec
   exact ⟨cell_of h1 rfl,cell_of h1 rfl⟩)
  have ey:(y == 0)=true:=by simp [hy0]
  have hqd:q≤ds:=by omega
  have hqd2:(q:Int)≤(ds:Int):=by omega
  have HQL:=hide (show (s.take q).length=q from by rw [List.length_take,HHL.out];omega)
  have HAL:=hide (rall_any (w:=wc.drew) (s:=s.take q) (t:=g0.lo.take kp) (va:=.slice (some ⟨g,o,none⟩) q ds) (vb:=.slice e1 kp j1) (by have h:=HRS.out wc.drew (bel_tr HBW.out (below_drew HB6.out));rw [← HHL.out] at h;exact sl_take h (by rw [HHL.out];omega)) (show SlAt 1 IntP B wc.drew (.slice e1 kp j1) (g0.lo.take kp) from sl_take (ints_keep (Nat.le_refl _) (fun j hj=>(below_drew HB6.out).block j (by omega)) t1) hple) (Nat.le_trans hB2 (Nat.le_trans hC5 HB6.out.size)) (Nat.le_trans hBW5 HB6.out.size) (by rw [HQL.out,List.length_take];have:=HLR.out;have:=HKP.out;have:=HQ1L.out;omega) (by rw [HQL.out];omega) (fun x hx=>hkd x (List.mem_of_mem_take hx)))
  rw [HQL.out,List.length_take,Nat.min_eq_left hple] at HAL
  rw [show (Must.fit (g0.lo.take kp)).fine ((s.take q).drop (q - kp))=false from by rw [← hfi,HHL.out,HQ1L.out]] at HAL
  clear hcut hbc hec hg0 hpk hy0 hfi
  go_upto_region 36 with (fail)
  refine wp_region_held_drew (S:=(fun W:World=>W.cell? ⟨W5.heap.size,0,none⟩=some (.int .i64 (kp:Int))∧W.cell? ⟨W5.heap.size,1,none⟩=some (.slice e1 g0.lo.length j1))) (by kernel_rfl) (HS36.out _ (below_drew (Below.refl _ _))) (fun hHeld80=>?_)
  refine tk 0 oRi14 ?v81 ?h81 ?_
  case h81=>(intro W h;(try dsimp only at h);go_simp;try with_reducible rfl)
  try simp only [sp]
  refine tk 1 oRi15 ?v82 ?h82 ?_
  case h82=>(intro W h;(try dsimp only at h);go_simp;try with_reducible rfl)
  try simp only [sp]
  refine tk 2 oRi16 ?v83 ?h83 ?_
  case h83=>(intro W h;(try dsimp only at h);go_simp;try with_reducible rfl)
  try simp only [sp]
  refine tk 3 oRi17 ?v84 ?h84 ?_
  case h84=>(intro W h;(try dsimp only at h);go_simp;try with_reducible rfl)
  try simp only [sp]
  refine tk 4 oRi18 ?v85 ?h85 ?_
  case h85=>(intro W h;(try dsimp only at h);go_simp;try with_reducible rfl)
  try simp only [sp]
  refine tk 5 oRi19 ?v86 ?h86 ?_
  case h86=>(intro W h;(try dsimp only at h);go_simp;try with_reducible rfl)
  try simp only [sp]
  refine tk 6 oRi20 ?v87 ?h87 ?_
  case h87=>(intro W h;(try dsimp only at h);go_simp;try with_reducible rfl)
  try simp only [sp]
  refine tk 7 oRi21 ?v88 ?h88 ?_
  case h88=>(intro W h;(try dsimp only at h);go_simp;try with_reducible rfl)
  try simp only [sp]
  refine tk 8 oRi22 ?v89 ?h89 ?_
  case h89=>(intro W h;(try dsimp only at h);go_simp;try with_reducible rfl)
  try simp only [sp]
  refine tk 9 oRi23 ?v90 ?h90 ?_
  case h90=>(intro W h;(try dsimp only at h);go_simp;try with_reducible rfl)
  try simp only [sp]
  refine tk 10 oRi24 ?v91 ?h91 ?_
  case h91=>(intro W h;(try dsimp only at h);go_simp;try with_reducible rfl)
  try simp only [sp]
  refine tk 11 oRi25 ?v92 ?h92 ?_
  case h92=>(intro W h;(try dsimp only at h);go_simp;try with_reducible rfl)
  try simp only [sp]
  refine tk 12 oRi26 ?v93 ?h93 ?_
  case h93=>(intro W h;(try dsimp only at h);go_simp;try with_reducible rfl)
  try simp only [sp]
  refine wpAnyH_ready (rs:=[13]) (by kernel_rfl) (by simp) ?_
  refine AllReadyH.cons (o:=oRi27) rfl (fun K hK=>?_) AllReadyH.nil
  go_simp
  go_at_call 44
  refine HAL.out.mono ?_
  rintro e w7 ⟨rfl,hb7'⟩
  have hb7:Below wc.heap.size wc w7:=(below_drew (Below.refl _ _)).trans hb7'
  go_wp2_with fail
  refine hK.out _ _ (HS36.out _ hb7) (fun hHeld94=>?_)
  clear hK K
  try simp only [sp]
  refine tk 14 oRi28 ?v95 ?h95 ?_
  case h95=>(intro W h;(try dsimp only at h);go_simp;try with_reducible rfl)
  try simp only [sp]
  refine tk 15 oRi29 ?v96 ?h96 ?_
  case h96=>(intro W h;(try dsimp only at h);go_simp;try with_reducible rfl)
  try simp only [sp]
  refine wpAnyH_done (by kernel_rfl) ?_ _
  clear hb7'
  have HB7:=hide (bel_tr HB6.out hb7)
  obtain ⟨a8,c8,W8,r1,q1,q2⟩:=(HO5.out.up HB7.out).app (show SlAt 1 IntP B w7 (.slice e2 g0.re.length j2) g0.re from ints_keep (Nat.le_refl _) (fun j hj=>HB7.out.block j (by omega)) t2) (by rw [HRLN.out];omega) (Nat.le_trans hC5 HB7.out.size)
  rw [List.length_append,HRLN.out] at r1
  have HW8:=hide (show Below w.heap.size w W8 from (bel_tr HBW.out HB7.out).trans (q2.mono h2w))
  have k7:w7.cell? ⟨W5.heap.size,2,none⟩=some (.slice e2 g0.re.length j2):=(hb7.cell (p:=⟨W5.heap.size,2,none⟩) (lt_of_block HE6.out)).trans (cell_of HE6.out rfl)
  have HFIN:=hide (show EfNo w.heap.size 8 w (.returned (.tuple #[.slice none 0 0,.int .i64 8])) W8 from ⟨HW8.out,rfl⟩)
  clear hb7 q1 q2
  go_wp2_with (at_builtin;(refine wpList_append_eq rfl _ _ 44 44 rfl rfl rfl r1 ?_;clear r1))
  go_ret2
  exact HFIN.out
end
end Go.Proofs.YtfkejdocklcpoaaDoor
