/- The document's Words, and VerifyStacks: the law. -/
import Derived.Test.YtfkejdocklcpoaaDoorVfRcJs
import Derived.Test.YtfkejdocklcpoaaDoorVfStJs
import Derived.Test.YtfkejdocklcpoaaDoorVfAwJs
import Derived.Test.YtfkejdocklcpoaaDoorVfSzJs
import Derived.Test.YtfkejdocklcpoaaDoorVfTk
namespace Go.Proofs.YtfkejdocklcpoaaDoor
set_option maxRecDepth 100000
set_option maxHeartbeats 4000000
open Go.RowKit
abbrev oRs0 : Oper := { dst := some 17, op := .fieldAddr 27 (.tmp 2) 1, type := 0, pos := "ref.go:329", after := #[], guard := none }
abbrev oRs1 : Oper := { dst := some 18, op := .load 23 (.tmp 17), type := 23, pos := "ref.go:329", after := #[{ on := 0, ground := .data }], guard := none }
abbrev oRs2 : Oper := { dst := some 19, op := .move (.tmp 1), type := 3, pos := "ref.go:329", after := #[], guard := none }
abbrev oRs3 : Oper := { dst := some 20, op := .indexAddr 23 (.tmp 18) (.tmp 19), type := 0, pos := "ref.go:329", after := #[{ on := 1, ground := .data }, { on := 2, ground := .data }], guard := none }
abbrev oRs4 : Oper := { dst := some 21, op := .fieldAddr 48 (.tmp 20) 1, type := 0, pos := "ref.go:329", after := #[{ on := 3, ground := .data }], guard := none }
abbrev oRs5 : Oper := { dst := some 22, op := .load 44 (.tmp 21), type := 44, pos := "ref.go:329", after := #[{ on := 4, ground := .data }], guard := none }
abbrev oRs6 : Oper := { dst := some 23, op := .call { callee := .builtin .len, args := #[.tmp 22], argTypes := #[44] }, type := 3, pos := "ref.go:329", after := #[{ on := 5, ground := .data }], guard := none }
abbrev oRs7 : Oper := { dst := some 24, op := .fieldAddr 39 (.tmp 5) 2, type := 0, pos := "ref.go:329", after := #[], guard := none }
abbrev oRs8 : Oper := { dst := some 25, op := .load 3 (.tmp 24), type := 3, pos := "ref.go:329", after := #[{ on := 7, ground := .data }], guard := none }
abbrev oRs9 : Oper := { dst := some 26, op := .binOp .add 3 (.tmp 23) (.tmp 25) 3, type := 3, pos := "ref.go:329", after := #[{ on := 6, ground := .data }, { on := 8, ground := .data }], guard := none }
abbrev oRs10 : Oper := { dst := some 8, op := .assign (.tmp 26), type := 3, pos := "ref.go:329", after := #[{ on := 9, ground := .data }, { on := 0, ground := .phase }, { on := 1, ground := .phase }, { on := 2, ground := .phase }, { on := 3, ground := .phase }, { on := 4, ground := .phase }, { on := 5, ground := .phase }, { on := 6, ground := .phase }, { on := 7, ground := .phase }, { on := 8, ground := .phase }, { on := 9, ground := .phase }], guard := none }
abbrev oRs11 : Oper := { dst := some 38, op := .move (.tmp 8), type := 3, pos := "ref.go:331", after := #[], guard := none }
abbrev oRs12 : Oper := { dst := some 39, op := .fieldAddr 27 (.tmp 2) 0, type := 0, pos := "ref.go:331", after := #[], guard := none }
abbrev oRs13 : Oper := { dst := some 40, op := .load 22 (.tmp 39), type := 22, pos := "ref.go:331", after := #[{ on := 1, ground := .data }], guard := none }
abbrev oRs14 : Oper := { dst := some 41, op := .fieldAddr 27 (.tmp 2) 1, type := 0, pos := "ref.go:331", after := #[], guard := none }
abbrev oRs15 : Oper := { dst := some 42, op := .load 23 (.tmp 41), type := 23, pos := "ref.go:331", after := #[{ on := 3, ground := .data }], guard := none }
abbrev oRs16 : Oper := { dst := some 43, op := .move (.tmp 1), type := 3, pos := "ref.go:331", after := #[], guard := none }
abbrev oRs17 : Oper := { dst := some 44, op := .indexAddr 23 (.tmp 42) (.tmp 43), type := 0, pos := "ref.go:331", after := #[{ on := 4, ground := .data }, { on := 5, ground := .data }], guard := none }
abbrev oRs18 : Oper := { dst := some 45, op := .fieldAddr 48 (.tmp 44) 3, type := 0, pos := "ref.go:331", after := #[{ on := 6, ground := .data }], guard := none }
abbrev oRs19 : Oper := { dst := some 46, op := .load 44 (.tmp 45), type := 44, pos := "ref.go:331", after := #[{ on := 7, ground := .data }], guard := none }
abbrev oRs20 : Oper := { dst := some 47, op := .move (.tmp 9), type := 3, pos := "ref.go:331", after := #[], guard := none }
abbrev oRs21 : Oper := { dst := some 48, op := .indexAddr 44 (.tmp 46) (.tmp 47), type := 0, pos := "ref.go:331", after := #[{ on := 8, ground := .data }, { on := 9, ground := .data }], guard := none }
abbrev oRs22 : Oper := { dst := some 49, op := .load 3 (.tmp 48), type := 3, pos := "ref.go:331", after := #[{ on := 10, ground := .data }], guard := none }
abbrev oRs23 : Oper := { dst := some 50, op := .indexAddr 22 (.tmp 40) (.tmp 49), type := 0, pos := "ref.go:331", after := #[{ on := 2, ground := .data }, { on := 11, ground := .data }], guard := none }
abbrev oRs24 : Oper := { dst := some 51, op := .fieldAddr 53 (.tmp 50) 0, type := 0, pos := "ref.go:331", after := #[{ on := 12, ground := .data }], guard := none }
abbrev oRs25 : Oper := { dst := some 52, op := .load 44 (.tmp 51), type := 44, pos := "ref.go:331", after := #[{ on := 13, ground := .data }], guard := none }
abbrev oRs26 : Oper := { dst := some 53, op := .call { callee := .builtin .len, args := #[.tmp 52], argTypes := #[44] }, type := 3, pos := "ref.go:331", after := #[{ on := 14, ground := .data }], guard := none }
abbrev oRs27 : Oper := { dst := some 54, op := .binOp .add 3 (.tmp 38) (.tmp 53) 3, type := 3, pos := "ref.go:331", after := #[{ on := 0, ground := .data }, { on := 15, ground := .data }], guard := none }
abbrev oRs28 : Oper := { dst := some 8, op := .assign (.tmp 54), type := 3, pos := "ref.go:331", after := #[{ on := 16, ground := .data }, { on := 0, ground := .phase }, { on := 1, ground := .phase }, { on := 2, ground := .phase }, { on := 3, ground := .phase }, { on := 4, ground := .phase }, { on := 5, ground := .phase }, { on := 6, ground := .phase }, { on := 7, ground := .phase }, { on := 8, ground := .phase }, { on := 9, ground := .phase }, { on := 10, ground := .phase }, { on := 11, ground := .phase }, { on := 12, ground := .phase }, { on := 13, ground := .phase }, { on := 14, ground := .phase }, { on := 15, ground := .phase }, { on := 16, ground := .phase }], guard := none }
abbrev oRs29 : Oper := { dst := some 109, op := .move (.tmp 6), type := 33, pos := "law.go:45", after := #[], guard := none }
abbrev oRs30 : Oper := { dst := some 110, op := .move (.tmp 16), type := 3, pos := "law.go:45", after := #[], guard := none }
abbrev oRs31 : Oper := { dst := some 111, op := .indexAddr 33 (.tmp 109) (.tmp 110), type := 0, pos := "law.go:45", after := #[{ on := 0, ground := .data }, { on := 1, ground := .data }], guard := none }
abbrev oRs32 : Oper := { dst := some 112, op := .load 4 (.tmp 111), type := 4, pos := "law.go:45", after := #[{ on := 2, ground := .data }], guard := none }
abbrev oRs33 : Oper := { dst := some 113, op := .fieldAddr 39 (.tmp 13) 0, type := 0, pos := "law.go:45", after := #[], guard := none }
abbrev oRs34 : Oper := { dst := some 114, op := .load 33 (.tmp 113), type := 33, pos := "law.go:45", after := #[{ on := 4, ground := .data }], guard := none }
abbrev oRs35 : Oper := { dst := some 115, op := .move (.tmp 16), type := 3, pos := "law.go:45", after := #[], guard := none }
abbrev oRs36 : Oper := { dst := some 116, op := .indexAddr 33 (.tmp 114) (.tmp 115), type := 0, pos := "law.go:45", after := #[{ on := 5, ground := .data }, { on := 6, ground := .data }], guard := none }
abbrev oRs37 : Oper := { dst := some 117, op := .load 4 (.tmp 116), type := 4, pos := "law.go:45", after := #[{ on := 7, ground := .data }], guard := none }
abbrev oRs38 : Oper := { dst := some 118, op := .binOp .neq 4 (.tmp 112) (.tmp 117) 4, type := 4, pos := "law.go:45", after := #[{ on := 3, ground := .data }, { on := 8, ground := .data }], guard := none }
abbrev oRs39 : Oper := { dst := some 119, op := .move (.tmp 118), type := 4, pos := "law.go:45", after := #[{ on := 9, ground := .data }], guard := none }
abbrev oRs40 : Oper := { dst := some 120, op := .move (.tmp 5), type := 24, pos := "law.go:45", after := #[{ on := 10, ground := .guard }], guard := some (10, false) }
abbrev oRs41 : Oper := { dst := some 121, op := .move (.tmp 16), type := 3, pos := "law.go:45", after := #[{ on := 10, ground := .guard }], guard := some (10, false) }
abbrev oRs42 : Oper := { dst := some 122, op := .indexAddr 24 (.tmp 120) (.tmp 121), type := 0, pos := "law.go:45", after := #[{ on := 11, ground := .data }, { on := 12, ground := .data }, { on := 10, ground := .guard }], guard := some (10, false) }
abbrev oRs43 : Oper := { dst := some 123, op := .load 44 (.tmp 122), type := 44, pos := "law.go:45", after := #[{ on := 13, ground := .data }, { on := 10, ground := .guard }], guard := some (10, false) }
abbrev oRs44 : Oper := { dst := some 124, op := .fieldAddr 39 (.tmp 13) 1, type := 0, pos := "law.go:45", after := #[{ on := 10, ground := .guard }], guard := some (10, false) }
abbrev oRs45 : Oper := { dst := some 125, op := .load 24 (.tmp 124), type := 24, pos := "law.go:45", after := #[{ on := 15, ground := .data }, { on := 10, ground := .guard }], guard := some (10, false) }
abbrev oRs46 : Oper := { dst := some 126, op := .move (.tmp 16), type := 3, pos := "law.go:45", after := #[{ on := 10, ground := .guard }], guard := some (10, false) }
abbrev oRs47 : Oper := { dst := some 127, op := .indexAddr 24 (.tmp 125) (.tmp 126), type := 0, pos := "law.go:45", after := #[{ on := 16, ground := .data }, { on := 17, ground := .data }, { on := 10, ground := .guard }], guard := some (10, false) }
abbrev oRs48 : Oper := { dst := some 128, op := .load 44 (.tmp 127), type := 44, pos := "law.go:45", after := #[{ on := 18, ground := .data }, { on := 10, ground := .guard }], guard := some (10, false) }
abbrev oRs49 : Oper := { dst := some 129, op := .call { callee := .value (.func 15), args := #[.tmp 123, .tmp 128], argTypes := #[44, 44] }, type := 4, pos := "law.go:45", after := #[{ on := 14, ground := .data }, { on := 19, ground := .data }, { on := 10, ground := .chain }, { on := 10, ground := .guard }], guard := some (10, false) }
abbrev oRs50 : Oper := { dst := some 130, op := .unOp .not 4 (.tmp 129), type := 4, pos := "law.go:45", after := #[{ on := 20, ground := .data }, { on := 10, ground := .guard }], guard := some (10, false) }
abbrev oRs51 : Oper := { dst := some 131, op := .pick (.tmp 119) (.const (.bool true)) (.tmp 130), type := 4, pos := "law.go:45", after := #[{ on := 10, ground := .data }, { on := 21, ground := .data }], guard := none }
section
variable {B:Nat} {w:World} {p:Pg}
theorem rwords_any {v1 v2 v3 v4:Value} {n:Nat} {f:Fd} {F:Fl} (P:PgAt B w v1 v2 v3 v4 p) (hB:B≤w.heap.size) (H:Hok p) (hf:p.fu[n]?=some f) (hF:followP p f=.ok F):Calls Tryd.prog 14 #[.agg #[v1,v2,v3,v4],.int .i64 (n:Int)] w fun e w'=>e=.returned (.int .i64 (szP p f F:Int))∧Below w.heap.size w w':=by
 obtain ⟨a1,d1,hv1⟩:=sl_form P.ty
 obtain ⟨a2,d2,hv2⟩:=sl_form P.fu
 obtain ⟨a3,d3,hv3⟩:=sl_form P.ta
 obtain ⟨a4,d4,hv4⟩:=sl_form P.st
 subst hv1 hv2 hv3 hv4
 obtain ⟨W1,hW1⟩ : ∃ W1,w.alloc (.cells #[.slice a1 p.ty.length d1,.slice a2 p.fu.length d2,.slice a3 p.ta.length d3,.slice a4 p.st.length d4] 27)=W1:=⟨_,rfl⟩
 have b1:Below w.heap.size w W1:=by rw [← hW1];exact (Below.refl _ _).alloc (Nat.le_refl _) _
 have e1:W1.heap[w.heap.size]?=some (.cells #[.slice a1 p.ty.length d1,.slice a2 p.fu.length d2,.slice a3 p.ta.length d3,.slice a4 p.st.length d4] 27 (0,0)):=by rw [← hW1];exact heap_new _ _ rfl
 have HBX:=hide (show ∀ W:World,Below W1.heap.size W1 W→(W.cell? ⟨w.heap.size,0,none⟩=some (.slice a1 p.ty.length d1)∧W.cell? ⟨w.heap.size,1,none⟩=some (.slice a2 p.fu.length d2)∧W.cell? ⟨w.heap.size,2,none⟩=some (.slice a3 p.ta.length d3)∧W.cell? ⟨w.heap.size,3,none⟩=some (.slice a4 p.st.length d4))∧w.heap.size<W.heap.size from fun W h=>by
  have h1:=(h.block _ (lt_of_block e1)).trans e1
  exact ⟨⟨cell_of h1 rfl,cell_of h1 rfl,cell_of h1 rfl,cell_of h1 rfl⟩,lt_of_block h1⟩)
 have HB1:=hide (show ∀ W:World,Below W1.heap.size W1 W→Below w.heap.size w W from fun W h=>b1.trans (h.mono b1.size))
 have HKP:=hide (show ∀ W:World,Below W1.heap.size W1 W→PgAt B W (.slice a1 p.ty.length d1) (.slice a2 p.fu.length d2) (.slice a3 p.ta.length d3) (.slice a4 p.st.length d4) p∧B≤W.heap.size from fun W h=>⟨P.keep (Nat.le_refl _) fun i hi=>((HB1.out W h).block i (Nat.lt_of_lt_of_le hi hB)),Nat.le_trans hB (HB1.out W h).size⟩)
 obtain ⟨⟨k0,k1,k2,k3⟩,k4⟩:=HBX.out W1 (Below.refl _ _)
 have HLK:=hide (rlook_any (HKP.out W1 (Below.refl _ _)).1 (HKP.out W1 (Below.refl _ _)).2 H hf)
 have hfo:=H.fu f (List.mem_of_getElem? hf)
 have I:=follow_inv H hfo hF
 have HAW':=hide (arW_le (p:=p) fun l hl=>(H.ty l hl).2.1)
 have HAR:=hide hfo.ar
 have HMO:=hide (show f.lo.length≤4096∧F.mo≤300000000∧f.ar.length≤4096 from ⟨hfo.nl,by have:=I.mo;have:=hfo.nc;omega,hfo.na⟩)
 have HSZ:=hide (show szP p f F=f.lo.length+F.mo+arW p f.ar from rfl)
 have HNF:=hide H.nf
 obtain ⟨tot,htot⟩ : ∃ t,szP p f F=t:=⟨_,rfl⟩
 rw [htot] at HSZ ⊢
 clear htot
 obtain ⟨g0,o0,d0,n0,u1,u2,u3,u4,hv2,hn0,hnl,hg0,⟨_,y1,_,y3,_⟩,s1,_,s3,_⟩:=fd_at P.fu hf
 cases hv2
 obtain ⟨b1',x1,hu1⟩:=sl_form s1
 obtain ⟨b3',x3,hu3⟩:=sl_form s3
 subst hu1 hu3
 have HCE:=hide (show ∀ W:World,Below W1.heap.size W1 W→(W.cell? ⟨g0,o0+n*5+1,none⟩=some (.slice b1' f.lo.length x1)∧W.cell? ⟨g0,o0+n*5+3,none⟩=some (.slice b3' f.ar.length x3))∧SlAt 1 IntP B W (.slice b3' f.ar.length x3) f.ar∧g0<W.heap.size from fun W h=>by
  have hk:∀ j,j<B→W.heap[j]?=w.heap[j]?:=fun j hj=>(HB1.out W h).block j (Nat.lt_of_lt_of_le hj hB)
  exact ⟨⟨(World.cell?_of_block (a:=⟨g0,o0+n*5+1,none⟩) (hk g0 hg0)).trans y1,(World.cell?_of_block (a:=⟨g0,o0+n*5+3,none⟩) (hk g0 hg0)).trans y3⟩,ints_keep (Nat.le_refl _) hk s3,by have:=(HB1.out W h).size;omega⟩)
 have z2:decide (n<p.fu.length)=true:=by simpa using hnl
 have hn4:(n:Int)≤4096:=by have:=HNF.out;omega
 have HFF:=hide hF
 clear P hB b1 e1 y1 y3 s1 s3 hf H hfo I hF hg0
 go_enter Tryd.func14,Tryd.ntmps14
 go_wp2_with fail
 refine HLK.out.mono ?_
 rintro e w4 ⟨hb4,(⟨x,c,cb,sb,L,m,hfo,_⟩ | ⟨F',cb,sb,hfo,rfl,_⟩)⟩
 · exact absurd (HFF.out.symm.trans hfo) (by simp)
 have hFE:F' = F:=by have h:=HFF.out.symm.trans hfo;cases h;rfl
 subst hFE
 have HB4:=hide hb4
 obtain ⟨W5,hW5⟩ : ∃ W5,w4.alloc (.cells #[.slice (some ⟨cb,0,none⟩) f.co.length f.co.length,.slice (some ⟨sb,0,none⟩) f.co.length f.co.length,.int .i64 (F'.mo:Int)] 39)=W5:=⟨_,rfl⟩
 have b5:Below W1.heap.size W1 W5:=by rw [← hW5];exact hb4.alloc hb4.size _
 have e5:W5.heap[w4.heap.size]?=some (.cells #[.slice (some ⟨cb,0,none⟩) f.co.length f.co.length,.slice (some ⟨sb,0,none⟩) f.co.length f.co.length,.int .i64 (F'.mo:Int)] 39 (0,0)):=by rw [← hW5];exact heap_new _ _ rfl
 have c5:W5.cell? ⟨w4.heap.size,2,none⟩=some (.int .i64 (F'.mo:Int)):=cell_of e5 rfl
 have l5:w4.heap.size<W5.heap.size:=lt_of_block e5
 have HB5:=hide b5
 clear hb4 hfo HLK k0 k1 k2 k3 k4 hW1 b5 e5
 obtain ⟨⟨k0,k1,k2,k3⟩,k4⟩:=HBX.out W5 HB5.out
 obtain ⟨⟨k5,k6⟩,_,k7⟩:=HCE.out W5 HB5.out
 obtain ⟨mb1,mb2,mb3⟩:=HMO.out
 obtain ⟨ll,hll⟩ : ∃ l,f.lo.length=l:=⟨_,rfl⟩
 rw [hll] at HCE HSZ k5 mb1
 obtain ⟨mo,hmo⟩ : ∃ l,F'.mo=l:=⟨_,rfl⟩
 rw [hmo] at HSZ mb2 c5 hW5 ⊢
 obtain ⟨al,hal⟩ : ∃ l,f.ar.length=l:=⟨_,rfl⟩
 rw [hal] at HCE k6 mb3
 have HAL3:=hide hal
 clear hll hmo hal HMO
 have hw1:IntKind.i64.wrap ((ll:Int)+(mo:Int))=(ll:Int)+(mo:Int):=wrapI (by omega) (by omega)
 go_upto_region 2 with (fail)
 clear hW5
 obtain ⟨bs,hbs⟩ : ∃ b,ll+mo=b:=⟨_,rfl⟩
 have hbs2:(ll:Int)+(mo:Int)=(bs:Int):=by omega
 have HBS:=hide hbs
 have HSZ2:=hide (show tot=bs+arW p f.ar from by rw [← hbs];exact HSZ.out)
 have hbsl:bs≤310000000:=by omega
 clear hbs HSZ
 go_cut [8] from 17 to 26 (fun v wc=>Hid (v=.int .i64 (bs:Int)∧Below W5.heap.size W5 wc))
 case first =>
  have HBS2:=hide hbs2
  clear hbs2
  refine wp_region_held_drew (S:=(fun W:World=>W=W5.drew∧W.cell? ⟨w.heap.size,1,none⟩=some (.slice (some ⟨g0,o0,none⟩) p.fu.length d2)∧W.cell? ⟨g0,o0+n*5+1,none⟩=some (.slice b1' ll x1)∧W.cell? ⟨w4.heap.size,2,none⟩=some (.int .i64 (mo:Int)))) (by kernel_rfl) ⟨rfl,k1,k5,c5⟩ (fun hHeld1=>?_)
  refine tk 0 oRs0 ?v2 ?h2 ?_
  case h2=>(intro W h;(try dsimp only at h);go_simp;try with_reducible rfl)
  try simp only [sp]
  refine tk 1 oRs1 ?v3 ?h3 ?_
  case h3=>(intro W h;(try dsimp only at h);go_simp;try with_reducible rfl)
  try simp only [sp]
  refine tk 2 oRs2 ?v4 ?h4 ?_
  case h4=>(intro W h;(try dsimp only at h);go_simp;try with_reducible rfl)
  try simp only [sp]
  refine tk 3 oRs3 ?v5 ?h5 ?_
  case h5=>(intro W h;(try dsimp only at h);go_simp;try with_reducible rfl)
  try simp only [sp]
  refine tk 4 oRs4 ?v6 ?h6 ?_
  case h6=>(intro W h;(try dsimp only at h);go_simp;try with_reducible rfl)
  try simp only [sp]
  refine tk 5 oRs5 ?v7 ?h7 ?_
  case h7=>(intro W h;(try dsimp only at h);go_simp;try with_reducible rfl)
  try simp only [sp]
  refine tk 6 oRs6 ?v8 ?h8 ?_
  case h8=>(intro W h;(try dsimp only at h);go_simp;try with_reducible rfl)
  try simp only [sp]
  refine tk 7 oRs7 ?v9 ?h9 ?_
  case h9=>(intro W h;(try dsimp only at h);go_simp;try with_reducible rfl)
  try simp only [sp]
  refine tk 8 oRs8 ?v10 ?h10 ?_
  case h10=>(intro W h;(try dsimp only at h);go_simp;try with_reducible rfl)
  try simp only [sp]
  refine tk 9 oRs9 ?v11 ?h11 ?_
  case h11=>(intro W h;(try dsimp only at h);go_simp;try with_reducible rfl)
  try simp only [sp]
  refine tk 10 oRs10 ?v12 ?h12 ?_
  case h12=>(intro W h;(try dsimp only at h);go_simp;try with_reducible rfl)
  try simp only [sp]
  refine wpAnyH_done (by kernel_rfl) ?_ _
  go_wp2_with fail
  go_meet
  exact hide ⟨by rw [← HBS2.out],below_drew (Below.refl _ _)⟩
 case rest =>
  obtain ⟨w6,hw6⟩ : ∃ W,W=wc:=⟨_,rfl⟩
  subst hw6
  obtain ⟨hv8,hb6⟩:=hcut.out
  subst hv8
  have HB6:=hide (bel_tr HB5.out hb6)
  clear hb6 hcut k0 k1 k2 k3 k4 k5 k6 k7 c5 l5 hbs2 hw1
  go_wp2
  go_loopw [8,9] (fun a c wr=>SzR p f.ar bs w6 a c wr) (fun _ c _=>al - (intOf c).toNat)
  case atStart=>exact ⟨0,rfl,Nat.zero_le _,by simp [arW],Below.refl _ _⟩
  case round =>
   obtain ⟨j,rfl,hj,rfl,hb⟩:=hrel
   have HBR0:=hide hb
   have HBR:=hide (bel_tr HB6.out hb)
   rw [HAL3.out] at hj
   clear hb
   obtain ⟨⟨k0,k1,k2,k3⟩,hlw⟩:=HBX.out wr HBR.out
   obtain ⟨⟨k4,k5⟩,R3,hgw⟩:=HCE.out wr HBR.out
   by_cases hlt:j<al
   · obtain ⟨t,ht⟩ : ∃ t,f.ar[j]?=some t:=⟨f.ar[j]'(by rw [HAL3.out];exact hlt),by simp⟩
     rw [← HAL3.out] at R3
     obtain ⟨_,_,hv3,_,hel⟩:=R3
     cases hv3
     obtain ⟨ga,oa,hb3,hga,hca,_⟩:=ints_at hel ht
     subst hb3
     obtain ⟨tq,rfl,htk⟩:=in_nat (HAR.out t (List.mem_of_getElem? ht))
     obtain ⟨l,hl⟩ : ∃ l,p.ty[tq]?=some l:=⟨p.ty[tq],by simp⟩
     obtain ⟨PW,hBr⟩:=HKP.out wr HBR.out
     obtain ⟨g2,o2,c2,nn,u,hv,hnn,hlt2,hg2,hc2,hsl⟩:=lst_at PW.ty hl
     cases hv
     obtain ⟨ua,uc,rfl⟩:=sl_form hsl
     have hgaw:ga<wr.heap.size:=Nat.lt_of_lt_of_le hga hBr
     have hg2w:g2<wr.heap.size:=Nat.lt_of_lt_of_le hg2 hBr
     have dd1:decide (j<al)=true:=by simpa using hlt
     have dd2:decide (tq<p.ty.length)=true:=by simpa using htk
     have HNX:=hide (show bs+arW p (f.ar.take (j+1))=bs+arW p (f.ar.take j)+l.length from by rw [arW_next ht,Int.toNat_natCast,hl,Option.getD_some];omega)
     have hle:bs+arW p (f.ar.take (j+1))≤400000000:=by
      have h1:=HAW'.out (f.ar.take (j+1))
      have h2:(f.ar.take (j+1)).length≤4096:=by rw [List.length_take,HAL3.out];omega
      omega
     rw [HNX.out] at hle
     clear PW hnn hsl hl ht htk hel
     generalize l.length=len at *
     obtain ⟨base,hba⟩ : ∃ b,bs+arW p (f.ar.take j)=b:=⟨_,rfl⟩
     rw [hba] at hle HNX ⊢
     clear hba
     have hwb:IntKind.i64.wrap ((base:Int)+(len:Int))=(base:Int)+(len:Int):=by
      rw [show (base:Int)+(len:Int)=((base+len:Nat):Int) by omega]
      exact wrap_nat (by omega)
     have dd3:(j:Int)≤4096:=by omega
     have HAL4:=HAL3.out
     go_upto_region 6 with (fail)
     refine wp_region_held_drew (S:=(fun W:World=>W=wr.drew∧W.cell? ⟨w.heap.size,0,none⟩=some (.slice (some ⟨g2,o2,none⟩) p.ty.length d1)∧W.cell? ⟨w.heap.size,1,none⟩=some (.slice (some ⟨g0,o0,none⟩) p.fu.length d2)∧W.cell? ⟨g0,o0+n*5+3,none⟩=some (.slice (some ⟨ga,oa,none⟩) al x3)∧W.cell? ⟨ga,oa+j,none⟩=some (.int .i64 (tq:Int))∧W.cell? ⟨g2,o2+tq,none⟩=some (.slice ua len uc))) (by kernel_rfl) ⟨rfl,k0,k1,k5,hca,hc2⟩ (fun hHeld13=>?_)
     refine tk 0 oRs11 ?v14 ?h14 ?_
     case h14=>(intro W h;(try dsimp only at h);go_simp;try with_reducible rfl)
     try simp only [sp]
     refine tk 1 oRs12 ?v15 ?h15 ?_
     case h15=>(intro W h;(try dsimp only at h);go_simp;try with_reducible rfl)
     try simp only [sp]
     refine tk 2 oRs13 ?v16 ?h16 ?_
     case h16=>(intro W h;(try dsimp only at h);go_simp;try with_reducible rfl)
     try simp only [sp]
     refine tk 3 oRs14 ?v17 ?h17 ?_
     case h17=>(intro W h;(try dsimp only at h);go_simp;try with_reducible rfl)
     try simp only [sp]
     refine tk 4 oRs15 ?v18 ?h18 ?_
     case h18=>(intro W h;(try dsimp only at h);go_simp;try with_reducible rfl)
     try simp only [sp]
     refine tk 5 oRs16 ?v19 ?h19 ?_
     case h19=>(intro W h;(try dsimp only at h);go_simp;try with_reducible rfl)
     try simp only [sp]
     refine tk 6 oRs17 ?v20 ?h20 ?_
     case h20=>(intro W h;(try dsimp only at h);go_simp;try with_reducible rfl)
     try simp only [sp]
     refine tk 7 oRs18 ?v21 ?h21 ?_
     case h21=>(intro W h;(try dsimp only at h);go_simp;try with_reducible rfl)
     try simp only [sp]
     refine tk 8 oRs19 ?v22 ?h22 ?_
     case h22=>(intro W h;(try dsimp only at h);go_simp;try with_reducible rfl)
     try simp only [sp]
     refine tk 9 oRs20 ?v23 ?h23 ?_
     case h23=>(intro W h;(try dsimp only at h);go_simp;try with_reducible rfl)
     try simp only [sp]
     refine tk 10 oRs21 ?v24 ?h24 ?_
     case h24=>(intro W h;(try dsimp only at h);go_simp;try with_reducible rfl)
     try simp only [sp]
     refine tk 11 oRs22 ?v25 ?h25 ?_
     case h25=>(intro W h;(try dsimp only at h);go_simp;try with_reducible rfl)
     try simp only [sp]
     refine tk 12 oRs23 ?v26 ?h26 ?_
     case h26=>(intro W h;(try dsimp only at h);go_simp;try with_reducible rfl)
     try simp only [sp]
     refine tk 13 oRs24 ?v27 ?h27 ?_
     case h27=>(intro W h;(try dsimp only at h);go_simp;try with_reducible rfl)
     try simp only [sp]
     refine tk 14 oRs25 ?v28 ?h28 ?_
     case h28=>(intro W h;(try dsimp only at h);go_simp;try with_reducible rfl)
     try simp only [sp]
     refine tk 15 oRs26 ?v29 ?h29 ?_
     case h29=>(intro W h;(try dsimp only at h);go_simp;try with_reducible rfl)
     try simp only [sp]
     refine tk 16 oRs27 ?v30 ?h30 ?_
     case h30=>(intro W h;(try dsimp only at h);go_simp;try with_reducible rfl)
     try simp only [sp]
     refine tk 17 oRs28 ?v31 ?h31 ?_
     case h31=>(intro W h;(try dsimp only at h);go_simp;try with_reducible rfl)
     try simp only [sp]
     refine wpAnyH_done (by kernel_rfl) ?_ _
     go_wp2
     go_roundw
     case rel=>exact ⟨j+1,by first | exact num_next hlt (by omega) | go_num,by rw [HAL3.out];exact hlt,by rw [HNX.out];first | rfl | (congr 1;omega),below_drew HBR0.out⟩
     case measure=>first | exact meas_int hlt (by omega) | (rw [intOf_int,intOf_int];omega)
   · obtain rfl:al=j:=by omega
     have dd1:decide (al<al)=false:=by simp
     have HTT:=hide (show bs+arW p (f.ar.take al)=tot from by rw [HSZ2.out,← HAL3.out,List.take_length])
     rw [HTT.out]
     clear R3
     go_wp2
     go_ret
     exact ⟨rfl,HB1.out _ HBR.out⟩
def SqR (L:Nat) (W:World) (a:Value) (wr:World):Prop:=∃ j:Nat,a=.int .i64 j∧j≤L∧Below W.heap.size W wr
theorem szO_bad {m:Int} {e:Ending} {W:World} (h:SzO p m w e W) (hc:(checkP p).2.2≠0):e=.returned (.tuple #[.int .i64 0,.int .i64 (checkP p).2.2])∧Below w.heap.size w W:=by
 obtain ⟨hb,(⟨_,h⟩ | ⟨h,_⟩ | ⟨_,_,_,h,_⟩)⟩:=h
 · exact ⟨h,hb⟩
 · exact absurd h hc
 · exact absurd h hc
theorem szO_none {m:Int} {e:Ending} {W:World} (h:SzO p m w e W) (hc:(checkP p).2.2=0) (hi:inB m p.fu.length=false):e=.returned (.tuple #[.int .i64 0,.int .i64 6])∧Below w.heap.size w W:=by
 obtain ⟨hb,(⟨h,_⟩ | ⟨_,_,h⟩ | ⟨k,f,_,_,rfl,hf,_⟩)⟩:=h
 · exact absurd hc h
 · exact ⟨h,hb⟩
 · have:=get_lt hf
   rw [show inB (k:Int) p.fu.length=true from by unfold inB;simp;omega] at hi
   cases hi
theorem stacks_law {v1 v2 v3 v4:Value} (P:PgAt B w v1 v2 v3 v4 p) (hB:B≤w.heap.size) (hT:Tb w) (hb0:0<B) (m:Int):Calls Tryd.prog 4 #[.agg #[v1,v2,v3,v4],.int .i64 m] w fun e w'=>e=.returned (.bool true)∧Below w.heap.size w w':=by
 obtain ⟨a1,d1,hv1⟩:=sl_form P.ty
 obtain ⟨a2,d2,hv2⟩:=sl_form P.fu
 obtain ⟨a3,d3,hv3⟩:=sl_form P.ta
 obtain ⟨a4,d4,hv4⟩:=sl_form P.st
 subst hv1 hv2 hv3 hv4
 obtain ⟨W1,hW1⟩ : ∃ W1,w.alloc (.cells #[.slice a1 p.ty.length d1,.slice a2 p.fu.length d2,.slice a3 p.ta.length d3,.slice a4 p.st.length d4] 27)=W1:=⟨_,rfl⟩
 have b1:Below w.heap.size w W1:=by rw [← hW1];exact (Below.refl _ _).alloc (Nat.le_refl _) _
 have e1:W1.heap[w.heap.size]?=some (.cells #[.slice a1 p.ty.length d1,.slice a2 p.fu.length d2,.slice a3 p.ta.length d3,.slice a4 p.st.length d4] 27 (0,0)):=by rw [← hW1];exact heap_new _ _ rfl
 have HBX:=hide (show ∀ W:World,Below W1.heap.size W1 W→(W.cell? ⟨w.heap.size,0,none⟩=some (.slice a1 p.ty.length d1)∧W.cell? ⟨w.heap.size,1,none⟩=some (.slice a2 p.fu.length d2)∧W.cell? ⟨w.heap.size,2,none⟩=some (.slice a3 p.ta.length d3)∧W.cell? ⟨w.heap.size,3,none⟩=some (.slice a4 p.st.length d4))∧w.heap.size<W.heap.size from fun W h=>by
  have h1:=(h.block _ (lt_of_block e1)).trans e1
  exact ⟨⟨cell_of h1 rfl,cell_of h1 rfl,cell_of h1 rfl,cell_of h1 rfl⟩,lt_of_block h1⟩)
 have HB1:=hide (show ∀ W:World,Below W1.heap.size W1 W→Below w.heap.size w W from fun W h=>b1.trans (h.mono b1.size))
 have HKP:=hide (show ∀ W:World,Below W1.heap.size W1 W→PgAt B W (.slice a1 p.ty.length d1) (.slice a2 p.fu.length d2) (.slice a3 p.ta.length d3) (.slice a4 p.st.length d4) p∧B≤W.heap.size∧Tb W from fun W h=>⟨P.keep (Nat.le_refl _) fun i hi=>((HB1.out W h).block i (Nat.lt_of_lt_of_le hi hB)),Nat.le_trans hB (HB1.out W h).size,hT.keep ((HB1.out W h).block 0 (Nat.lt_of_lt_of_le hb0 hB))⟩)
 obtain ⟨⟨k0,k1,k2,k3⟩,k4⟩:=HBX.out W1 (Below.refl _ _)
 have PW1:=HKP.out W1 (Below.refl _ _)
 have HST:=hide (stacks_any PW1.1 PW1.2.1 PW1.2.2 hb0 m)
 have HB0:=hide hb0
 clear P hB b1 e1 hT hb0 PW1
 go_enter Tryd.func4,Tryd.ntmps4
 go_wp2_with fail
 refine HST.out.mono ?_
 rintro e w2 ⟨hb2,(⟨hc,rfl⟩ | ⟨hc,hi,rfl⟩ | ⟨n,f,F,sb,cb,hc,rfl,hf,hF,hal,hnc,rfl,hs1,hs2,hS,hCB⟩)⟩
 · have HB2:=hide hb2
   clear hb2 k0 k1 k2 k3 k4 hW1 HST
   obtain ⟨ce,hce⟩ : ∃ c,(checkP p).2.2=c:=⟨_,rfl⟩
   have HC:=hide hc
   have HCE:=hide hce
   have q0:(ce == 0)=false:=by rw [← hce];simpa using hc
   have q1' : (ce != 0)=true:=by rw [← hce];simpa using hc
   rw [hce]
   clear hc hce
   have HSZ:=hide (size_any (HKP.out w2 HB2.out).1 (HKP.out w2 HB2.out).2.1 (HKP.out w2 HB2.out).2.2 HB0.out m)
   obtain ⟨⟨k0,k1,k2,k3⟩,k4⟩:=HBX.out w2 HB2.out
   go_wp2_with fail
   refine HSZ.out.mono ?_
   intro e w3 hs
   obtain ⟨rfl,hb3⟩:=(by have h:=szO_bad hs HC.out;rw [HCE.out] at h;exact h)
   have HB3:=hide (bel_tr HB2.out hb3)
   have HB23:=hide hb3
   clear hs hb3 HSZ k0 k1 k2 k3 k4
   obtain ⟨⟨k0,k1,k2,k3⟩,k4⟩:=HBX.out w3 HB3.out
   have HRK:=hide (rcheck_any (HKP.out w3 HB3.out).1 (HKP.out w3 HB3.out).2.1)
   unfold CkO at HRK
   rw [HCE.out] at HRK
   obtain ⟨q1,hq1⟩ : ∃ x,(checkP p).1=x:=⟨_,rfl⟩
   obtain ⟨q2,hq2⟩ : ∃ x,(checkP p).2.1=x:=⟨_,rfl⟩
   rw [hq1,hq2] at HRK
   clear hq1 hq2
   go_wp2_with fail
   refine HRK.out.mono ?_
   rintro e w4 ⟨rfl,hb4⟩
   have HB4:=hide (bel_tr HB3.out hb4)
   have HB34:=hide hb4
   clear hb4 HRK k0 k1 k2 k3 k4
   obtain ⟨⟨k0,k1,k2,k3⟩,k4⟩:=HBX.out w4 HB4.out
   have HAW:=hide (awake_any w4 (HKP.out w4 HB4.out).2.2)
   go_wp2_with fail
   refine HAW.out.mono ?_
   rintro e w5 ⟨rfl,hb5⟩
   have HB5:=hide (bel_tr HB4.out hb5)
   have HB45:=hide hb5
   clear hb5 HAW k0 k1 k2 k3 k4
   go_wp2_with fail
   go_ret
   exact ⟨rfl,HB1.out _ HB5.out⟩
 · have HB2:=hide hb2
   have HI:=hide hi
   have HC:=hide hc
   clear hb2 k0 k1 k2 k3 k4 hW1 HST hi hc
   by_cases hm:m<0
   · have z1:decide (m<0)=true:=by simpa using hm
     clear hm
     have HSZ:=hide (size_any (HKP.out w2 HB2.out).1 (HKP.out w2 HB2.out).2.1 (HKP.out w2 HB2.out).2.2 HB0.out m)
     obtain ⟨⟨k0,k1,k2,k3⟩,k4⟩:=HBX.out w2 HB2.out
     go_wp2_with fail
     refine HSZ.out.mono ?_
     intro e w3 hs
     obtain ⟨rfl,hb3⟩:=szO_none hs HC.out HI.out
     have HB3:=hide (bel_tr HB2.out hb3)
     have HB23:=hide hb3
     clear hs hb3 HSZ k0 k1 k2 k3 k4
     obtain ⟨⟨k0,k1,k2,k3⟩,k4⟩:=HBX.out w3 HB3.out
     have HRK:=hide (rcheck_any (HKP.out w3 HB3.out).1 (HKP.out w3 HB3.out).2.1)
     unfold CkO at HRK
     rw [HC.out] at HRK
     obtain ⟨q1,hq1⟩ : ∃ x,(checkP p).1=x:=⟨_,rfl⟩
     obtain ⟨q2,hq2⟩ : ∃ x,(checkP p).2.1=x:=⟨_,rfl⟩
     rw [hq1,hq2] at HRK
     clear hq1 hq2
     go_wp2_with fail
     refine HRK.out.mono ?_
     rintro e w4 ⟨rfl,hb4⟩
     have HB4:=hide (bel_tr HB3.out hb4)
     have HB34:=hide hb4
     clear hb4 HRK k0 k1 k2 k3 k4
     obtain ⟨⟨k0,k1,k2,k3⟩,k4⟩:=HBX.out w4 HB4.out
     have HAW:=hide (awake_any w4 (HKP.out w4 HB4.out).2.2)
     go_wp2_with fail
     refine HAW.out.mono ?_
     rintro e w5 ⟨rfl,hb5⟩
     have HB5:=hide (bel_tr HB4.out hb5)
     have HB45:=hide hb5
     clear hb5 HAW k0 k1 k2 k3 k4
     go_wp2_with fail
     go_ret
     exact ⟨rfl,HB1.out _ HB5.out⟩
   · have z1:decide (m<0)=false:=by simpa using hm
     have z3:decide ((p.fu.length:Int)≤m)=true:=by
      have h:=HI.out
      unfold inB at h
      simp at h ⊢
      omega
     clear hm
     have HSZ:=hide (size_any (HKP.out w2 HB2.out).1 (HKP.out w2 HB2.out).2.1 (HKP.out w2 HB2.out).2.2 HB0.out m)
     obtain ⟨⟨k0,k1,k2,k3⟩,k4⟩:=HBX.out w2 HB2.out
     go_wp2_with fail
     refine HSZ.out.mono ?_
     intro e w3 hs
     obtain ⟨rfl,hb3⟩:=szO_none hs HC.out HI.out
     have HB3:=hide (bel_tr HB2.out hb3)
     have HB23:=hide hb3
     clear hs hb3 HSZ k0 k1 k2 k3 k4
     obtain ⟨⟨k0,k1,k2,k3⟩,k4⟩:=HBX.out w3 HB3.out
     have HRK:=hide (rcheck_any (HKP.out w3 HB3.out).1 (HKP.out w3 HB3.out).2.1)
     unfold CkO at HRK
     rw [HC.out] at HRK
     obtain ⟨q1,hq1⟩ : ∃ x,(checkP p).1=x:=⟨_,rfl⟩
     obtain ⟨q2,hq2⟩ : ∃ x,(checkP p).2.1=x:=⟨_,rfl⟩
     rw [hq1,hq2] at HRK
     clear hq1 hq2
     go_wp2_with fail
     refine HRK.out.mono ?_
     rintro e w4 ⟨rfl,hb4⟩
     have HB4:=hide (bel_tr HB3.out hb4)
     have HB34:=hide hb4
     clear hb4 HRK k0 k1 k2 k3 k4
     obtain ⟨⟨k0,k1,k2,k3⟩,k4⟩:=HBX.out w4 HB4.out
     have HAW:=hide (awake_any w4 (HKP.out w4 HB4.out).2.2)
     go_wp2_with fail
     refine HAW.out.mono ?_
     rintro e w5 ⟨rfl,hb5⟩
     have HB5:=hide (bel_tr HB4.out hb5)
     have HB45:=hide hb5
     clear hb5 HAW k0 k1 k2 k3 k4
     go_wp2_with fail
     go_ret
     exact ⟨rfl,HB1.out _ HB5.out⟩
 · obtain ⟨_,o1,o2,_⟩:=check_ok hc
   have H:=hok_of o1 o2
   have hnf:=H.nf
   have HH:=hide H
   have HC:=hide hc
   have HF:=hide (And.intro hf hF)
   have HB2:=hide hb2
   have HS:=hide hS
   have HCB:=hide hCB
   have hnl:=get_lt hf
   have z1:decide ((n:Int)<0)=false:=by simp
   have z3:decide ((p.fu.length:Int)≤(n:Int))=false:=by simp;omega
   obtain ⟨tot,htot⟩ : ∃ t,szP p f F=t:=⟨_,rfl⟩
   have HTOT:=hide htot
   obtain ⟨L,hL⟩ : ∃ l,f.co.length=l:=⟨_,rfl⟩
   rw [hL] at HS hnc hal ⊢
   have HLE:=hide hL
   have HAL:=hide hal
   obtain ⟨m,hm⟩ : ∃ m:Int,(n:Int)=m:=⟨_,rfl⟩
   rw [hm] at z1 z3 ⊢
   have HM:=hide hm
   clear hb2 k0 k1 k2 k3 k4 hW1 HST hc hf hF hS hCB H o1 o2 htot hL hs1 hs2 hal hm
   have HSZ:=hide (size_any (HKP.out w2 HB2.out).1 (HKP.out w2 HB2.out).2.1 (HKP.out w2 HB2.out).2.2 HB0.out m)
   obtain ⟨⟨k0,k1,k2,k3⟩,k4⟩:=HBX.out w2 HB2.out
   go_wp2_with fail
   refine HSZ.out.mono ?_
   intro e w3 hs
   obtain ⟨rfl,hb3⟩:=(by rw [← HM.out] at hs;have h:=szO_of hs HC.out HF.out.1 HF.out.2;rw [HTOT.out] at h;exact h)
   have HB3:=hide (bel_tr HB2.out hb3)
   have HB23:=hide hb3
   clear hs hb3 HSZ k0 k1 k2 k3 k4
   obtain ⟨⟨k0,k1,k2,k3⟩,k4⟩:=HBX.out w3 HB3.out
   have HRK:=hide (rcheck_any (HKP.out w3 HB3.out).1 (HKP.out w3 HB3.out).2.1)
   unfold CkO at HRK
   rw [HC.out] at HRK
   obtain ⟨q1,hq1⟩ : ∃ x,(checkP p).1=x:=⟨_,rfl⟩
   obtain ⟨q2,hq2⟩ : ∃ x,(checkP p).2.1=x:=⟨_,rfl⟩
   rw [hq1,hq2] at HRK
   clear hq1 hq2
   go_wp2_with fail
   refine HRK.out.mono ?_
   rintro e w4 ⟨rfl,hb4⟩
   have HB4:=hide (bel_tr HB3.out hb4)
   have HB34:=hide hb4
   clear hb4 HRK k0 k1 k2 k3 k4
   obtain ⟨⟨k0,k1,k2,k3⟩,k4⟩:=HBX.out w4 HB4.out
   have HAW:=hide (awake_any w4 (HKP.out w4 HB4.out).2.2)
   go_upto_region 6 with (fail)
   go_wp2_with fail
   refine HAW.out.mono ?_
   rintro e w5 ⟨rfl,hb5⟩
   have HB5:=hide (bel_tr HB4.out hb5)
   have HB45:=hide hb5
   clear hb5 HAW k0 k1 k2 k3 k4
   have HLK:=hide (rlook_any (HKP.out w5 HB5.out).1 (HKP.out w5 HB5.out).2.1 HH.out HF.out.1)
   rw [HM.out] at HLK
   obtain ⟨⟨k0,k1,k2,k3⟩,k4⟩:=HBX.out w5 HB5.out
   go_upto_region 10 with (fail)
   go_wp2_with fail
   refine HLK.out.mono ?_
   rintro e w6 ⟨hb6,(⟨x,c,cb2,sb2,L2,m2,hfo,_⟩ | ⟨F',cb2,sb2,hfo,rfl,hla,hcb2,scs,X,hsb2,hsl2,hst2⟩)⟩
   · exact absurd (HF.out.2.symm.trans hfo) (by simp)
   have hFE:F' = F:=by have h:=HF.out.2.symm.trans hfo;cases h;rfl
   subst hFE
   rw [HLE.out]
   have HB6:=hide (bel_tr HB5.out hb6)
   have HB56:=hide hb6
   obtain ⟨w7,hw7⟩ : ∃ W7,w6.alloc (.cells #[.slice (some ⟨cb2,0,none⟩) L L,.slice (some ⟨sb2,0,none⟩) L L,.int .i64 (F'.mo:Int)] 39)=W7:=⟨_,rfl⟩
   have b67:Below w6.heap.size w6 w7:=by rw [← hw7];exact (Below.refl _ _).alloc (Nat.le_refl _) _
   have e7:w7.heap[w6.heap.size]?=some (.cells #[.slice (some ⟨cb2,0,none⟩) L L,.slice (some ⟨sb2,0,none⟩) L L,.int .i64 (F'.mo:Int)] 39 (0,0)):=by rw [← hw7];exact heap_new _ _ rfl
   have HE7:=hide e7
   have HB7:=hide (bel_tr HB6.out b67)
   have HB67:=hide b67
   have HCB2:=hide ((b67.block _ (lt_of_block hcb2)).trans hcb2)
   have HSB2:=hide ((b67.block _ (lt_of_block hsb2)).trans hsb2)
   have HST2:=hide (show ∀ (x:Nat) (o:Option (List Int)),F'.ah[x]?=some o→∃ c,scs[x]?=some c∧StK X w7 o c from fun x o ho=>by obtain ⟨c,c1,c2⟩:=hst2 x o ho;exact ⟨c,c1,c2.keep (Kp.of_below b67)⟩)
   have c7:w7.cell? ⟨w6.heap.size,0,none⟩=some (.slice (some ⟨cb2,0,none⟩) L L):=cell_of e7 rfl
   have l7:w6.heap.size<w7.heap.size:=lt_of_block e7
   have HBX7:=HBX.out w7 HB7.out
   have HWD:=hide (rwords_any (HKP.out w7 HB7.out).1 (HKP.out w7 HB7.out).2.1 HH.out HF.out.1 HF.out.2)
   rw [HM.out,HTOT.out] at HWD
   clear hb6 hfo hla hcb2 hsb2 hsl2 hst2 b67 e7 HLK k0 k1 k2 k3 k4
   obtain ⟨⟨k0,k1,k2,k3⟩,k4⟩:=HBX7
   go_upto_region 11 with (fail)
   clear hw7
   go_wp2_with fail
   refine HWD.out.mono ?_
   rintro e w8 ⟨rfl,hb8⟩
   have HB78:=hide hb8
   have HB8:=hide (bel_tr HB7.out hb8)
   have HB28:=hide (show Below w2.heap.size w2 w8 from bel_tr (bel_tr (bel_tr (bel_tr (bel_tr HB23.out HB34.out) HB45.out) HB56.out) HB67.out) hb8)
   clear hb8 HWD k0 k1 k2 k3 k4 c7 l7
   obtain ⟨W8,hW8⟩ : ∃ W,W=w8:=⟨_,rfl⟩
   subst hW8
   go_wp2
   go_loopw [16] (fun a wr=>SqR L W8 a wr) (fun a _=>L - (intOf a).toNat)
   case atStart=>exact ⟨0,rfl,Nat.zero_le _,Below.refl _ _⟩
   case round =>
    obtain ⟨k,rfl,hk,hbr⟩:=hrel
    obtain ⟨w8,hw8⟩ : ∃ W,W=wr:=⟨_,rfl⟩
    subst hw8
    have HBR8:=hide hbr
    clear hbr
    by_cases hkl:k<L
    · obtain ⟨o,ho⟩ : ∃ o,F'.ah[k]?=some o:=⟨F'.ah[k]'(by rw [HAL.out];exact hkl),by simp⟩
      have HO:=hide ho
      obtain ⟨gs,os,cs,ns,u,hvs,hns,_,hgs,hcu,hslu⟩:=lst_at HS.out (t:=k) (x:=o.getD []) (by simp [ho])
      cases hvs
      rw [Nat.zero_add] at hcu
      have hsbw:sb<w2.heap.size:=hgs
      obtain ⟨ua,uc,hu⟩:=sl_form hslu
      subst hu
      obtain ⟨c,hcx,hstk⟩:=HST2.out k o ho
      have dk:decide (k<L)=true:=by simpa using hkl
      have dkj:(k:Int)≤65536:=by omega
      clear ho hns hgs
      cases o with
      | none =>
       have hcv:c=.slice none 0 0:=hstk
       subst hcv
       have HS16:=hide (show ∀ W:World,Below w8.heap.size w8 W→(fun W:World=>W.cell? ⟨cb,k,none⟩=some (.bool false)∧W.cell? ⟨w6.heap.size,0,none⟩=some (.slice (some ⟨cb2,0,none⟩) L L)∧W.cell? ⟨w6.heap.size,1,none⟩=some (.slice (some ⟨sb2,0,none⟩) L L)∧W.cell? ⟨cb2,k,none⟩=some (.bool false)∧W.cell? ⟨sb,k,none⟩=some (.slice ua 0 uc)∧W.cell? ⟨sb2,k,none⟩=some (.slice none 0 0)) W from fun W h=>by
        have hW2:=bel_tr (bel_tr HB28.out HBR8.out) h
        have hW7:=bel_tr (bel_tr HB78.out HBR8.out) h
        exact ⟨(hW2.cell (p:=⟨cb,k,none⟩) (lt_of_block HCB.out)).trans (cell_of HCB.out (by simp [HO.out])),cell_of ((hW7.block _ (lt_of_block HE7.out)).trans HE7.out) rfl,cell_of ((hW7.block _ (lt_of_block HE7.out)).trans HE7.out) rfl,(hW7.cell (p:=⟨cb2,k,none⟩) (lt_of_block HCB2.out)).trans (cell_of HCB2.out (by simp [cvs,HO.out])),(hW2.cell (p:=⟨sb,k,none⟩) hsbw).trans hcu,(hW7.cell (p:=⟨sb2,k,none⟩) (lt_of_block HSB2.out)).trans (cell_of HSB2.out (by rw [List.getElem?_toArray];exact hcx))⟩)
       have HSM:=hide (show Calls Tryd.prog 15 #[.slice ua 0 uc,.slice none 0 0] w8.drew fun e w'=>e=.returned (.bool true)∧Below w8.drew.heap.size w8.drew w' from by
        have hW2:Below w2.heap.size w2 w8.drew:=below_drew (bel_tr HB28.out HBR8.out)
        have hW7:Below w7.heap.size w7 w8.drew:=below_drew (bel_tr HB78.out HBR8.out)
        have h:=rsame_any (w:=w8.drew) (ints_keep (Nat.le_refl _) (fun q hq=>hW2.block q hq) hslu) (show SlAt 1 IntP w7.heap.size w8.drew (.slice none 0 0) [] from sl_nil) hW2.size hW7.size
        exact h.mono fun e w' hh=>⟨hh.1.trans (by simp),hh.2⟩)
       have HBR82:=hide (bel_tr HBR8.out (below_drew (Below.refl w8.heap.size w8)))
       clear hcu hslu hcx hstk
       go_upto_region 16 with (fail)
       refine wp_region_held_drew (S:=(fun W:World=>W.cell? ⟨cb,k,none⟩=some (.bool false)∧W.cell? ⟨w6.heap.size,0,none⟩=some (.slice (some ⟨cb2,0,none⟩) L L)∧W.cell? ⟨w6.heap.size,1,none⟩=some (.slice (some ⟨sb2,0,none⟩) L L)∧W.cell? ⟨cb2,k,none⟩=some (.bool false)∧W.cell? ⟨sb,k,none⟩=some (.slice ua 0 uc)∧W.cell? ⟨sb2,k,none⟩=some (.slice none 0 0))) (by kernel_rfl) (HS16.out _ (below_drew (Below.refl _ _))) (fun hHeld32=>?_)
       refine tk 0 oRs29 ?v33 ?h33 ?_
       case h33=>(intro W h;(try dsimp only at h);go_simp;try with_reducible rfl)
       try simp only [sp]
       refine tk 1 oRs30 ?v34 ?h34 ?_
       case h34=>(intro W h;(try dsimp only at h);go_simp;try with_reducible rfl)
       try simp only [sp]
       refine tk 2 oRs31 ?v35 ?h35 ?_
       case h35=>(intro W h;(try dsimp only at h);go_simp;try with_reducible rfl)
       try simp only [sp]
       refine tk 3 oRs32 ?v36 ?h36 ?_
       case h36=>(intro W h;(try dsimp only at h);go_simp;try with_reducible rfl)
       try simp only [sp]
       refine tk 4 oRs33 ?v37 ?h37 ?_
       case h37=>(intro W h;(try dsimp only at h);go_simp;try with_reducible rfl)
       try simp only [sp]
       refine tk 5 oRs34 ?v38 ?h38 ?_
       case h38=>(intro W h;(try dsimp only at h);go_simp;try with_reducible rfl)
       try simp only [sp]
       refine tk 6 oRs35 ?v39 ?h39 ?_
       case h39=>(intro W h;(try dsimp only at h);go_simp;try with_reducible rfl)
       try simp only [sp]
       refine tk 7 oRs36 ?v40 ?h40 ?_
       case h40=>(intro W h;(try dsimp only at h);go_simp;try with_reducible rfl)
       try simp only [sp]
       refine tk 8 oRs37 ?v41 ?h41 ?_
       case h41=>(intro W h;(try dsimp only at h);go_simp;try with_reducible rfl)
       try simp only [sp]
       refine tk 9 oRs38 ?v42 ?h42 ?_
       case h42=>(intro W h;(try dsimp only at h);go_simp;try with_reducible rfl)
       try simp only [sp]
       refine tk 10 oRs39 ?v43 ?h43 ?_
       case h43=>(intro W h;(try dsimp only at h);go_simp;try with_reducible rfl)
       try simp only [sp]
       refine tk 11 oRs40 ?v44 ?h44 ?_
       case h44=>(intro W h;(try dsimp only at h);go_simp;try with_reducible rfl)
       try simp only [sp]
       refine tk 12 oRs41 ?v45 ?h45 ?_
       case h45=>(intro W h;(try dsimp only at h);go_simp;try with_reducible rfl)
       try simp only [sp]
       refine tk 13 oRs42 ?v46 ?h46 ?_
       case h46=>(intro W h;(try dsimp only at h);go_simp;try with_reducible rfl)
       try simp only [sp]
       refine tk 14 oRs43 ?v47 ?h47 ?_
       case h47=>(intro W h;(try dsimp only at h);go_simp;try with_reducible rfl)
       try simp only [sp]
       refine tk 15 oRs44 ?v48 ?h48 ?_
       case h48=>(intro W h;(try dsimp only at h);go_simp;try with_reducible rfl)
       try simp only [sp]
       refine tk 16 oRs45 ?v49 ?h49 ?_
       case h49=>(intro W h;(try dsimp only at h);go_simp;try with_reducible rfl)
       try simp only [sp]
       refine tk 17 oRs46 ?v50 ?h50 ?_
       case h50=>(intro W h;(try dsimp only at h);go_simp;try with_reducible rfl)
       try simp only [sp]
       refine tk 18 oRs47 ?v51 ?h51 ?_
       case h51=>(intro W h;(try dsimp only at h);go_simp;try with_reducible rfl)
       try simp only [sp]
       refine tk 19 oRs48 ?v52 ?h52 ?_
       case h52=>(intro W h;(try dsimp only at h);go_simp;try with_reducible rfl)
       try simp only [sp]
       refine wpAnyH_ready (rs:=[20]) (by kernel_rfl) (by simp) ?_
       refine AllReadyH.cons (o:=oRs49) rfl (fun K hK=>?_) AllReadyH.nil
       go_simp
       go_at_call 15
       refine HSM.out.mono ?_
       rintro e w9 ⟨rfl,hb9⟩
       have HB9:=hide (bel_tr (below_drew (Below.refl w8.heap.size w8)) hb9)
       go_wp2_with fail
       refine hK.out _ _ (HS16.out _ HB9.out) (fun hHeld53=>?_)
       clear hK K
       try simp only [sp]
       refine tk 21 oRs50 ?v54 ?h54 ?_
       case h54=>(intro W h;(try dsimp only at h);go_simp;try with_reducible rfl)
       try simp only [sp]
       refine tk 22 oRs51 ?v55 ?h55 ?_
       case h55=>(intro W h;(try dsimp only at h);go_simp;try with_reducible rfl)
       try simp only [sp]
       refine wpAnyH_done (by kernel_rfl) ?_ _
       clear hb9
       have HBZ:=hide (bel_tr HBR8.out HB9.out)
       go_wp2
       go_roundw
       case rel=>exact ⟨k+1,by first | exact num_next hkl (by omega) | go_num,hkl,HBZ.out⟩
       case measure=>first | exact meas_int hkl (by omega) | (rw [intOf_int,intOf_int];omega)
      | some s9 =>
       obtain ⟨sa9,sc9,hcv2⟩ : ∃ a c',c=.slice a s9.length c':=by obtain ⟨a,c',h,_⟩:=hstk.1;exact ⟨a,c',h⟩
       subst hcv2
       have HS16:=hide (show ∀ W:World,Below w8.heap.size w8 W→(fun W:World=>W.cell? ⟨cb,k,none⟩=some (.bool true)∧W.cell? ⟨w6.heap.size,0,none⟩=some (.slice (some ⟨cb2,0,none⟩) L L)∧W.cell? ⟨w6.heap.size,1,none⟩=some (.slice (some ⟨sb2,0,none⟩) L L)∧W.cell? ⟨cb2,k,none⟩=some (.bool true)∧W.cell? ⟨sb,k,none⟩=some (.slice ua s9.length uc)∧W.cell? ⟨sb2,k,none⟩=some (.slice sa9 s9.length sc9)) W from fun W h=>by
        have hW2:=bel_tr (bel_tr HB28.out HBR8.out) h
        have hW7:=bel_tr (bel_tr HB78.out HBR8.out) h
        exact ⟨(hW2.cell (p:=⟨cb,k,none⟩) (lt_of_block HCB.out)).trans (cell_of HCB.out (by simp [HO.out])),cell_of ((hW7.block _ (lt_of_block HE7.out)).trans HE7.out) rfl,cell_of ((hW7.block _ (lt_of_block HE7.out)).trans HE7.out) rfl,(hW7.cell (p:=⟨cb2,k,none⟩) (lt_of_block HCB2.out)).trans (cell_of HCB2.out (by simp [cvs,HO.out])),(hW2.cell (p:=⟨sb,k,none⟩) hsbw).trans hcu,(hW7.cell (p:=⟨sb2,k,none⟩) (lt_of_block HSB2.out)).trans (cell_of HSB2.out (by rw [List.getElem?_toArray];exact hcx))⟩)
       have HSM:=hide (show Calls Tryd.prog 15 #[.slice ua s9.length uc,.slice sa9 s9.length sc9] w8.drew fun e w'=>e=.returned (.bool true)∧Below w8.drew.heap.size w8.drew w' from by
        have hW2:Below w2.heap.size w2 w8.drew:=below_drew (bel_tr HB28.out HBR8.out)
        have hW7:Below w7.heap.size w7 w8.drew:=below_drew (bel_tr HB78.out HBR8.out)
        have h:=rsame_any (w:=w8.drew) (ints_keep (Nat.le_refl _) (fun q hq=>hW2.block q hq) hslu) (ints_keep (Nat.le_refl _) (fun q hq=>hW7.block q hq) (hstk.1.sl0 hstk.2)) hW2.size hW7.size
        exact h.mono fun e w' hh=>⟨hh.1.trans (by simp),hh.2⟩)
       have HBR82:=hide (bel_tr HBR8.out (below_drew (Below.refl w8.heap.size w8)))
       clear hcu hslu hcx hstk
       go_upto_region 16 with (fail)
       refine wp_region_held_drew (S:=(fun W:World=>W.cell? ⟨cb,k,none⟩=some (.bool true)∧W.cell? ⟨w6.heap.size,0,none⟩=some (.slice (some ⟨cb2,0,none⟩) L L)∧W.cell? ⟨w6.heap.size,1,none⟩=some (.slice (some ⟨sb2,0,none⟩) L L)∧W.cell? ⟨cb2,k,none⟩=some (.bool true)∧W.cell? ⟨sb,k,none⟩=some (.slice ua s9.length uc)∧W.cell? ⟨sb2,k,none⟩=some (.slice sa9 s9.length sc9))) (by kernel_rfl) (HS16.out _ (below_drew (Below.refl _ _))) (fun hHeld56=>?_)
       refine tk 0 oRs29 ?v57 ?h57 ?_
       case h57=>(intro W h;(try dsimp only at h);go_simp;try with_reducible rfl)
       try simp only [sp]
       refine tk 1 oRs30 ?v58 ?h58 ?_
       case h58=>(intro W h;(try dsimp only at h);go_simp;try with_reducible rfl)
       try simp only [sp]
       refine tk 2 oRs31 ?v59 ?h59 ?_
       case h59=>(intro W h;(try dsimp only at h);go_simp;try with_reducible rfl)
       try simp only [sp]
       refine tk 3 oRs32 ?v60 ?h60 ?_
       case h60=>(intro W h;(try dsimp only at h);go_simp;try with_reducible rfl)
       try simp only [sp]
       refine tk 4 oRs33 ?v61 ?h61 ?_
       case h61=>(intro W h;(try dsimp only at h);go_simp;try with_reducible rfl)
       try simp only [sp]
       refine tk 5 oRs34 ?v62 ?h62 ?_
       case h62=>(intro W h;(try dsimp only at h);go_simp;try with_reducible rfl)
       try simp only [sp]
       refine tk 6 oRs35 ?v63 ?h63 ?_
       case h63=>(intro W h;(try dsimp only at h);go_simp;try with_reducible rfl)
       try simp only [sp]
       refine tk 7 oRs36 ?v64 ?h64 ?_
       case h64=>(intro W h;(try dsimp only at h);go_simp;try with_reducible rfl)
       try simp only [sp]
       refine tk 8 oRs37 ?v65 ?h65 ?_
       case h65=>(intro W h;(try dsimp only at h);go_simp;try with_reducible rfl)
       try simp only [sp]
       refine tk 9 oRs38 ?v66 ?h66 ?_
       case h66=>(intro W h;(try dsimp only at h);go_simp;try with_reducible rfl)
       try simp only [sp]
       refine tk 10 oRs39 ?v67 ?h67 ?_
       case h67=>(intro W h;(try dsimp only at h);go_simp;try with_reducible rfl)
       try simp only [sp]
       refine tk 11 oRs40 ?v68 ?h68 ?_
       case h68=>(intro W h;(try dsimp only at h);go_simp;try with_reducible rfl)
       try simp only [sp]
       refine tk 12 oRs41 ?v69 ?h69 ?_
       case h69=>(intro W h;(try dsimp only at h);go_simp;try with_reducible rfl)
       try simp only [sp]
       refine tk 13 oRs42 ?v70 ?h70 ?_
       case h70=>(intro W h;(try dsimp only at h);go_simp;try with_reducible rfl)
       try simp only [sp]
       refine tk 14 oRs43 ?v71 ?h71 ?_
       case h71=>(intro W h;(try dsimp only at h);go_simp;try with_reducible rfl)
       try simp only [sp]
       refine tk 15 oRs44 ?v72 ?h72 ?_
       case h72=>(intro W h;(try dsimp only at h);go_simp;try with_reducible rfl)
       try simp only [sp]
       refine tk 16 oRs45 ?v73 ?h73 ?_
       case h73=>(intro W h;(try dsimp only at h);go_simp;try with_reducible rfl)
       try simp only [sp]
       refine tk 17 oRs46 ?v74 ?h74 ?_
       case h74=>(intro W h;(try dsimp only at h);go_simp;try with_reducible rfl)
       try simp only [sp]
       refine tk 18 oRs47 ?v75 ?h75 ?_
       case h75=>(intro W h;(try dsimp only at h);go_simp;try with_reducible rfl)
       try simp only [sp]
       refine tk 19 oRs48 ?v76 ?h76 ?_
       case h76=>(intro W h;(try dsimp only at h);go_simp;try with_reducible rfl)
       try simp only [sp]
       refine wpAnyH_ready (rs:=[20]) (by kernel_rfl) (by simp) ?_
       refine AllReadyH.cons (o:=oRs49) rfl (fun K hK=>?_) AllReadyH.nil
       go_simp
       go_at_call 15
       refine HSM.out.mono ?_
       rintro e w9 ⟨rfl,hb9⟩
       have HB9:=hide (bel_tr (below_drew (Below.refl w8.heap.size w8)) hb9)
       go_wp2_with fail
       refine hK.out _ _ (HS16.out _ HB9.out) (fun hHeld77=>?_)
       clear hK K
       try simp only [sp]
       refine tk 21 oRs50 ?v78 ?h78 ?_
       case h78=>(intro W h;(try dsimp only at h);go_simp;try with_reducible rfl)
       try simp only [sp]
       refine tk 22 oRs51 ?v79 ?h79 ?_
       case h79=>(intro W h;(try dsimp only at h);go_simp;try with_reducible rfl)
       try simp only [sp]
       refine wpAnyH_done (by kernel_rfl) ?_ _
       clear hb9
       have HBZ:=hide (bel_tr HBR8.out HB9.out)
       go_wp2
       go_roundw
       case rel=>exact ⟨k+1,by first | exact num_next hkl (by omega) | go_num,hkl,HBZ.out⟩
       case measure=>first | exact meas_int hkl (by omega) | (rw [intOf_int,intOf_int];omega)
    · obtain rfl:L=k:=by omega
      have dk:decide (L<L)=false:=by simp
      have HBF:=hide (bel_tr HB8.out HBR8.out)
      go_wp2
      go_ret
      exact ⟨rfl,HB1.out _ HBF.out⟩
end
end Go.Proofs.YtfkejdocklcpoaaDoor
