/- The document's kinds, all; SameInts. -/
import Derived.Test.YtfkejdocklcpoaaDoorVfAwJs
import Derived.Test.YtfkejdocklcpoaaDoorVfHkJs
import Derived.Test.YtfkejdocklcpoaaDoorVfTk
namespace Go.Proofs.YtfkejdocklcpoaaDoor
set_option maxRecDepth 100000
set_option maxHeartbeats 1000000
open Go.RowKit
abbrev oRb0 : Oper := { dst := some 14, op := .load 27 (.tmp 3), type := 27, pos := "ref.go:32", after := #[], guard := none }
abbrev oRb1 : Oper := { dst := some 15, op := .move (.tmp 1), type := 44, pos := "ref.go:32", after := #[], guard := none }
abbrev oRb2 : Oper := { dst := some 16, op := .move (.tmp 7), type := 3, pos := "ref.go:32", after := #[], guard := none }
abbrev oRb3 : Oper := { dst := some 17, op := .indexAddr 44 (.tmp 15) (.tmp 16), type := 0, pos := "ref.go:32", after := #[{ on := 1, ground := .data }, { on := 2, ground := .data }], guard := none }
abbrev oRb4 : Oper := { dst := some 18, op := .load 3 (.tmp 17), type := 3, pos := "ref.go:32", after := #[{ on := 3, ground := .data }], guard := none }
abbrev oRb5 : Oper := { dst := some 19, op := .move (.tmp 2), type := 4, pos := "ref.go:32", after := #[], guard := none }
abbrev oRb6 : Oper := { dst := some 20, op := .call { callee := .value (.func 41), args := #[.tmp 14, .tmp 18, .tmp 19], argTypes := #[27, 3, 4] }, type := 4, pos := "ref.go:32", after := #[{ on := 0, ground := .data }, { on := 4, ground := .data }, { on := 5, ground := .data }], guard := none }
abbrev oRb7 : Oper := { dst := some 21, op := .unOp .not 4 (.tmp 20), type := 4, pos := "ref.go:32", after := #[{ on := 6, ground := .data }], guard := none }
abbrev oRb8 : Oper := { dst := some 17, op := .move (.tmp 0), type := 44, pos := "ref.go:163", after := #[], guard := none }
abbrev oRb9 : Oper := { dst := some 18, op := .move (.tmp 5), type := 3, pos := "ref.go:163", after := #[], guard := none }
abbrev oRb10 : Oper := { dst := some 19, op := .indexAddr 44 (.tmp 17) (.tmp 18), type := 0, pos := "ref.go:163", after := #[{ on := 0, ground := .data }, { on := 1, ground := .data }], guard := none }
abbrev oRb11 : Oper := { dst := some 20, op := .load 3 (.tmp 19), type := 3, pos := "ref.go:163", after := #[{ on := 2, ground := .data }], guard := none }
abbrev oRb12 : Oper := { dst := some 21, op := .move (.tmp 1), type := 44, pos := "ref.go:163", after := #[], guard := none }
abbrev oRb13 : Oper := { dst := some 22, op := .move (.tmp 5), type := 3, pos := "ref.go:163", after := #[], guard := none }
abbrev oRb14 : Oper := { dst := some 23, op := .indexAddr 44 (.tmp 21) (.tmp 22), type := 0, pos := "ref.go:163", after := #[{ on := 4, ground := .data }, { on := 5, ground := .data }], guard := none }
abbrev oRb15 : Oper := { dst := some 24, op := .load 3 (.tmp 23), type := 3, pos := "ref.go:163", after := #[{ on := 6, ground := .data }], guard := none }
abbrev oRb16 : Oper := { dst := some 25, op := .binOp .neq 3 (.tmp 20) (.tmp 24) 3, type := 4, pos := "ref.go:163", after := #[{ on := 3, ground := .data }, { on := 7, ground := .data }], guard := none }
theorem il_at {B:Nat} {w:World} {v:Value} {l:List Int} (R:SlAt 1 IntP B w v l) {j:Nat} {x:Int} (hx:l[j]?=some x):∃ g o c,v=.slice (some ⟨g,o,none⟩) l.length c∧g<B∧w.cell? ⟨g,o+j,none⟩=some (.int .i64 x)∧-9223372036854775808≤x∧x≤9223372036854775807:=by
 obtain ⟨ao,cap,rfl,_,hel⟩:=R
 obtain ⟨g,o,rfl,h1,h2,h3⟩:=ints_at hel hx
 exact ⟨g,o,cap,rfl,h1,h2,h3⟩
theorem il_len {B:Nat} {w:World} {v:Value} {l:List Int} (R:SlAt 1 IntP B w v l):l.length≤9223372036854775807:=by
 obtain ⟨_,_,_,h,_⟩:=R
 exact h.1
def KnR (q:Int→Bool) (l:List Int) (w:World) (a:Value) (wr:World):Prop:=∃ j:Nat,a=.int .i64 j∧j≤l.length∧(l.take j).all q=true∧Below w.heap.size w wr
theorem rall_next {q:Int→Bool} {l:List Int} {j:Nat} {x:Int} (h:l[j]?=some x) (h1:(l.take j).all q=true) (h2:q x=true):(l.take (j+1)).all q=true:=by
 rw [List.take_add_one,h]
 simp only [List.all_append,h1,Bool.true_and]
 simpa using h2
theorem rall_not {q:Int→Bool} {l:List Int} {j:Nat} {x:Int} (h:l[j]?=some x) (h2:q x=false):l.all q=false:=by
 cases hq:l.all q with
 | false=>rfl
 | true =>
  rw [List.all_eq_true] at hq
  rw [hq x (List.mem_of_getElem? h)] at h2
  cases h2
section
variable {B:Nat} {w:World} {p:Pg} {v1 v2 v3 v4:Value}
theorem rkinds_any (P:PgAt B w v1 v2 v3 v4 p) (hB:B≤w.heap.size) (hn:p.ty.length≤1024) {v:Value} {l:List Int} (R:SlAt 1 IntP B w v l) (lc:Bool):Calls Tryd.prog 38 #[.agg #[v1,v2,v3,v4],v,.bool lc] w fun e w'=>e=.returned (.bool (l.all fun k=>if lc then isKB p.ty.length k else freeB p.ty.length k))∧Below w.heap.size w w':=by
 obtain ⟨a1,d1,hv1⟩:=sl_form P.ty
 obtain ⟨a2,d2,hv2⟩:=sl_form P.fu
 obtain ⟨a3,d3,hv3⟩:=sl_form P.ta
 obtain ⟨a4,d4,hv4⟩:=sl_form P.st
 obtain ⟨al,dl,hvl⟩:=sl_form R
 subst hv1 hv2 hv3 hv4 hvl
 obtain ⟨W1,hW1⟩ : ∃ W1,w.alloc (.cells #[.slice a1 p.ty.length d1,.slice a2 p.fu.length d2,.slice a3 p.ta.length d3,.slice a4 p.st.length d4] 27)=W1:=⟨_,rfl⟩
 have b1:Below w.heap.size w W1:=by rw [← hW1];exact (Below.refl _ _).alloc (Nat.le_refl _) _
 have e1:W1.heap[w.heap.size]?=some (.cells #[.slice a1 p.ty.length d1,.slice a2 p.fu.length d2,.slice a3 p.ta.length d3,.slice a4 p.st.length d4] 27 (0,0)):=by rw [← hW1];exact heap_new _ _ rfl
 have HBX:=hide (show ∀ W:World,Below W1.heap.size W1 W→W.cell? ⟨w.heap.size,0,none⟩=some (.slice a1 p.ty.length d1)∧W.cell? ⟨w.heap.size,1,none⟩=some (.slice a2 p.fu.length d2)∧W.cell? ⟨w.heap.size,2,none⟩=some (.slice a3 p.ta.length d3)∧W.cell? ⟨w.heap.size,3,none⟩=some (.slice a4 p.st.length d4) from fun W h=>by
  have h1:=(h.block _ (lt_of_block e1)).trans e1
  exact ⟨cell_of h1 rfl,cell_of h1 rfl,cell_of h1 rfl,cell_of h1 rfl⟩)
 have HPG:=hide (show ∀ W:World,Below W1.heap.size W1 W→PgAt B W (.slice a1 p.ty.length d1) (.slice a2 p.fu.length d2) (.slice a3 p.ta.length d3) (.slice a4 p.st.length d4) p∧B≤W.heap.size∧SlAt 1 IntP B W (.slice al l.length dl) l from fun W h=>⟨P.keep (Nat.le_refl _) (fun j hj=>(bel_tr b1 h).block j (Nat.lt_of_lt_of_le hj hB)),Nat.le_trans hB (bel_tr b1 h).size,ints_keep (Nat.le_refl _) (fun j hj=>(bel_tr b1 h).block j (Nat.lt_of_lt_of_le hj hB)) R⟩)
 have HB1:=hide b1
 have HLL:=hide (il_len R)
 have hl0:=lt_of_block e1
 obtain ⟨q,hq⟩ : ∃ q:Int→Bool,(fun k=>if lc then isKB p.ty.length k else freeB p.ty.length k)=q:=⟨_,rfl⟩
 have HQ:=hide (show ∀ k,(if lc then isKB p.ty.length k else freeB p.ty.length k)=q k from fun k=>by rw [← hq])
 rw [hq]
 obtain ⟨L,hL⟩ : ∃ L,l.length=L:=⟨_,rfl⟩
 rw [hL] at HPG ⊢
 have HL:=hide hL
 clear P R b1 e1 hq hL
 go_enter Tryd.func38,Tryd.ntmps38
 go_wp2_with fail
 go_loopw [7] (fun a wr=>KnR q l W1 a wr) (fun a _=>L - (intOf a).toNat)
 case atStart=>exact ⟨0,rfl,Nat.zero_le _,by simp,Below.refl _ _⟩
 case round =>
  obtain ⟨j,rfl,hj,hall,hb⟩:=hrel
  have HBR:=hide hb
  have HAL:=hide hall
  rw [HL.out] at hj
  clear hb hall
  by_cases hlt:j<L
  · obtain ⟨x,hx⟩ : ∃ x,l[j]?=some x:=⟨l[j]'(by rw [HL.out];exact hlt),by simp⟩
    obtain ⟨P2,hB2,R2⟩:=HPG.out wr HBR.out
    obtain ⟨g,o,c,hv,hg,hc,hx1,hx2⟩:=il_at (by rw [← HL.out] at R2;exact R2) hx
    cases hv
    obtain ⟨k0,k1,k2,k3⟩:=HBX.out wr HBR.out
    have hlw:w.heap.size<wr.heap.size:=Nat.lt_of_lt_of_le hl0 HBR.out.size
    have hgw:g<wr.heap.size:=Nat.lt_of_lt_of_le hg hB2
    have dd1:decide (j<L)=true:=by simpa using hlt
    have dd3:(j:Int)≤9223372036854775807:=by have:=HLL.out;rw [HL.out] at this;omega
    have HKD:=hide (rkind_any ((HPG.out wr.drew (below_drew HBR.out)).1) hn ⟨hx1,hx2⟩ lc)
    rw [HQ.out x] at HKD
    have HX:=hide hx
    have HS:=hide (show ∀ W:World,Below wr.heap.size wr W→(fun W:World=>W.cell? ⟨w.heap.size,0,none⟩=some (.slice a1 p.ty.length d1)∧W.cell? ⟨w.heap.size,1,none⟩=some (.slice a2 p.fu.length d2)∧W.cell? ⟨w.heap.size,2,none⟩=some (.slice a3 p.ta.length d3)∧W.cell? ⟨w.heap.size,3,none⟩=some (.slice a4 p.st.length d4)∧W.cell? ⟨g,o+j,none⟩=some (.int .i64 x)) W from fun W h=>by
     obtain ⟨y0,y1,y2,y3⟩:=HBX.out W (bel_tr HBR.out h)
     exact ⟨y0,y1,y2,y3,(h.cell (p:=⟨g,o+j,none⟩) hgw).trans hc⟩)
    clear P2 R2 hx
    go_upto_region 4 with (fail)
    refine wp_region_held_drew (S:=(fun W:World=>W.cell? ⟨w.heap.size,0,none⟩=some (.slice a1 p.ty.length d1)∧W.cell? ⟨w.heap.size,1,none⟩=some (.slice a2 p.fu.length d2)∧W.cell? ⟨w.heap.size,2,none⟩=some (.slice a3 p.ta.length d3)∧W.cell? ⟨w.heap.size,3,none⟩=some (.slice a4 p.st.length d4)∧W.cell? ⟨g,o+j,none⟩=some (.int .i64 x))) (by kernel_rfl) (HS.out _ (below_drew (Below.refl _ _))) (fun hHeld1=>?_)
    refine tk 0 oRb0 ?v2 ?h2 ?_
    case h2=>(intro W h;(try dsimp only at h);go_simp;try with_reducible rfl)
    try simp only [sp]
    refine tk 1 oRb1 ?v3 ?h3 ?_
    case h3=>(intro W h;(try dsimp only at h);go_simp;try with_reducible rfl)
    try simp only [sp]
    refine tk 2 oRb2 ?v4 ?h4 ?_
    case h4=>(intro W h;(try dsimp only at h);go_simp;try with_reducible rfl)
    try simp only [sp]
    refine tk 3 oRb3 ?v5 ?h5 ?_
    case h5=>(intro W h;(try dsimp only at h);go_simp;try with_reducible rfl)
    try simp only [sp]
    refine tk 4 oRb4 ?v6 ?h6 ?_
    case h6=>(intro W h;(try dsimp only at h);go_simp;try with_reducible rfl)
    try simp only [sp]
    refine tk 5 oRb5 ?v7 ?h7 ?_
    case h7=>(intro W h;(try dsimp only at h);go_simp;try with_reducible rfl)
    try simp only [sp]
    refine wpAnyH_ready (rs:=[6]) (by kernel_rfl) (by simp) ?_
    refine AllReadyH.cons (o:=oRb6) rfl (fun K hK=>?_) AllReadyH.nil
    go_simp
    go_at_call 41
    refine HKD.out.mono ?_
    rintro e w3 ⟨rfl,hb3⟩
    have HB3:=hide (show Below wr.heap.size wr w3 from (below_drew (Below.refl _ _)).trans hb3)
    clear hb3
    go_wp2_with fail
    refine hK.out _ _ (HS.out _ HB3.out) (fun hHeld8=>?_)
    clear hK K
    try simp only [sp]
    refine tk 7 oRb7 ?v9 ?h9 ?_
    case h9=>(intro W h;(try dsimp only at h);go_simp;try with_reducible rfl)
    try simp only [sp]
    refine wpAnyH_done (by kernel_rfl) ?_ _
    cases hqx:q x with
    | true =>
     have HN:=hide (rall_next HX.out HAL.out hqx)
     clear HKD
     go_wp2
     go_roundw
     case rel=>exact ⟨j+1,by first | exact num_next hlt (by have:=HLL.out;rw [HL.out] at this;exact this) | go_num,by rw [HL.out];exact hlt,HN.out,bel_tr HBR.out HB3.out⟩
     case measure=>first | exact meas_int hlt (by have:=HLL.out;rw [HL.out] at this;exact this) | (rw [intOf_int,intOf_int];omega)
    | false =>
     have HN:=hide (rall_not HX.out hqx)
     clear HKD
     go_wp2
     go_ret
     exact ⟨by rw [HN.out];rfl,bel_tr HB1.out (bel_tr HBR.out HB3.out)⟩
  · obtain rfl:L=j:=by omega
    have dd1:decide (L<L)=false:=by simp
    have HE:=hide (show l.all q=true by have:=HAL.out;rw [← HL.out,List.take_length] at this;exact this)
    go_wp2
    go_ret
    exact ⟨by rw [HE.out];rfl,bel_tr HB1.out HBR.out⟩
end
def SiR (a b:List Int) (w:World) (i:Value) (wr:World):Prop:=∃ j:Nat,i=.int .i64 j∧j≤a.length∧(∀ k,k<j→a[k]?=b[k]?)∧Below w.heap.size w wr
section
variable {B1 B2:Nat} {w:World} {va vb:Value} {a b:List Int}
theorem rsame_any (R1:SlAt 1 IntP B1 w va a) (R2:SlAt 1 IntP B2 w vb b) (h1:B1≤w.heap.size) (h2:B2≤w.heap.size):Calls Tryd.prog 15 #[va,vb] w fun e w'=>e=.returned (.bool (decide (a=b)))∧Below w.heap.size w w':=by
 obtain ⟨aa,da,hva⟩:=sl_form R1
 obtain ⟨ab,db,hvb⟩:=sl_form R2
 subst hva hvb
 have HR1:=hide (show ∀ W:World,Below w.heap.size w W→SlAt 1 IntP B1 W (.slice aa a.length da) a from fun W h=>ints_keep (Nat.le_refl _) (fun j hj=>h.block j (by omega)) R1)
 have HR2:=hide (show ∀ W:World,Below w.heap.size w W→SlAt 1 IntP B2 W (.slice ab b.length db) b from fun W h=>ints_keep (Nat.le_refl _) (fun j hj=>h.block j (by omega)) R2)
 have HLL:=hide (il_len R1)
 clear R1 R2
 by_cases hl:a.length=b.length
 · have hq:((a.length:Int) != (b.length:Int))=false:=by simp;omega
   have HLE:=hide hl
   rw [← hl] at HR2 hq ⊢
   obtain ⟨L,hL⟩ : ∃ L,a.length=L:=⟨_,rfl⟩
   rw [hL] at HR1 HR2 hq ⊢
   have HL:=hide hL
   clear hl hL
   go_enter Tryd.func15,Tryd.ntmps15
   go_wp2_with fail
   go_loopw [5] (fun i wr=>SiR a b w i wr) (fun i _=>L - (intOf i).toNat)
   case atStart=>exact ⟨0,rfl,Nat.zero_le _,fun k hk=>by omega,Below.refl _ _⟩
   case round =>
    obtain ⟨j,rfl,hj,hall,hb⟩:=hrel
    have HBR:=hide hb
    have HAL:=hide hall
    rw [HL.out] at hj
    clear hb hall
    by_cases hlt:j<L
    · obtain ⟨x,hx⟩ : ∃ x,a[j]?=some x:=⟨a[j]'(by rw [HL.out];exact hlt),by simp⟩
      obtain ⟨y,hy⟩ : ∃ y,b[j]?=some y:=⟨b[j]'(by rw [← HLE.out,HL.out];exact hlt),by simp⟩
      obtain ⟨g,o,c,hv,hg,hc,_,_⟩:=il_at (by have:=HR1.out wr HBR.out;rw [← HL.out] at this;exact this) hx
      cases hv
      obtain ⟨g',o',c',hv',hg',hc',_,_⟩:=il_at (by have:=HR2.out wr HBR.out;rw [← HL.out,HLE.out] at this;exact this) hy
      cases hv'
      have hgw:g<wr.heap.size:=Nat.lt_of_lt_of_le hg (Nat.le_trans h1 HBR.out.size)
      have hgw' : g' < wr.heap.size:=Nat.lt_of_lt_of_le hg' (Nat.le_trans h2 HBR.out.size)
      have dd1:decide (j<L)=true:=by simpa using hlt
      have dd3:(j:Int)≤9223372036854775807:=by have:=HLL.out;rw [HL.out] at this;omega
      have HX:=hide hx
      have HY:=hide hy
      clear hx hy
      go_upto_region 6 with (fail)
      refine wp_region_held_drew (S:=(fun W:World=>W=wr.drew∧W.cell? ⟨g,o+j,none⟩=some (.int .i64 x)∧W.cell? ⟨g',o' + j,none⟩=some (.int .i64 y))) (by kernel_rfl) ⟨rfl,hc,hc'⟩ (fun hHeld10=>?_)
      refine tk 0 oRb8 ?v11 ?h11 ?_
      case h11=>(intro W h;(try dsimp only at h);go_simp;try with_reducible rfl)
      try simp only [sp]
      refine tk 1 oRb9 ?v12 ?h12 ?_
      case h12=>(intro W h;(try dsimp only at h);go_simp;try with_reducible rfl)
      try simp only [sp]
      refine tk 2 oRb10 ?v13 ?h13 ?_
      case h13=>(intro W h;(try dsimp only at h);go_simp;try with_reducible rfl)
      try simp only [sp]
      refine tk 3 oRb11 ?v14 ?h14 ?_
      case h14=>(intro W h;(try dsimp only at h);go_simp;try with_reducible rfl)
      try simp only [sp]
      refine tk 4 oRb12 ?v15 ?h15 ?_
      case h15=>(intro W h;(try dsimp only at h);go_simp;try with_reducible rfl)
      try simp only [sp]
      refine tk 5 oRb13 ?v16 ?h16 ?_
      case h16=>(intro W h;(try dsimp only at h);go_simp;try with_reducible rfl)
      try simp only [sp]
      refine tk 6 oRb14 ?v17 ?h17 ?_
      case h17=>(intro W h;(try dsimp only at h);go_simp;try with_reducible rfl)
      try simp only [sp]
      refine tk 7 oRb15 ?v18 ?h18 ?_
      case h18=>(intro W h;(try dsimp only at h);go_simp;try with_reducible rfl)
      try simp only [sp]
      refine tk 8 oRb16 ?v19 ?h19 ?_
      case h19=>(intro W h;(try dsimp only at h);go_simp;try with_reducible rfl)
      try simp only [sp]
      refine wpAnyH_done (by kernel_rfl) ?_ _
      by_cases hxy:x=y
      · have HN:=hide (show ∀ k,k<j+1→a[k]?=b[k]? from fun k hk=>by
         rcases Nat.lt_or_ge k j with h | h
         · exact HAL.out k h
         · obtain rfl:k=j:=by omega
           rw [HX.out,HY.out,hxy])
        have dd2:(x != y)=false:=by simpa using hxy
        clear hxy
        go_wp2
        go_roundw
        case rel=>exact ⟨j+1,by first | exact num_next hlt (by have:=HLL.out;rw [HL.out] at this;exact this) | go_num,by rw [HL.out];exact hlt,HN.out,below_drew HBR.out⟩
        case measure=>first | exact meas_int hlt (by have:=HLL.out;rw [HL.out] at this;exact this) | (rw [intOf_int,intOf_int];omega)
      · have HN:=hide (show ¬ a=b from fun h=>by
         have h1:=HX.out
         rw [h,HY.out] at h1
         cases h1
         exact hxy rfl)
        have dd2:(x != y)=true:=by simpa using hxy
        clear hxy
        go_wp2
        go_ret
        exact ⟨by rw [decide_eq_false HN.out];rfl,below_drew HBR.out⟩
    · obtain rfl:L=j:=by omega
      have dd1:decide (L<L)=false:=by simp
      have HE:=hide (show a=b from List.ext_getElem? fun k=>by
       rcases Nat.lt_or_ge k L with h | h
       · exact HAL.out k h
       · rw [List.getElem?_eq_none (by rw [HL.out];exact h),List.getElem?_eq_none (by rw [← HLE.out,HL.out];exact h)])
      go_wp2
      go_ret
      exact ⟨by rw [decide_eq_true HE.out];rfl,HBR.out⟩
 · have hq:((a.length:Int) != (b.length:Int))=true:=by simp;omega
   have HN:=hide (show ¬ a=b from fun h=>hl (by rw [h]))
   generalize a.length=la at *
   generalize b.length=lb at *
   have hq2:(la == lb)=false:=by simpa using hl
   go_enter Tryd.func15,Tryd.ntmps15
   go_wp2
   go_ret
   exact ⟨by rw [decide_eq_false HN.out];rfl,Below.refl _ _⟩
end
end Go.Proofs.YtfkejdocklcpoaaDoor
