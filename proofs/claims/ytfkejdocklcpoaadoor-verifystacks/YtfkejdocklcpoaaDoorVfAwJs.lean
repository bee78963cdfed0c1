/- awake: the simplest facts. -/
import Derived.Test.YtfkejdocklcpoaaDoorVfCmJs
namespace Go.Proofs.YtfkejdocklcpoaaDoor
open Go.RowKit
def awF:Fd:=⟨0,[],[],[],[⟨1,5,0⟩,⟨25,0,0⟩,⟨28,0,0⟩]⟩
def awP:Pg:=⟨[],[awF],[],[]⟩
theorem aw_check:checkP awP=(0,0,0):=by decide +kernel
theorem aw_size:(match followP awP awF with | .ok F=>szP awP awF F | .error _=>0)=1:=by decide +kernel
theorem sl_nil {α:Type} {k:Nat} {P:World→List Value→α→Prop} {B:Nat} {w:World}:SlAt k P B w (.slice none 0 0) ([]:List α):=⟨none,0,rfl,⟨by simp,by simp,by unfold maxLen;omega⟩,fun j x hx=>by simp at hx⟩
section
variable {w:World}
theorem aw_pg {W:World} {b0 b1:Nat} (h0:W.heap[b0]?=some (.cells #[.int .i64 1,.int .i64 5,.int .i64 0,.int .i64 25,.int .i64 0,.int .i64 0,.int .i64 28,.int .i64 0,.int .i64 0] 50 (0,0))) (h1:W.heap[b1]?=some (.cells #[.int .i64 0,.slice none 0 0,.slice none 0 0,.slice none 0 0,.slice (some ⟨b0,0,none⟩) 3 3] 48 (0,0))):PgAt W.heap.size W (.slice none 0 0) (.slice (some ⟨b1,0,none⟩) 1 1) (.slice none 0 0) (.slice none 0 0) awP:=by
 refine ⟨sl_nil,⟨some ⟨b1,0,none⟩,1,rfl,⟨by simp [awP],by simp [awP],by unfold maxLen;omega⟩,fun j x hx=>?_⟩,sl_nil,sl_nil⟩
 match j,hx with
 | 0,hx =>
  cases hx
  refine ⟨b1,0,[.int .i64 0,.slice none 0 0,.slice none 0 0,.slice none 0 0,.slice (some ⟨b0,0,none⟩) 3 3],rfl,lt_of_block h1,fun r u hu=>?_,_,_,_,_,rfl,by simp [awF],sl_nil,sl_nil,sl_nil,⟨some ⟨b0,0,none⟩,3,rfl,⟨by simp [awF],by simp [awF],by unfold maxLen;omega⟩,fun j y hy=>?_⟩⟩
  · rw [Nat.zero_mul,Nat.add_zero,Nat.zero_add]
    exact cell_of h1 (by simpa using hu)
  · match j,hy with
    | 0,hy =>
     cases hy
     refine ⟨b0,0,[.int .i64 1,.int .i64 5,.int .i64 0],rfl,lt_of_block h0,fun r u hu=>?_,rfl,by simp⟩
     match r,hu with
     | 0,hu=>cases hu;exact cell_of h0 rfl
     | 1,hu=>cases hu;exact cell_of h0 rfl
     | 2,hu=>cases hu;exact cell_of h0 rfl
    | 1,hy =>
     cases hy
     refine ⟨b0,0,[.int .i64 25,.int .i64 0,.int .i64 0],rfl,lt_of_block h0,fun r u hu=>?_,rfl,by simp⟩
     match r,hu with
     | 0,hu=>cases hu;exact cell_of h0 rfl
     | 1,hu=>cases hu;exact cell_of h0 rfl
     | 2,hu=>cases hu;exact cell_of h0 rfl
    | 2,hy =>
     cases hy
     refine ⟨b0,0,[.int .i64 28,.int .i64 0,.int .i64 0],rfl,lt_of_block h0,fun r u hu=>?_,rfl,by simp⟩
     match r,hu with
     | 0,hu=>cases hu;exact cell_of h0 rfl
     | 1,hu=>cases hu;exact cell_of h0 rfl
     | 2,hu=>cases hu;exact cell_of h0 rfl
set_option maxRecDepth 100000 in
set_option maxHeartbeats 1000000 in
theorem awake_any (w:World) (hT:Tb w):Calls Tryd.prog 10 #[] w fun e w'=>e=.returned (.bool true)∧Below w.heap.size w w':=by
 have h0:0<w.heap.size:=World.block_lt_of_cell? w ⟨0,0,none⟩ (hT 0 (by decide))
 obtain ⟨W1,hW1⟩ : ∃ W1,((w.alloc (.cells #[.int .i64 1,.int .i64 5,.int .i64 0,.int .i64 25,.int .i64 0,.int .i64 0,.int .i64 28,.int .i64 0,.int .i64 0] 50)).alloc (.cells #[.int .i64 0,.slice none 0 0,.slice none 0 0,.slice none 0 0,.slice (some ⟨w.heap.size,0,none⟩) 3 3] 48)).alloc (.cells #[.slice none 0 0,.slice (some ⟨w.heap.size+1,0,none⟩) 1 1,.slice none 0 0,.slice none 0 0] 27)=W1:=⟨_,rfl⟩
 have b1:Below w.heap.size w W1:=by rw [← hW1];exact (((Below.refl _ _).alloc (Nat.le_refl _) _).alloc (by simp) _).alloc (by simp;omega) _
 have g0:W1.heap[w.heap.size]?=some (.cells #[.int .i64 1,.int .i64 5,.int .i64 0,.int .i64 25,.int .i64 0,.int .i64 0,.int .i64 28,.int .i64 0,.int .i64 0] 50 (0,0)):=by rw [← hW1,Below.heap_alloc _ _ _ (by simp;omega),Below.heap_alloc _ _ _ (by simp)];exact heap_new _ _ rfl
 have g1:W1.heap[w.heap.size+1]?=some (.cells #[.int .i64 0,.slice none 0 0,.slice none 0 0,.slice none 0 0,.slice (some ⟨w.heap.size,0,none⟩) 3 3] 48 (0,0)):=by rw [← hW1,Below.heap_alloc _ _ _ (by simp)];exact heap_new _ _ (by simp)
 have g2:W1.heap[w.heap.size+1+1]?=some (.cells #[.slice none 0 0,.slice (some ⟨w.heap.size+1,0,none⟩) 1 1,.slice none 0 0,.slice none 0 0] 27 (0,0)):=by rw [← hW1];exact heap_new _ _ (by simp)
 have HCK:=hide (check_any (aw_pg g0 g1) (Nat.le_refl _) (hT.keep (b1.block 0 h0)) (Nat.lt_of_lt_of_le h0 b1.size))
 have HSZ:=hide (show ∀ W:World,Below W1.heap.size W1 W→Calls Tryd.prog 12 #[.agg #[.slice none 0 0,.slice (some ⟨w.heap.size+1,0,none⟩) 1 1,.slice none 0 0,.slice none 0 0],.int .i64 0] W fun e w'=>e=.returned (.tuple #[.int .i64 1,.int .i64 0])∧Below W.heap.size W w' from fun W h=>by
  have hb:=bel_tr b1 h
  refine (size_any (aw_pg ((h.block _ (lt_of_block g0)).trans g0) ((h.block _ (lt_of_block g1)).trans g1)) (Nat.le_refl _) (hT.keep (hb.block 0 h0)) (Nat.lt_of_lt_of_le h0 hb.size) 0).mono ?_
  rintro e w' ⟨hb2,(⟨hc,_⟩ | ⟨_,hi,_⟩ | ⟨k,f,F,_,hk,hf,hF,rfl⟩)⟩
  · rw [aw_check] at hc
    exact absurd rfl hc
  · cases hi
  · have hk0:k=0:=by omega
    subst hk0
    cases hf
    have hs:=aw_size
    rw [hF] at hs
    have hs2:szP awP awF F=1:=hs
    rw [hs2]
    exact ⟨rfl,hb2⟩)
 unfold CkO at HCK
 rw [aw_check] at HCK
 have HB1:=hide b1
 have HBX:=hide (show ∀ W:World,Below W1.heap.size W1 W→W.cell? ⟨w.heap.size+1+1,0,none⟩=some (.slice none 0 0)∧W.cell? ⟨w.heap.size+1+1,1,none⟩=some (.slice (some ⟨w.heap.size+1,0,none⟩) 1 1)∧W.cell? ⟨w.heap.size+1+1,2,none⟩=some (.slice none 0 0)∧W.cell? ⟨w.heap.size+1+1,3,none⟩=some (.slice none 0 0)∧w.heap.size+1+1<W.heap.size from fun W h=>by
  have h1:=(h.block _ (lt_of_block g2)).trans g2
  exact ⟨cell_of h1 rfl,cell_of h1 rfl,cell_of h1 rfl,cell_of h1 rfl,lt_of_block h1⟩)
 obtain ⟨k0,k1,k2,k3,k4⟩:=HBX.out W1 (Below.refl _ _)
 clear b1 g0 g1 g2 hT h0
 have HW1:=hide hW1
 clear hW1
 go_enter Tryd.func10,Tryd.ntmps10
 go_upto_region 2 with (fail)
 rw [HW1.out]
 go_wp2_with fail
 refine HCK.out.mono ?_
 rintro e w2 ⟨rfl,hb2⟩
 have HB2:=hide hb2
 clear hb2 k0 k1 k2 k3 k4
 obtain ⟨k0,k1,k2,k3,k4⟩:=HBX.out w2 HB2.out
 go_wp2_with fail
 refine (HSZ.out w2 HB2.out).mono ?_
 rintro e w3 ⟨rfl,hb3⟩
 have HB3:=hide (bel_tr HB1.out (bel_tr HB2.out hb3))
 clear hb3 k0 k1 k2 k3 k4
 go_wp2
 go_ret
 exact ⟨rfl,HB3.out⟩
end
end Go.Proofs.YtfkejdocklcpoaaDoor

namespace Go.Proofs.YtfkejdocklcpoaaDoor
section
variable {p q:Pg} {f g:Fd} {i:In3}
end
end Go.Proofs.YtfkejdocklcpoaaDoor

namespace Go.Proofs.YtfkejdocklcpoaaDoor
section
variable {p:Pg}
end
end Go.Proofs.YtfkejdocklcpoaaDoor

namespace Go.Proofs.YtfkejdocklcpoaaDoor
set_option maxRecDepth 100000
set_option maxHeartbeats 1000000
open Go.RowKit
def Kd (k:Int):Prop:=0≤k∧k≤2000000
theorem kd_of {n:Nat} {k:Int} (hn:n≤1024) (h:isKB n k=true):Kd k:=by
 rcases kind_in hn h with ⟨h1,h2⟩ | ⟨h1,h2⟩ <;> exact ⟨by omega,by omega⟩
theorem wrapI {x:Int} (h1 : -9223372036854775808≤x) (h2:x≤9223372036854775807):IntKind.i64.wrap x=x:=by
 go_arith
section
variable (w:World)
theorem rin_any (x:Int) (m:Nat):Calls Tryd.prog 26 #[.int .i64 x,.int .i64 m] w fun e w'=>e=.returned (.bool (inB x m))∧w' = w:=by
 have HB:=hide (show inB x m=decide (0≤x∧x<(m:Int)) from rfl)
 by_cases h0:0≤x
 · have d0:decide (0≤x)=true:=by simpa using h0
   have HE:=hide (show inB x m=decide (x<(m:Int)) by rw [HB.out];simp [h0])
   go_enter Tryd.func26,Tryd.ntmps26
   go_wp2
   go_ret
   exact ⟨by rw [HE.out];rfl,rfl⟩
 · have d0:decide (0≤x)=false:=by simpa using h0
   have HE:=hide (show inB x m=false by rw [HB.out];simp [h0])
   go_enter Tryd.func26,Tryd.ntmps26
   go_wp2
   go_ret
   exact ⟨by rw [HE.out];rfl,rfl⟩
theorem rbase_any {k:Int} (h : -1≤k∧k≤2000000):Calls Tryd.prog 61 #[.int .i64 k] w fun e w'=>e=.returned (.int .i64 (bareK k))∧w' = w:=by
 have hw:IntKind.i64.wrap (k - 1048576)=k - 1048576:=wrapI (by omega) (by omega)
 by_cases h0:1048576≤k
 · have d0:decide (1048576≤k)=true:=by simpa using h0
   have HE:=hide (show bareK k=k - 1048576 by unfold bareK;rw [if_pos h0])
   clear h h0
   go_enter Tryd.func61,Tryd.ntmps61
   go_wp2
   go_ret
   exact ⟨by rw [HE.out];rfl,rfl⟩
 · have d0:decide (1048576≤k)=false:=by simpa using h0
   have HE:=hide (show bareK k=k by unfold bareK;rw [if_neg h0])
   clear h h0
   go_enter Tryd.func61,Tryd.ntmps61
   go_wp2
   go_ret
   exact ⟨by rw [HE.out];rfl,rfl⟩
theorem bareK_ge {k:Int} (h : -1≤k∧k≤2000000) : -1≤bareK k∧bareK k≤2000000:=by unfold bareK;split <;> omega
theorem rloc_any {k:Int} (h : -1≤k∧k≤2000000):Calls Tryd.prog 62 #[.int .i64 k] w fun e w'=>e=.returned (.int .i64 (locK k))∧w' = w:=by
 have HC:=hide (rbase_any w h)
 have hw:IntKind.i64.wrap (k - bareK k)=k - bareK k:=wrapI (by unfold bareK;split <;> omega) (by unfold bareK;split <;> omega)
 have HE:=hide (show k - bareK k=locK k by unfold bareK locK;split <;> omega)
 clear h
 generalize bareK k=bk at *
 go_enter Tryd.func62,Tryd.ntmps62
 go_wp2_with (refine HC.out.mono ?_;rintro e w1 ⟨rfl,rfl⟩)
 go_ret
 exact ⟨by rw [HE.out];rfl,rfl⟩
theorem rptr_any {k:Int} (h : -1≤k∧k≤2000000):Calls Tryd.prog 60 #[.int .i64 k] w fun e w'=>e=.returned (.bool (ptrB k))∧w' = w:=by
 have HC:=hide (rbase_any w h)
 have HG:=hide (bareK_ge h)
 have HP:=hide (show ptrB k=decide (2≤bareK k∧bareK k % 2=0) from rfl)
 clear h
 generalize bareK k=bk at *
 by_cases h0:2≤bk
 · have d0:decide (2≤bk)=true:=by simpa using h0
   obtain ⟨m,rfl⟩ : ∃ m:Nat,bk=m:=⟨bk.toNat,by omega⟩
   have HE:=hide (show ptrB k=((m:Int) % 2 == 0) by rw [HP.out,Bool.eq_iff_iff];simp only [decide_eq_true_eq,beq_iff_eq];omega)
   clear h0
   go_enter Tryd.func60,Tryd.ntmps60
   go_wp2_with (refine HC.out.mono ?_;rintro e w1 ⟨rfl,rfl⟩)
   go_ret
   exact ⟨by rw [HE.out];rfl,rfl⟩
 · have d0:decide (2≤bk)=false:=by simpa using h0
   have HE:=hide (show ptrB k=false by rw [HP.out];simp [h0])
   clear h0
   go_enter Tryd.func60,Tryd.ntmps60
   go_wp2_with (refine HC.out.mono ?_;rintro e w1 ⟨rfl,rfl⟩)
   go_ret
   exact ⟨by rw [HE.out];rfl,rfl⟩
theorem rarr_any {k:Int} (h : -1≤k∧k≤2000000):Calls Tryd.prog 59 #[.int .i64 k] w fun e w'=>e=.returned (.bool (arrB k))∧w' = w:=by
 have HC:=hide (rbase_any w h)
 have HG:=hide (bareK_ge h)
 have HP:=hide (show arrB k=decide (2≤bareK k∧bareK k % 2=1) from rfl)
 clear h
 generalize bareK k=bk at *
 by_cases h0:2≤bk
 · have d0:decide (2≤bk)=true:=by simpa using h0
   obtain ⟨m,rfl⟩ : ∃ m:Nat,bk=m:=⟨bk.toNat,by omega⟩
   have HE:=hide (show arrB k=((m:Int) % 2 == 1) by rw [HP.out,Bool.eq_iff_iff];simp only [decide_eq_true_eq,beq_iff_eq];omega)
   clear h0
   go_enter Tryd.func59,Tryd.ntmps59
   go_wp2_with (refine HC.out.mono ?_;rintro e w1 ⟨rfl,rfl⟩)
   go_ret
   exact ⟨by rw [HE.out];rfl,rfl⟩
 · have d0:decide (2≤bk)=false:=by simpa using h0
   have HE:=hide (show arrB k=false by rw [HP.out];simp [h0])
   clear h0
   go_enter Tryd.func59,Tryd.ntmps59
   go_wp2_with (refine HC.out.mono ?_;rintro e w1 ⟨rfl,rfl⟩)
   go_ret
   exact ⟨by rw [HE.out];rfl,rfl⟩
theorem rfits_any {k o:Int} (hk : -1≤k∧k≤2000000):Calls Tryd.prog 43 #[.int .i64 k,.int .i64 o] w fun e w'=>e=.returned (.bool (fitB k o))∧w' = w:=by
 have HF:=hide (show fitB k o=decide (k=o∨k=bareK o) from rfl)
 have hw:IntKind.i64.wrap (k+1048576)=k+1048576:=wrapI (by omega) (by omega)
 by_cases h1:k=o
 · have d1:(k == o)=true:=by simpa using h1
   have HE:=hide (show fitB k o=true by rw [HF.out];simp [h1])
   clear h1 hk
   go_enter Tryd.func43,Tryd.ntmps43
   go_wp2
   go_ret
   exact ⟨by rw [HE.out];rfl,rfl⟩
 · have d1:(k == o)=false:=by simpa using h1
   by_cases h2:1048576≤o
   · have d2:decide (1048576≤o)=true:=by simpa using h2
     have HE:=hide (show fitB k o=(k+1048576 == o) by rw [HF.out];unfold bareK;rw [if_pos h2,Bool.eq_iff_iff];simp;omega)
     clear h1 h2 hk
     go_enter Tryd.func43,Tryd.ntmps43
     go_wp2
     go_ret
     exact ⟨by rw [HE.out];rfl,rfl⟩
   · have d2:decide (1048576≤o)=false:=by simpa using h2
     have HE:=hide (show fitB k o=false by rw [HF.out];unfold bareK;rw [if_neg h2];simpa using h1)
     clear h1 h2 hk
     go_enter Tryd.func43,Tryd.ntmps43
     go_wp2
     go_ret
     exact ⟨by rw [HE.out];rfl,rfl⟩
theorem bne_int {a b:Int} (h:¬ a=b):(a == b)=false:=by simpa using h
end
section
variable {B:Nat} {w:World} {p:Pg} {v1 v2 v3 v4:Value}
theorem rkind_any (P:PgAt B w v1 v2 v3 v4 p) (hn:p.ty.length≤1024) {k:Int} (hk : -9223372036854775808≤k∧k≤9223372036854775807) (l:Bool):Calls Tryd.prog 41 #[.agg #[v1,v2,v3,v4],.int .i64 k,.bool l] w fun e w'=>e=.returned (.bool (if l then isKB p.ty.length k else freeB p.ty.length k))∧Below w.heap.size w w':=by
 obtain ⟨a1,d1,hv1⟩:=sl_form P.ty
 subst hv1
 clear P
 generalize p.ty.length=n at *
 obtain ⟨W1,hW1⟩ : ∃ W1,w.alloc (.cells #[.slice a1 n d1,v2,v3,v4] 27)=W1:=⟨_,rfl⟩
 have HB:=hide (show Below w.heap.size w W1 by rw [← hW1];exact (Below.refl _ _).alloc (Nat.le_refl _) _)
 have k0:W1.cell? ⟨w.heap.size,0,none⟩=some (.slice a1 n d1):=by rw [← hW1];exact cell_of (heap_new _ _ rfl) rfl
 have w1:IntKind.i64.wrap (2*(n:Int))=2*(n:Int):=wrapI (by omega) (by omega)
 have w2:IntKind.i64.wrap (2+2*(n:Int))=2+2*(n:Int):=wrapI (by omega) (by omega)
 by_cases h:l=true∧1048576≤k
 · obtain ⟨rfl,h2⟩:=h
   have d2:decide (1048576≤k)=true:=by simpa using h2
   have w3:IntKind.i64.wrap (k - 1048576)=k - 1048576:=wrapI (by omega) (by omega)
   have HE:=hide (show isKB n k=decide (2≤k - 1048576∧k - 1048576<2+2*(n:Int)) by unfold isKB bareK;rw [if_pos h2,Bool.eq_iff_iff];simp only [decide_eq_true_eq];omega)
   by_cases h3:2≤k - 1048576
   · have d3:decide (2≤k - 1048576)=true:=by simpa using h3
     have HE2:=hide (show isKB n k=decide (k - 1048576<2+2*(n:Int)) by rw [HE.out];simp [h3])
     clear h2 hk h3
     go_enter Tryd.func41,Tryd.ntmps41
     go_wp2
     go_ret
     exact ⟨by rw [HE2.out];rfl,HB.out⟩
   · have d3:decide (2≤k - 1048576)=false:=by simpa using h3
     have HE2:=hide (show isKB n k=false by rw [HE.out];simp [h3])
     clear h2 hk h3
     go_enter Tryd.func41,Tryd.ntmps41
     go_wp2
     go_ret
     exact ⟨by rw [HE2.out];rfl,HB.out⟩
 · have HE:=hide (show (if l then isKB n k else freeB n k)=decide (0≤k∧k<2+2*(n:Int)) by
    cases l with
    | true =>
     have h2:¬ 1048576≤k:=fun h2=>h ⟨rfl,h2⟩
     rw [if_pos rfl]
     unfold isKB bareK
     rw [if_neg h2,Bool.eq_iff_iff]
     simp only [decide_eq_true_eq]
     omega
    | false =>
     rw [if_neg (by simp)]
     unfold freeB isKB bareK
     rw [Bool.eq_iff_iff]
     simp only [Bool.and_eq_true,decide_eq_true_eq]
     split <;> omega)
   have d2:l=false∨decide (1048576≤k)=false:=by
    cases l with
    | true=>right;simpa using h
    | false=>left;rfl
   clear h
   generalize (if l then isKB n k else freeB n k)=res at *
   by_cases h3:0≤k
   · have d3:decide (0≤k)=true:=by simpa using h3
     have HE2:=hide (show res=decide (k<2+2*(n:Int)) by rw [HE.out];simp [h3])
     clear hk h3
     rcases d2 with rfl | d2
     · go_enter Tryd.func41,Tryd.ntmps41
       go_wp2
       go_ret
       exact ⟨by rw [HE2.out];rfl,HB.out⟩
     · cases l with
       | true =>
        go_enter Tryd.func41,Tryd.ntmps41
        go_wp2
        go_ret
        exact ⟨by rw [HE2.out];rfl,HB.out⟩
       | false =>
        go_enter Tryd.func41,Tryd.ntmps41
        go_wp2
        go_ret
        exact ⟨by rw [HE2.out];rfl,HB.out⟩
   · have d3:decide (0≤k)=false:=by simpa using h3
     have HE2:=hide (show res=false by rw [HE.out];simp [h3])
     clear hk h3
     rcases d2 with rfl | d2
     · go_enter Tryd.func41,Tryd.ntmps41
       go_wp2
       go_ret
       exact ⟨by rw [HE2.out];rfl,HB.out⟩
     · cases l with
       | true =>
        go_enter Tryd.func41,Tryd.ntmps41
        go_wp2
        go_ret
        exact ⟨by rw [HE2.out];rfl,HB.out⟩
       | false =>
        go_enter Tryd.func41,Tryd.ntmps41
        go_wp2
        go_ret
        exact ⟨by rw [HE2.out];rfl,HB.out⟩
theorem rsingle_any (P:PgAt B w v1 v2 v3 v4 p) (hB:B≤w.heap.size) (t k:Int):Calls Tryd.prog 42 #[.agg #[v1,v2,v3,v4],.int .i64 t,.int .i64 k] w fun e w'=>e=.returned (.bool (inB t p.ty.length && onlyB p t k))∧Below w.heap.size w w':=by
 obtain ⟨a1,d1,hv1⟩:=sl_form P.ty
 subst hv1
 obtain ⟨W1,hW1⟩ : ∃ W1,w.alloc (.cells #[.slice a1 p.ty.length d1,v2,v3,v4] 27)=W1:=⟨_,rfl⟩
 have b1:Below w.heap.size w W1:=by rw [← hW1];exact (Below.refl _ _).alloc (Nat.le_refl _) _
 have k0:W1.cell? ⟨w.heap.size,0,none⟩=some (.slice a1 p.ty.length d1):=by rw [← hW1];exact cell_of (heap_new _ _ rfl) rfl
 have P1:=P.keep (Nat.le_refl _) (fun j hj=>b1.block j (Nat.lt_of_lt_of_le hj hB))
 have HB:=hide b1
 have HI:=hide (rin_any W1 t p.ty.length)
 have hBW:B≤W1.heap.size:=Nat.le_trans hB b1.size
 have hl0:w.heap.size<W1.heap.size:=by rw [← hW1];simp
 clear P b1
 cases hin:inB t p.ty.length with
 | false =>
  rw [hin] at HI
  clear P1
  go_enter Tryd.func42,Tryd.ntmps42
  go_wp2_with fail
  refine HI.out.mono ?_
  rintro e w2 ⟨rfl,rfl⟩
  go_wp2_with fail
  go_ret
  exact ⟨rfl,HB.out⟩
 | true =>
  rw [hin] at HI
  obtain ⟨m,rfl,hm⟩:=in_nat hin
  obtain ⟨l,hl⟩ : ∃ l,p.ty[m]?=some l:=⟨p.ty[m],by simp⟩
  obtain ⟨g,o,c,nn,u,hv,hnn,hlt,hg,hc,hsl⟩:=lst_at P1.ty hl
  cases hv
  obtain ⟨ua,uc,rfl⟩:=sl_form hsl
  have hgw:g<W1.heap.size:=Nat.lt_of_lt_of_le hg hBW
  have dd1:decide (m<p.ty.length)=true:=by simpa using hm
  have HO:=hide (show onlyB p (m:Int) k=decide (l=[k]) by unfold onlyB;rw [Int.toNat_natCast,hl];simp)
  rw [Bool.true_and]
  generalize onlyB p (m:Int) k=on at *
  by_cases h1:l.length=1
  · obtain ⟨x,rfl⟩ : ∃ x,l=[x]:=by
     match l,h1 with
     | [x],_=>exact ⟨x,rfl⟩
    obtain ⟨_,_,hvv,_,hel⟩:=hsl
    cases hvv
    obtain ⟨g2,o2,hu,hg2,hcx,_⟩:=ints_at hel (j:=0) (x:=x) rfl
    subst hu
    rw [Nat.add_zero] at hcx
    have hg2w:g2<W1.heap.size:=Nat.lt_of_lt_of_le hg2 hBW
    have HE:=hide (show on=(x == k) by rw [HO.out,Bool.eq_iff_iff];simp)
    clear hnn hl hel P1 hlt hin
    go_enter Tryd.func42,Tryd.ntmps42
    go_wp2_with fail
    refine HI.out.mono ?_
    rintro e w2 ⟨rfl,rfl⟩
    go_wp2_with fail
    go_ret
    exact ⟨by rw [HE.out];rfl,HB.out⟩
  · have dd2:(l.length == 1)=false:=by simpa using h1
    have dd3:((l.length:Int) == 1)=false:=by simp;omega
    have HE:=hide (show on=false by rw [HO.out];simp;rintro rfl;exact h1 rfl)
    clear hnn hl hsl P1 hlt hin
    generalize l.length=ln at *
    go_enter Tryd.func42,Tryd.ntmps42
    go_wp2_with fail
    refine HI.out.mono ?_
    rintro e w2 ⟨rfl,rfl⟩
    go_wp2_with fail
    go_ret
    exact ⟨by rw [HE.out];rfl,HB.out⟩
end
end Go.Proofs.YtfkejdocklcpoaaDoor

namespace Go.Proofs.YtfkejdocklcpoaaDoor
open Go.RowKit
section
variable {α:Type} {k B:Nat} {P:World→List Value→α→Prop} {w w' : World}
theorem run_nil_cap {t ty e:TypeId} {i:TypeInfo} {C n:Nat} {v:Value} {xs:List Value} (ht:Tryd.prog.underlying t=some (.slice e)) (hi:Tryd.prog.info? e=some i) (hown:w.ownsRow C e k v n xs) (c:Nat):(Builtin.append_ #[t,t] ty #[v,.slice none 0 c]).run Tryd.prog w=.ok v w:=by
 rcases hown.2 with ⟨rfl,rfl⟩ | ⟨g,cap,cur,rfl,_,_,hnc,_⟩
 · simp [Builtin.append_,run_underlying ht,sizeOf,typeInfo,hi,Builtin.lenOf,Builtin.firstCells]
 · simp [Builtin.append_,run_underlying ht,sizeOf,typeInfo,hi,Builtin.lenOf,Builtin.firstCells,hnc,storeCells]
end
section
variable {α:Type} {k bE:Nat}
theorem owns_emp {W:World} {e bE:Nat} (h:W.heap[bE]?=some (.cells #[] e (0,0))):W.ownsRow bE e k (.slice (some ⟨bE,0,none⟩) 0 0) 0 [] :=
  ⟨by simp,.inr ⟨bE,0,#[],rfl,Nat.le_refl _,h,Nat.le_refl _,by decide,by simp,by simp⟩⟩
theorem own_ge {W:World} {C e n:Nat} {v:Value} {xs:List Value} (h:W.ownsRow C e k v n xs):∀ g,v.ownBlock=some g→C≤g∧g<W.heap.size:=by
 intro g hg
 rcases h.2 with ⟨rfl,_⟩ | ⟨g',cap,cur,rfl,h1,h2,_⟩
 · cases hg
 · cases hg
   exact ⟨h1,lt_of_block h2⟩
end
end Go.Proofs.YtfkejdocklcpoaaDoor

namespace Go.Proofs.YtfkejdocklcpoaaDoor
open Go.RowKit
section
variable {W:World} {g T:Nat} {f:Nat × Nat}
end
section
variable {B b:Nat} {W4:World} {v:Value}
end
end Go.Proofs.YtfkejdocklcpoaaDoor

namespace Go.Proofs.YtfkejdocklcpoaaDoor
open Go.RowKit
section
variable {Wb X:World} {B b:Nat} {l:List (List Int)} {fl:Int} {e0:Option Nat} {v5:Option Value} {i1 i2:Option Nat} {v:Value}
theorem al_old (X:World) (o:Obj) {j:Nat} {u:Obj} (h:X.heap[j]?=some u):(X.alloc o).heap[j]?=some u:=by rw [heap_alloc_old _ _ (lt_of_block h)];exact h
end
end Go.Proofs.YtfkejdocklcpoaaDoor

namespace Go.Proofs.YtfkejdocklcpoaaDoor
section
variable {p:Pg} {n:Nat} {f:Fd} {j:List In3}
end
end Go.Proofs.YtfkejdocklcpoaaDoor

namespace Go.Proofs.YtfkejdocklcpoaaDoor
open Go.RowKit
theorem owns_weak {W:World} {C C' e k n:Nat} {v:Value} {xs:List Value} (h:W.ownsRow C e k v n xs) (hC:C'≤C):W.ownsRow C' e k v n xs:=by
 refine ⟨h.1,?_⟩
 rcases h.2 with h | ⟨g,cap,cur,hv,h1,h2⟩
 · exact .inl h
 · exact .inr ⟨g,cap,cur,hv,Nat.le_trans hC h1,h2⟩
section
variable {bE g k B:Nat} {cur:Array Value} {Wq W X:World} {vc:Value} {c:List In3}
end
theorem szO_of {p:Pg} {n:Nat} {w W:World} {e:Ending} {f:Fd} {F:Fl} (h:SzO p (n:Int) w e W) (hc:(checkP p).2.2=0) (hf:p.fu[n]?=some f) (hF:followP p f=.ok F):e=.returned (.tuple #[.int .i64 (szP p f F:Int),.int .i64 0])∧Below w.heap.size w W:=by
 obtain ⟨hb,(⟨h1,_⟩ | ⟨_,h1,_⟩ | ⟨k,f',F',_,hm,hf',hF',he⟩)⟩:=h
 · exact absurd hc h1
 · have:=get_lt hf
   simp [inB] at h1
   omega
 · have:n=k:=by omega
   subst this
   rw [hf] at hf'
   cases hf'
   rw [hF] at hF'
   cases hF'
   exact ⟨he,hb⟩
end Go.Proofs.YtfkejdocklcpoaaDoor
