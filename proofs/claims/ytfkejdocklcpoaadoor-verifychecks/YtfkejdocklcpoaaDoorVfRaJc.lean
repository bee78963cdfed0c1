/- The document's small functions about kinds. -/
import Derived.Test.YtfkejdocklcpoaaDoorVfAwJc
namespace Go.Proofs.YtfkejdocklcpoaaDoor
open Go.RowKit
def Kd (k:Int):Prop:=0≤k∧k≤2000000
theorem kd_of {n:Nat} {k:Int} (hn:n≤1024) (h:isKB n k=true):Kd k:=by
 rcases kind_in hn h with ⟨h1,h2⟩ | ⟨h1,h2⟩ <;> exact ⟨by omega,by omega⟩
theorem wrapI {x:Int} (h1 : -9223372036854775808≤x) (h2:x≤9223372036854775807):IntKind.i64.wrap x=x:=by
 go_arith
section
variable (w:World)
theorem rin_any (x:Int) (m:Nat):Calls Tryd.prog 26 #[.int .i64 x,.int .i64 m] w fun e w'=>e=.returned (.bool (inB x m))∧w' = w:=by
 have HB:=hide (show inB x m=decide (0≤x∧x<(m:Int)) from rfl)
 by_cases h0:0≤x
 · have d0:decide (0≤x)=true:=by simpa using h0
   have HE:=hide (show inB x m=decide (x<(m:Int)) by rw [HB.out];simp [h0])
   go_enter Tryd.func26,Tryd.ntmps26
   go_wp2
   go_ret
   exact ⟨by rw [HE.out];rfl,rfl⟩
 · have d0:decide (0≤x)=false:=by simpa using h0
   have HE:=hide (show inB x m=false by rw [HB.out];simp [h0])
   go_enter Tryd.func26,Tryd.ntmps26
   go_wp2
   go_ret
   exact ⟨by rw [HE.out];rfl,rfl⟩
theorem rbase_any {k:Int} (h : -1≤k∧k≤2000000):Calls Tryd.prog 61 #[.int .i64 k] w fun e w'=>e=.returned (.int .i64 (bareK k))∧w' = w:=by
 have hw:IntKind.i64.wrap (k - 1048576)=k - 1048576:=wrapI (by omega) (by omega)
 by_cases h0:1048576≤k
 · have d0:decide (1048576≤k)=true:=by simpa using h0
   have HE:=hide (show bareK k=k - 1048576 by unfold bareK;rw [if_pos h0])
   clear h h0
   go_enter Tryd.func61,Tryd.ntmps61
   go_wp2
   go_ret
   exact ⟨by rw [HE.out];rfl,rfl⟩
 · have d0:decide (1048576≤k)=false:=by simpa using h0
   have HE:=hide (show bareK k=k by unfold bareK;rw [if_neg h0])
   clear h h0
   go_enter Tryd.func61,Tryd.ntmps61
   go_wp2
   go_ret
   exact ⟨by rw [HE.out];rfl,rfl⟩
theorem bareK_ge {k:Int} (h : -1≤k∧k≤2000000) : -1≤bareK k∧bareK k≤2000000:=by unfold bareK;split <;> omega
theorem rloc_any {k:Int} (h : -1≤k∧k≤2000000):Calls Tryd.prog 62 #[.int .i64 k] w fun e w'=>e=.returned (.int .i64 (locK k))∧w' = w:=by
 have HC:=hide (rbase_any w h)
 have hw:IntKind.i64.wrap (k - bareK k)=k - bareK k:=wrapI (by unfold bareK;split <;> omega) (by unfold bareK;split <;> omega)
 have HE:=hide (show k - bareK k=locK k by unfold bareK locK;split <;> omega)
 clear h
 generalize bareK k=bk at *
 go_enter Tryd.func62,Tryd.ntmps62
 go_wp2_with (refine HC.out.mono ?_;rintro e w1 ⟨rfl,rfl⟩)
 go_ret
 exact ⟨by rw [HE.out];rfl,rfl⟩
theorem rptr_any {k:Int} (h : -1≤k∧k≤2000000):Calls Tryd.prog 60 #[.int .i64 k] w fun e w'=>e=.returned (.bool (ptrB k))∧w' = w:=by
 have HC:=hide (rbase_any w h)
 have HG:=hide (bareK_ge h)
 have HP:=hide (show ptrB k=decide (2≤bareK k∧bareK k % 2=0) from rfl)
 clear h
 generalize bareK k=bk at *
 by_cases h0:2≤bk
 · have d0:decide (2≤bk)=true:=by simpa using h0
   obtain ⟨m,rfl⟩ : ∃ m:Nat,bk=m:=⟨bk.toNat,by omega⟩
   have HE:=hide (show ptrB k=((m:Int) % 2 == 0) by rw [HP.out,Bool.eq_iff_iff];simp only [decide_eq_true_eq,beq_iff_eq];omega)
   clear h0
   go_enter Tryd.func60,Tryd.ntmps60
   go_wp2_with (refine HC.out.mono ?_;rintro e w1 ⟨rfl,rfl⟩)
   go_ret
   exact ⟨by rw [HE.out];rfl,rfl⟩
 · have d0:decide (2≤bk)=false:=by simpa using h0
   have HE:=hide (show ptrB k=false by rw [HP.out];simp [h0])
   clear h0
   go_enter Tryd.func60,Tryd.ntmps60
   go_wp2_with (refine HC.out.mono ?_;rintro e w1 ⟨rfl,rfl⟩)
   go_ret
   exact ⟨by rw [HE.out];rfl,rfl⟩
theorem rarr_any {k:Int} (h : -1≤k∧k≤2000000):Calls Tryd.prog 59 #[.int .i64 k] w fun e w'=>e=.returned (.bool (arrB k))∧w' = w:=by
 have HC:=hide (rbase_any w h)
 have HG:=hide (bareK_ge h)
 have HP:=hide (show arrB k=decide (2≤bareK k∧bareK k % 2=1) from rfl)
 clear h
 generalize bareK k=bk at *
 by_cases h0:2≤bk
 · have d0:decide (2≤bk)=true:=by simpa using h0
   obtain ⟨m,rfl⟩ : ∃ m:Nat,bk=m:=⟨bk.toNat,by omega⟩
   have HE:=hide (show arrB k=((m:Int) % 2 == 1) by rw [HP.out,Bool.eq_iff_iff];simp only [decide_eq_true_eq,beq_iff_eq];omega)
   clear h0
   go_enter Tryd.func59,Tryd.ntmps59
   go_wp2_with (refine HC.out.mono ?_;rintro e w1 ⟨rfl,rfl⟩)
   go_ret
   exact ⟨by rw [HE.out];rfl,rfl⟩
 · have d0:decide (2≤bk)=false:=by simpa using h0
   have HE:=hide (show arrB k=false by rw [HP.out];simp [h0])
   clear h0
   go_enter Tryd.func59,Tryd.ntmps59
   go_wp2_with (refine HC.out.mono ?_;rintro e w1 ⟨rfl,rfl⟩)
   go_ret
   exact ⟨by rw [HE.out];rfl,rfl⟩
theorem rfits_any {k o:Int} (hk : -1≤k∧k≤2000000):Calls Tryd.prog 43 #[.int .i64 k,.int .i64 o] w fun e w'=>e=.returned (.bool (fitB k o))∧w' = w:=by
 have HF:=hide (show fitB k o=decide (k=o∨k=bareK o) from rfl)
 have hw:IntKind.i64.wrap (k+1048576)=k+1048576:=wrapI (by omega) (by omega)
 by_cases h1:k=o
 · have d1:(k == o)=true:=by simpa using h1
   have HE:=hide (show fitB k o=true by rw [HF.out];simp [h1])
   clear h1 hk
   go_enter Tryd.func43,Tryd.ntmps43
   go_wp2
   go_ret
   exact ⟨by rw [HE.out];rfl,rfl⟩
 · have d1:(k == o)=false:=by simpa using h1
   by_cases h2:1048576≤o
   · have d2:decide (1048576≤o)=true:=by simpa using h2
     have HE:=hide (show fitB k o=(k+1048576 == o) by rw [HF.out];unfold bareK;rw [if_pos h2,Bool.eq_iff_iff];simp;omega)
     clear h1 h2 hk
     go_enter Tryd.func43,Tryd.ntmps43
     go_wp2
     go_ret
     exact ⟨by rw [HE.out];rfl,rfl⟩
   · have d2:decide (1048576≤o)=false:=by simpa using h2
     have HE:=hide (show fitB k o=false by rw [HF.out];unfold bareK;rw [if_neg h2];simpa using h1)
     clear h1 h2 hk
     go_enter Tryd.func43,Tryd.ntmps43
     go_wp2
     go_ret
     exact ⟨by rw [HE.out];rfl,rfl⟩
theorem bne_int {a b:Int} (h:¬ a=b):(a == b)=false:=by simpa using h
end
section
variable {B:Nat} {w:World} {p:Pg} {v1 v2 v3 v4:Value}
set_option maxRecDepth 100000 in
set_option maxHeartbeats 1000000 in
theorem rkind_any (P:PgAt B w v1 v2 v3 v4 p) (hn:p.ty.length≤1024) {k:Int} (hk : -9223372036854775808≤k∧k≤9223372036854775807) (l:Bool):Calls Tryd.prog 41 #[.agg #[v1,v2,v3,v4],.int .i64 k,.bool l] w fun e w'=>e=.returned (.bool (if l then isKB p.ty.length k else freeB p.ty.length k))∧Below w.heap.size w w':=by
 obtain ⟨a1,d1,hv1⟩:=sl_form P.ty
 subst hv1
 clear P
 generalize p.ty.length=n at *
 obtain ⟨W1,hW1⟩ : ∃ W1,w.alloc (.cells #[.slice a1 n d1,v2,v3,v4] 27)=W1:=⟨_,rfl⟩
 have HB:=hide (show Below w.heap.size w W1 by rw [← hW1];exact (Below.refl _ _).alloc (Nat.le_refl _) _)
 have k0:W1.cell? ⟨w.heap.size,0,none⟩=some (.slice a1 n d1):=by rw [← hW1];exact cell_of (heap_new _ _ rfl) rfl
 have w1:IntKind.i64.wrap (2*(n:Int))=2*(n:Int):=wrapI (by omega) (by omega)
 have w2:IntKind.i64.wrap (2+2*(n:Int))=2+2*(n:Int):=wrapI (by omega) (by omega)
 by_cases h:l=true∧1048576≤k
 · obtain ⟨rfl,h2⟩:=h
   have d2:decide (1048576≤k)=true:=by simpa using h2
   have w3:IntKind.i64.wrap (k - 1048576)=k - 1048576:=wrapI (by omega) (by omega)
   have HE:=hide (show isKB n k=decide (2≤k - 1048576∧k - 1048576<2+2*(n:Int)) by unfold isKB bareK;rw [if_pos h2,Bool.eq_iff_iff];simp only [decide_eq_true_eq];omega)
   by_cases h3:2≤k - 1048576
   · have d3:decide (2≤k - 1048576)=true:=by simpa using h3
     have HE2:=hide (show isKB n k=decide (k - 1048576<2+2*(n:Int)) by rw [HE.out];simp [h3])
     clear h2 hk h3
     go_enter Tryd.func41,Tryd.ntmps41
     go_wp2
     go_ret
     exact ⟨by rw [HE2.out];rfl,HB.out⟩
   · have d3:decide (2≤k - 1048576)=false:=by simpa using h3
     have HE2:=hide (show isKB n k=false by rw [HE.out];simp [h3])
     clear h2 hk h3
     go_enter Tryd.func41,Tryd.ntmps41
     go_wp2
     go_ret
     exact ⟨by rw [HE2.out];rfl,HB.out⟩
 · have HE:=hide (show (if l then isKB n k else freeB n k)=decide (0≤k∧k<2+2*(n:Int)) by
    cases l with
    | true =>
     have h2:¬ 1048576≤k:=fun h2=>h ⟨rfl,h2⟩
     rw [if_pos rfl]
     unfold isKB bareK
     rw [if_neg h2,Bool.eq_iff_iff]
     simp only [decide_eq_true_eq]
     omega
    | false =>
     rw [if_neg (by simp)]
     unfold freeB isKB bareK
     rw [Bool.eq_iff_iff]
     simp only [Bool.and_eq_true,decide_eq_true_eq]
     split <;> omega)
   have d2:l=false∨decide (1048576≤k)=false:=by
    cases l with
    | true=>right;simpa using h
    | false=>left;rfl
   clear h
   generalize (if l then isKB n k else freeB n k)=res at *
   by_cases h3:0≤k
   · have d3:decide (0≤k)=true:=by simpa using h3
     have HE2:=hide (show res=decide (k<2+2*(n:Int)) by rw [HE.out];simp [h3])
     clear hk h3
     rcases d2 with rfl | d2
     · go_enter Tryd.func41,Tryd.ntmps41
       go_wp2
       go_ret
       exact ⟨by rw [HE2.out];rfl,HB.out⟩
     · cases l with
       | true =>
        go_enter Tryd.func41,Tryd.ntmps41
        go_wp2
        go_ret
        exact ⟨by rw [HE2.out];rfl,HB.out⟩
       | false =>
        go_enter Tryd.func41,Tryd.ntmps41
        go_wp2
        go_ret
        exact ⟨by rw [HE2.out];rfl,HB.out⟩
   · have d3:decide (0≤k)=false:=by simpa using h3
     have HE2:=hide (show res=false by rw [HE.out];simp [h3])
     clear hk h3
     rcases d2 with rfl | d2
     · go_enter Tryd.func41,Tryd.ntmps41
       go_wp2
       go_ret
       exact ⟨by rw [HE2.out];rfl,HB.out⟩
     · cases l with
       | true =>
        go_enter Tryd.func41,Tryd.ntmps41
        go_wp2
        go_ret
        exact ⟨by rw [HE2.out];rfl,HB.out⟩
       | false =>
        go_enter Tryd.func41,Tryd.ntmps41
        go_wp2
        go_ret
        exact ⟨by rw [HE2.out];rfl,HB.out⟩
set_option maxRecDepth 100000 in
set_option maxHeartbeats 1000000 in
theorem rsingle_any (P:PgAt B w v1 v2 v3 v4 p) (hB:B≤w.heap.size) (t k:Int):Calls Tryd.prog 42 #[.agg #[v1,v2,v3,v4],.int .i64 t,.int .i64 k] w fun e w'=>e=.returned (.bool (inB t p.ty.length && onlyB p t k))∧Below w.heap.size w w':=by
 obtain ⟨a1,d1,hv1⟩:=sl_form P.ty
 subst hv1
 obtain ⟨W1,hW1⟩ : ∃ W1,w.alloc (.cells #[.slice a1 p.ty.length d1,v2,v3,v4] 27)=W1:=⟨_,rfl⟩
 have b1:Below w.heap.size w W1:=by rw [← hW1];exact (Below.refl _ _).alloc (Nat.le_refl _) _
 have k0:W1.cell? ⟨w.heap.size,0,none⟩=some (.slice a1 p.ty.length d1):=by rw [← hW1];exact cell_of (heap_new _ _ rfl) rfl
 have P1:=P.keep (Nat.le_refl _) (fun j hj=>b1.block j (Nat.lt_of_lt_of_le hj hB))
 have HB:=hide b1
 have HI:=hide (rin_any W1 t p.ty.length)
 have hBW:B≤W1.heap.size:=Nat.le_trans hB b1.size
 have hl0:w.heap.size<W1.heap.size:=by rw [← hW1];simp
 clear P b1
 cases hin:inB t p.ty.length with
 | false =>
  rw [hin] at HI
  clear P1
  go_enter Tryd.func42,Tryd.ntmps42
  go_wp2_with fail
  refine HI.out.mono ?_
  rintro e w2 ⟨rfl,rfl⟩
  go_wp2_with fail
  go_ret
  exact ⟨rfl,HB.out⟩
 | true =>
  rw [hin] at HI
  obtain ⟨m,rfl,hm⟩:=in_nat hin
  obtain ⟨l,hl⟩ : ∃ l,p.ty[m]?=some l:=⟨p.ty[m],by simp⟩
  obtain ⟨g,o,c,nn,u,hv,hnn,hlt,hg,hc,hsl⟩:=lst_at P1.ty hl
  cases hv
  obtain ⟨ua,uc,rfl⟩:=sl_form hsl
  have hgw:g<W1.heap.size:=Nat.lt_of_lt_of_le hg hBW
  have dd1:decide (m<p.ty.length)=true:=by simpa using hm
  have HO:=hide (show onlyB p (m:Int) k=decide (l=[k]) by unfold onlyB;rw [Int.toNat_natCast,hl];simp)
  rw [Bool.true_and]
  generalize onlyB p (m:Int) k=on at *
  by_cases h1:l.length=1
  · obtain ⟨x,rfl⟩ : ∃ x,l=[x]:=by
     match l,h1 with
     | [x],_=>exact ⟨x,rfl⟩
    obtain ⟨_,_,hvv,_,hel⟩:=hsl
    cases hvv
    obtain ⟨g2,o2,hu,hg2,hcx,_⟩:=ints_at hel (j:=0) (x:=x) rfl
    subst hu
    rw [Nat.add_zero] at hcx
    have hg2w:g2<W1.heap.size:=Nat.lt_of_lt_of_le hg2 hBW
    have HE:=hide (show on=(x == k) by rw [HO.out,Bool.eq_iff_iff];simp)
    clear hnn hl hel P1 hlt hin
    go_enter Tryd.func42,Tryd.ntmps42
    go_wp2_with fail
    refine HI.out.mono ?_
    rintro e w2 ⟨rfl,rfl⟩
    go_wp2_with fail
    go_ret
    exact ⟨by rw [HE.out];rfl,HB.out⟩
  · have dd2:(l.length == 1)=false:=by simpa using h1
    have dd3:((l.length:Int) == 1)=false:=by simp;omega
    have HE:=hide (show on=false by rw [HO.out];simp;rintro rfl;exact h1 rfl)
    clear hnn hl hsl P1 hlt hin
    generalize l.length=ln at *
    go_enter Tryd.func42,Tryd.ntmps42
    go_wp2_with fail
    refine HI.out.mono ?_
    rintro e w2 ⟨rfl,rfl⟩
    go_wp2_with fail
    go_ret
    exact ⟨by rw [HE.out];rfl,HB.out⟩
end
end Go.Proofs.YtfkejdocklcpoaaDoor
