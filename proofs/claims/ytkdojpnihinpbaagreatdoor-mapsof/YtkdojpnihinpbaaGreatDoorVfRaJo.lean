/- The document's small functions about kinds. -/
import Derived.Test.YtkdojpnihinpbaaGreatDoorVfCnJo
import Derived.Test.YtkdojpnihinpbaaGreatDoorVfHkJo
import Derived.Test.YtkdojpnihinpbaaGreatDoorVfTkJo
namespace Go.Proofs.YtkdojpnihinpbaaGreatDoor
set_option maxRecDepth 100000
set_option maxHeartbeats 1000000
open Go.RowKit
def Kd (k:Int):Prop:=0≤k∧k≤2000000
theorem kd_of {n:Nat} {k:Int} (hn:n≤1024) (h:isKB n k=true):Kd k:=by
 rcases kind_in hn h with ⟨h1,h2⟩ | ⟨h1,h2⟩ <;> exact ⟨by omega,by omega⟩
theorem wrapI {x:Int} (h1 : -9223372036854775808≤x) (h2:x≤9223372036854775807):IntKind.i64.wrap x=x:=by
 go_arith
section
variable (w:World)
theorem rin_any (x:Int) (m:Nat):Calls Tryz.prog 29 #[.int .i64 x,.int .i64 m] w fun e w'=>e=.returned (.bool (inB x m))∧w' = w:=by
 have HB:=hide (show inB x m=decide (0≤x∧x<(m:Int)) from rfl)
 by_cases h0:0≤x
 · have d0:decide (0≤x)=true:=by simpa using h0
   have HE:=hide (show inB x m=decide (x<(m:Int)) by rw [HB.out];simp [h0])
   go_enter Tryz.func29,Tryz.ntmps29
   go_wp2
   go_ret
   exact ⟨by rw [HE.out];rfl,rfl⟩
 · have d0:decide (0≤x)=false:=by simpa using h0
   have HE:=hide (show inB x m=false by rw [HB.out];simp [h0])
   go_enter Tryz.func29,Tryz.ntmps29
   go_wp2
   go_ret
   exact ⟨by rw [HE.out];rfl,rfl⟩
theorem rbase_any {k:Int} (h : -1≤k∧k≤2000000):Calls Tryz.prog 57 #[.int .i64 k] w fun e w'=>e=.returned (.int .i64 (bareK k))∧w' = w:=by
 have hw:IntKind.i64.wrap (k - 1048576)=k - 1048576:=wrapI (by omega) (by omega)
 by_cases h0:1048576≤k
 · have d0:decide (1048576≤k)=true:=by simpa using h0
   have HE:=hide (show bareK k=k - 1048576 by unfold bareK;rw [if_pos h0])
   clear h h0
   go_enter Tryz.func57,Tryz.ntmps57
   go_wp2
   go_ret
   exact ⟨by rw [HE.out];rfl,rfl⟩
 · have d0:decide (1048576≤k)=false:=by simpa using h0
   have HE:=hide (show bareK k=k by unfold bareK;rw [if_neg h0])
   clear h h0
   go_enter Tryz.func57,Tryz.ntmps57
   go_wp2
   go_ret
   exact ⟨by rw [HE.out];rfl,rfl⟩
theorem bareK_ge {k:Int} (h : -1≤k∧k≤2000000) : -1≤bareK k∧bareK k≤2000000:=by unfold bareK;split <;> omega
theorem rloc_any {k:Int} (h : -1≤k∧k≤2000000):Calls Tryz.prog 58 #[.int .i64 k] w fun e w'=>e=.returned (.int .i64 (locK k))∧w' = w:=by
 have HC:=hide (rbase_any w h)
 have hw:IntKind.i64.wrap (k - bareK k)=k - bareK k:=wrapI (by unfold bareK;split <;> omega) (by unfold bareK;split <;> omega)
 have HE:=hide (show k - bareK k=locK k by unfold bareK locK;split <;> omega)
 clear h
 generalize bareK k=bk at *
 go_enter Tryz.func58,Tryz.ntmps58
 go_wp2_with (refine HC.out.mono ?_;rintro e w1 ⟨rfl,rfl⟩)
 go_ret
 exact ⟨by rw [HE.out];rfl,rfl⟩
theorem rptr_any {k:Int} (h : -1≤k∧k≤2000000):Calls Tryz.prog 56 #[.int .i64 k] w fun e w'=>e=.returned (.bool (ptrB k))∧w' = w:=by
 have HC:=hide (rbase_any w h)
 have HG:=hide (bareK_ge h)
 have HP:=hide (show ptrB k=decide (2≤bareK k∧bareK k % 2=0) from rfl)
 clear h
 generalize bareK k=bk at *
 by_cases h0:2≤bk
 · have d0:decide (2≤bk)=true:=by simpa using h0
   obtain ⟨m,rfl⟩ : ∃ m:Nat,bk=m:=⟨bk.toNat,by omega⟩
   have HE:=hide (show ptrB k=((m:Int) % 2 == 0) by rw [HP.out,Bool.eq_iff_iff];simp only [decide_eq_true_eq,beq_iff_eq];omega)
   clear h0
   go_enter Tryz.func56,Tryz.ntmps56
   go_wp2_with (refine HC.out.mono ?_;rintro e w1 ⟨rfl,rfl⟩)
   go_ret
   exact ⟨by rw [HE.out];rfl,rfl⟩
 · have d0:decide (2≤bk)=false:=by simpa using h0
   have HE:=hide (show ptrB k=false by rw [HP.out];simp [h0])
   clear h0
   go_enter Tryz.func56,Tryz.ntmps56
   go_wp2_with (refine HC.out.mono ?_;rintro e w1 ⟨rfl,rfl⟩)
   go_ret
   exact ⟨by rw [HE.out];rfl,rfl⟩
theorem rarr_any {k:Int} (h : -1≤k∧k≤2000000):Calls Tryz.prog 55 #[.int .i64 k] w fun e w'=>e=.returned (.bool (arrB k))∧w' = w:=by
 have HC:=hide (rbase_any w h)
 have HG:=hide (bareK_ge h)
 have HP:=hide (show arrB k=decide (2≤bareK k∧bareK k % 2=1) from rfl)
 clear h
 generalize bareK k=bk at *
 by_cases h0:2≤bk
 · have d0:decide (2≤bk)=true:=by simpa using h0
   obtain ⟨m,rfl⟩ : ∃ m:Nat,bk=m:=⟨bk.toNat,by omega⟩
   have HE:=hide (show arrB k=((m:Int) % 2 == 1) by rw [HP.out,Bool.eq_iff_iff];simp only [decide_eq_true_eq,beq_iff_eq];omega)
   clear h0
   go_enter Tryz.func55,Tryz.ntmps55
   go_wp2_with (refine HC.out.mono ?_;rintro e w1 ⟨rfl,rfl⟩)
   go_ret
   exact ⟨by rw [HE.out];rfl,rfl⟩
 · have d0:decide (2≤bk)=false:=by simpa using h0
   have HE:=hide (show arrB k=false by rw [HP.out];simp [h0])
   clear h0
   go_enter Tryz.func55,Tryz.ntmps55
   go_wp2_with (refine HC.out.mono ?_;rintro e w1 ⟨rfl,rfl⟩)
   go_ret
   exact ⟨by rw [HE.out];rfl,rfl⟩
theorem rfits_any {k o:Int} (hk : -1≤k∧k≤2000000):Calls Tryz.prog 44 #[.int .i64 k,.int .i64 o] w fun e w'=>e=.returned (.bool (fitB k o))∧w' = w:=by
 have HF:=hide (show fitB k o=decide (k=o∨k=bareK o) from rfl)
 have hw:IntKind.i64.wrap (k+1048576)=k+1048576:=wrapI (by omega) (by omega)
 by_cases h1:k=o
 · have d1:(k == o)=true:=by simpa using h1
   have HE:=hide (show fitB k o=true by rw [HF.out];simp [h1])
   clear h1 hk
   go_enter Tryz.func44,Tryz.ntmps44
   go_wp2
   go_ret
   exact ⟨by rw [HE.out];rfl,rfl⟩
 · have d1:(k == o)=false:=by simpa using h1
   by_cases h2:1048576≤o
   · have d2:decide (1048576≤o)=true:=by simpa using h2
     have HE:=hide (show fitB k o=(k+1048576 == o) by rw [HF.out];unfold bareK;rw [if_pos h2,Bool.eq_iff_iff];simp;omega)
     clear h1 h2 hk
     go_enter Tryz.func44,Tryz.ntmps44
     go_wp2
     go_ret
     exact ⟨by rw [HE.out];rfl,rfl⟩
   · have d2:decide (1048576≤o)=false:=by simpa using h2
     have HE:=hide (show fitB k o=false by rw [HF.out];unfold bareK;rw [if_neg h2];simpa using h1)
     clear h1 h2 hk
     go_enter Tryz.func44,Tryz.ntmps44
     go_wp2
     go_ret
     exact ⟨by rw [HE.out];rfl,rfl⟩
theorem bne_int {a b:Int} (h:¬ a=b):(a == b)=false:=by simpa using h
end
section
variable {B:Nat} {w:World} {p:Pg} {v1 v2 v3 v4:Value}
theorem rkind_any (P:PgAt B w v1 v2 v3 v4 p) (hn:p.ty.length≤1024) {k:Int} (hk : -9223372036854775808≤k∧k≤9223372036854775807) (l:Bool):Calls Tryz.prog 42 #[.agg #[v1,v2,v3,v4],.int .i64 k,.bool l] w fun e w'=>e=.returned (.bool (if l then isKB p.ty.length k else freeB p.ty.length k))∧Below w.heap.size w w':=by
 obtain ⟨a1,d1,hv1⟩:=sl_form P.ty
 subst hv1
 clear P
 generalize p.ty.length=n at *
 obtain ⟨W1,hW1⟩ : ∃ W1,w.alloc (.cells #[.slice a1 n d1,v2,v3,v4] 27)=W1:=⟨_,rfl⟩
 have HB:=hide (show Below w.heap.size w W1 by rw [← hW1];exact (Below.refl _ _).alloc (Nat.le_refl _) _)
 have k0:W1.cell? ⟨w.heap.size,0,none⟩=some (.slice a1 n d1):=by rw [← hW1];exact cell_of (heap_new _ _ rfl) rfl
 have w1:IntKind.i64.wrap (2*(n:Int))=2*(n:Int):=wrapI (by omega) (by omega)
 have w2:IntKind.i64.wrap (2+2*(n:Int))=2+2*(n:Int):=wrapI (by omega) (by omega)
 by_cases h:l=true∧1048576≤k
 · obtain ⟨rfl,h2⟩:=h
   have d2:decide (1048576≤k)=true:=by simpa using h2
   have w3:IntKind.i64.wrap (k - 1048576)=k - 1048576:=wrapI (by omega) (by omega)
   have HE:=hide (show isKB n k=decide (2≤k - 1048576∧k - 1048576<2+2*(n:Int)) by unfold isKB bareK;rw [if_pos h2,Bool.eq_iff_iff];simp only [decide_eq_true_eq];omega)
   by_cases h3:2≤k - 1048576
   · have d3:decide (2≤k - 1048576)=true:=by simpa using h3
     have HE2:=hide (show isKB n k=decide (k - 1048576<2+2*(n:Int)) by rw [HE.out];simp [h3])
     clear h2 hk h3
     go_enter Tryz.func42,Tryz.ntmps42
     go_wp2
     go_ret
     exact ⟨by rw [HE2.out];rfl,HB.out⟩
   · have d3:decide (2≤k - 1048576)=false:=by simpa using h3
     have HE2:=hide (show isKB n k=false by rw [HE.out];simp [h3])
     clear h2 hk h3
     go_enter Tryz.func42,Tryz.ntmps42
     go_wp2
     go_ret
     exact ⟨by rw [HE2.out];rfl,HB.out⟩
 · have HE:=hide (show (if l then isKB n k else freeB n k)=decide (0≤k∧k<2+2*(n:Int)) by
    cases l with
    | true =>
     have h2:¬ 1048576≤k:=fun h2=>h ⟨rfl,h2⟩
     rw [if_pos rfl]
     unfold isKB bareK
     rw [if_neg h2,Bool.eq_iff_iff]
     simp only [decide_eq_true_eq]
     omega
    | false =>
     rw [if_neg (by simp)]
     unfold freeB isKB bareK
     rw [Bool.eq_iff_iff]
     simp only [Bool.and_eq_true,decide_eq_true_eq]
     split <;> omega)
   have d2:l=false∨decide (1048576≤k)=false:=by
    cases l with
    | true=>right;simpa using h
    | false=>left;rfl
   clear h
   generalize (if l then isKB n k else freeB n k)=res at *
   by_cases h3:0≤k
   · have d3:decide (0≤k)=true:=by simpa using h3
     have HE2:=hide (show res=decide (k<2+2*(n:Int)) by rw [HE.out];simp [h3])
     clear hk h3
     rcases d2 with rfl | d2
     · go_enter Tryz.func42,Tryz.ntmps42
       go_wp2
       go_ret
       exact ⟨by rw [HE2.out];rfl,HB.out⟩
     · cases l with
       | true =>
        go_enter Tryz.func42,Tryz.ntmps42
        go_wp2
        go_ret
        exact ⟨by rw [HE2.out];rfl,HB.out⟩
       | false =>
        go_enter Tryz.func42,Tryz.ntmps42
        go_wp2
        go_ret
        exact ⟨by rw [HE2.out];rfl,HB.out⟩
   · have d3:decide (0≤k)=false:=by simpa using h3
     have HE2:=hide (show res=false by rw [HE.out];simp [h3])
     clear hk h3
     rcases d2 with rfl | d2
     · go_enter Tryz.func42,Tryz.ntmps42
       go_wp2
       go_ret
       exact ⟨by rw [HE2.out];rfl,HB.out⟩
     · cases l with
       | true =>
        go_enter Tryz.func42,Tryz.ntmps42
        go_wp2
        go_ret
        exact ⟨by rw [HE2.out];rfl,HB.out⟩
       | false =>
        go_enter Tryz.func42,Tryz.ntmps42
        go_wp2
        go_ret
        exact ⟨by rw [HE2.out];rfl,HB.out⟩
theorem rsingle_any (P:PgAt B w v1 v2 v3 v4 p) (hB:B≤w.heap.size) (t k:Int):Calls Tryz.prog 43 #[.agg #[v1,v2,v3,v4],.int .i64 t,.int .i64 k] w fun e w'=>e=.returned (.bool (inB t p.ty.length && onlyB p t k))∧Below w.heap.size w w':=by
 obtain ⟨a1,d1,hv1⟩:=sl_form P.ty
 subst hv1
 obtain ⟨W1,hW1⟩ : ∃ W1,w.alloc (.cells #[.slice a1 p.ty.length d1,v2,v3,v4] 27)=W1:=⟨_,rfl⟩
 have b1:Below w.heap.size w W1:=by rw [← hW1];exact (Below.refl _ _).alloc (Nat.le_refl _) _
 have k0:W1.cell? ⟨w.heap.size,0,none⟩=some (.slice a1 p.ty.length d1):=by rw [← hW1];exact cell_of (heap_new _ _ rfl) rfl
 have P1:=P.keep (Nat.le_refl _) (fun j hj=>b1.block j (Nat.lt_of_lt_of_le hj hB))
 have HB:=hide b1
 have HI:=hide (rin_any W1 t p.ty.length)
 have hBW:B≤W1.heap.size:=Nat.le_trans hB b1.size
 have hl0:w.heap.size<W1.heap.size:=by rw [← hW1];simp
 clear P b1
 cases hin:inB t p.ty.length with
 | false =>
  rw [hin] at HI
  clear P1
  go_enter Tryz.func43,Tryz.ntmps43
  go_wp2_with fail
  refine HI.out.mono ?_
  rintro e w2 ⟨rfl,rfl⟩
  go_wp2_with fail
  go_ret
  exact ⟨rfl,HB.out⟩
 | true =>
  rw [hin] at HI
  obtain ⟨m,rfl,hm⟩:=in_nat hin
  obtain ⟨l,hl⟩ : ∃ l,p.ty[m]?=some l:=⟨p.ty[m],by simp⟩
  obtain ⟨g,o,c,nn,u,hv,hnn,hlt,hg,hc,hsl⟩:=lst_at P1.ty hl
  cases hv
  obtain ⟨ua,uc,rfl⟩:=sl_form hsl
  have hgw:g<W1.heap.size:=Nat.lt_of_lt_of_le hg hBW
  have dd1:decide (m<p.ty.length)=true:=by simpa using hm
  have HO:=hide (show onlyB p (m:Int) k=decide (l=[k]) by unfold onlyB;rw [Int.toNat_natCast,hl];simp)
  rw [Bool.true_and]
  generalize onlyB p (m:Int) k=on at *
  by_cases h1:l.length=1
  · obtain ⟨x,rfl⟩ : ∃ x,l=[x]:=by
     match l,h1 with
     | [x],_=>exact ⟨x,rfl⟩
    obtain ⟨_,_,hvv,_,hel⟩:=hsl
    cases hvv
    obtain ⟨g2,o2,hu,hg2,hcx,_⟩:=ints_at hel (j:=0) (x:=x) rfl
    subst hu
    rw [Nat.add_zero] at hcx
    have hg2w:g2<W1.heap.size:=Nat.lt_of_lt_of_le hg2 hBW
    have HE:=hide (show on=(x == k) by rw [HO.out,Bool.eq_iff_iff];simp)
    clear hnn hl hel P1 hlt hin
    go_enter Tryz.func43,Tryz.ntmps43
    go_wp2_with fail
    refine HI.out.mono ?_
    rintro e w2 ⟨rfl,rfl⟩
    go_wp2_with fail
    go_ret
    exact ⟨by rw [HE.out];rfl,HB.out⟩
  · have dd2:(l.length == 1)=false:=by simpa using h1
    have dd3:((l.length:Int) == 1)=false:=by simp;omega
    have HE:=hide (show on=false by rw [HO.out];simp;rintro rfl;exact h1 rfl)
    clear hnn hl hsl P1 hlt hin
    generalize l.length=ln at *
    go_enter Tryz.func43,Tryz.ntmps43
    go_wp2_with fail
    refine HI.out.mono ?_
    rintro e w2 ⟨rfl,rfl⟩
    go_wp2_with fail
    go_ret
    exact ⟨by rw [HE.out];rfl,HB.out⟩
end
end Go.Proofs.YtkdojpnihinpbaaGreatDoor

namespace Go.Proofs.YtkdojpnihinpbaaGreatDoor
set_option maxRecDepth 100000
set_option maxHeartbeats 1000000
open Go.RowKit
theorem il_at {B:Nat} {w:World} {v:Value} {l:List Int} (R:SlAt 1 IntP B w v l) {j:Nat} {x:Int} (hx:l[j]?=some x):∃ g o c,v=.slice (some ⟨g,o,none⟩) l.length c∧g<B∧w.cell? ⟨g,o+j,none⟩=some (.int .i64 x)∧-9223372036854775808≤x∧x≤9223372036854775807:=by
 obtain ⟨ao,cap,rfl,_,hel⟩:=R
 obtain ⟨g,o,rfl,h1,h2,h3⟩:=ints_at hel hx
 exact ⟨g,o,cap,rfl,h1,h2,h3⟩
theorem il_len {B:Nat} {w:World} {v:Value} {l:List Int} (R:SlAt 1 IntP B w v l):l.length≤9223372036854775807:=by
 obtain ⟨_,_,_,h,_⟩:=R
 exact h.1
def KnR (q:Int→Bool) (l:List Int) (w:World) (a:Value) (wr:World):Prop:=∃ j:Nat,a=.int .i64 j∧j≤l.length∧(l.take j).all q=true∧Below w.heap.size w wr
theorem rall_next {q:Int→Bool} {l:List Int} {j:Nat} {x:Int} (h:l[j]?=some x) (h1:(l.take j).all q=true) (h2:q x=true):(l.take (j+1)).all q=true:=by
 rw [List.take_add_one,h]
 simp only [List.all_append,h1,Bool.true_and]
 simpa using h2
theorem rall_not {q:Int→Bool} {l:List Int} {j:Nat} {x:Int} (h:l[j]?=some x) (h2:q x=false):l.all q=false:=by
 cases hq:l.all q with
 | false=>rfl
 | true =>
  rw [List.all_eq_true] at hq
  rw [hq x (List.mem_of_getElem? h)] at h2
  cases h2
section
variable {B:Nat} {w:World} {p:Pg} {v1 v2 v3 v4:Value}
theorem rkinds_any (P:PgAt B w v1 v2 v3 v4 p) (hB:B≤w.heap.size) (hn:p.ty.length≤1024) {v:Value} {l:List Int} (R:SlAt 1 IntP B w v l) (lc:Bool):Calls Tryz.prog 41 #[.agg #[v1,v2,v3,v4],v,.bool lc] w fun e w'=>e=.returned (.bool (l.all fun k=>if lc then isKB p.ty.length k else freeB p.ty.length k))∧Below w.heap.size w w':=by
 obtain ⟨a1,d1,hv1⟩:=sl_form P.ty
 obtain ⟨a2,d2,hv2⟩:=sl_form P.fu
 obtain ⟨a3,d3,hv3⟩:=sl_form P.ta
 obtain ⟨a4,d4,hv4⟩:=sl_form P.st
 obtain ⟨al,dl,hvl⟩:=sl_form R
 subst hv1 hv2 hv3 hv4 hvl
 obtain ⟨W1,hW1⟩ : ∃ W1,w.alloc (.cells #[.slice a1 p.ty.length d1,.slice a2 p.fu.length d2,.slice a3 p.ta.length d3,.slice a4 p.st.length d4] 27)=W1:=⟨_,rfl⟩
 have b1:Below w.heap.size w W1:=by rw [← hW1];exact (Below.refl _ _).alloc (Nat.le_refl _) _
 have e1:W1.heap[w.heap.size]?=some (.cells #[.slice a1 p.ty.length d1,.slice a2 p.fu.length d2,.slice a3 p.ta.length d3,.slice a4 p.st.length d4] 27 (0,0)):=by rw [← hW1];exact heap_new _ _ rfl
 have HBX:=hide (show ∀ W:World,Below W1.heap.size W1 W→W.cell? ⟨w.heap.size,0,none⟩=some (.slice a1 p.ty.length d1)∧W.cell? ⟨w.heap.size,1,none⟩=some (.slice a2 p.fu.length d2)∧W.cell? ⟨w.heap.size,2,none⟩=some (.slice a3 p.ta.length d3)∧W.cell? ⟨w.heap.size,3,none⟩=some (.slice a4 p.st.length d4) from fun W h=>by
  have h1:=(h.block _ (lt_of_block e1)).trans e1
  exact ⟨cell_of h1 rfl,cell_of h1 rfl,cell_of h1 rfl,cell_of h1 rfl⟩)
 have HPG:=hide (show ∀ W:World,Below W1.heap.size W1 W→PgAt B W (.slice a1 p.ty.length d1) (.slice a2 p.fu.length d2) (.slice a3 p.ta.length d3) (.slice a4 p.st.length d4) p∧B≤W.heap.size∧SlAt 1 IntP B W (.slice al l.length dl) l from fun W h=>⟨P.keep (Nat.le_refl _) (fun j hj=>(bel_tr b1 h).block j (Nat.lt_of_lt_of_le hj hB)),Nat.le_trans hB (bel_tr b1 h).size,ints_keep (Nat.le_refl _) (fun j hj=>(bel_tr b1 h).block j (Nat.lt_of_lt_of_le hj hB)) R⟩)
 have HB1:=hide b1
 have HLL:=hide (il_len R)
 have hl0:=lt_of_block e1
 obtain ⟨q,hq⟩ : ∃ q:Int→Bool,(fun k=>if lc then isKB p.ty.length k else freeB p.ty.length k)=q:=⟨_,rfl⟩
 have HQ:=hide (show ∀ k,(if lc then isKB p.ty.length k else freeB p.ty.length k)=q k from fun k=>by rw [← hq])
 rw [hq]
 obtain ⟨L,hL⟩ : ∃ L,l.length=L:=⟨_,rfl⟩
 rw [hL] at HPG ⊢
 have HL:=hide hL
 clear P R b1 e1 hq hL
 go_enter Tryz.func41,Tryz.ntmps41
 go_wp2_with fail
 go_loopw [7] (fun a wr=>KnR q l W1 a wr) (fun a _=>L - (intOf a).toNat)
 case atStart=>exact ⟨0,rfl,Nat.zero_le _,by simp,Below.refl _ _⟩
 case round =>
  obtain ⟨j,rfl,hj,hall,hb⟩:=hrel
  have HBR:=hide hb
  have HAL:=hide hall
  rw [HL.out] at hj
  clear hb hall
  by_cases hlt:j<L
  · obtain ⟨x,hx⟩ : ∃ x,l[j]?=some x:=⟨l[j]'(by rw [HL.out];exact hlt),by simp⟩
    obtain ⟨P2,hB2,R2⟩:=HPG.out wr HBR.out
    obtain ⟨g,o,c,hv,hg,hc,hx1,hx2⟩:=il_at (by rw [← HL.out] at R2;exact R2) hx
    cases hv
    obtain ⟨k0,k1,k2,k3⟩:=HBX.out wr HBR.out
    have hlw:w.heap.size<wr.heap.size:=Nat.lt_of_lt_of_le hl0 HBR.out.size
    have hgw:g<wr.heap.size:=Nat.lt_of_lt_of_le hg hB2
    have dd1:decide (j<L)=true:=by simpa using hlt
    have dd3:(j:Int)≤9223372036854775807:=by have:=HLL.out;rw [HL.out] at this;omega
    have HKD:=hide (rkind_any ((HPG.out wr.drew (below_drew HBR.out)).1) hn ⟨hx1,hx2⟩ lc)
    rw [HQ.out x] at HKD
    have HX:=hide hx
    have HS:=hide (show ∀ W:World,Below wr.heap.size wr W→(fun W:World=>W.cell? ⟨w.heap.size,0,none⟩=some (.slice a1 p.ty.length d1)∧W.cell? ⟨w.heap.size,1,none⟩=some (.slice a2 p.fu.length d2)∧W.cell? ⟨w.heap.size,2,none⟩=some (.slice a3 p.ta.length d3)∧W.cell? ⟨w.heap.size,3,none⟩=some (.slice a4 p.st.length d4)∧W.cell? ⟨g,o+j,none⟩=some (.int .i64 x)) W from fun W h=>by
     obtain ⟨y0,y1,y2,y3⟩:=HBX.out W (bel_tr HBR.out h)
     exact ⟨y0,y1,y2,y3,(h.cell (p:=⟨g,o+j,none⟩) hgw).trans hc⟩)
    clear P2 R2 hx
    go_upto_region 4 with (fail)
    refine wp_region_held_drew (S:=(fun W:World=>W.cell? ⟨w.heap.size,0,none⟩=some (.slice a1 p.ty.length d1)∧W.cell? ⟨w.heap.size,1,none⟩=some (.slice a2 p.fu.length d2)∧W.cell? ⟨w.heap.size,2,none⟩=some (.slice a3 p.ta.length d3)∧W.cell? ⟨w.heap.size,3,none⟩=some (.slice a4 p.st.length d4)∧W.cell? ⟨g,o+j,none⟩=some (.int .i64 x))) (by kernel_rfl) (HS.out _ (below_drew (Below.refl _ _))) (fun hHeld1=>?_)
    refine tk 0 ?_;simp only [sp]
    refine tk 1 ?_;simp only [sp]
    refine tk 2 ?_;simp only [sp]
    refine tk 3 ?_;simp only [sp]
    refine tk 4 ?_;simp only [sp]
    refine tk 5 ?_;simp only [sp]
    refine rd 6 (fun K hK=>?_)
    go_simp
    go_at_call 42
    refine HKD.out.mono ?_
    rintro e w3 ⟨rfl,hb3⟩
    have HB3:=hide (show Below wr.heap.size wr w3 from (below_drew (Below.refl _ _)).trans hb3)
    clear hb3
    go_wp2_with fail
    refine hK.out _ _ (HS.out _ HB3.out) (fun hHeld8=>?_)
    clear hK K
    try simp only [sp]
    refine tk 7 ?_;simp only [sp]
    refine wpAnyH_done (by kernel_rfl) ?_ _
    cases hqx:q x with
    | true =>
     have HN:=hide (rall_next HX.out HAL.out hqx)
     clear HKD
     go_wp2
     go_roundw
     case rel=>exact ⟨j+1,by first | exact num_next hlt (by have:=HLL.out;rw [HL.out] at this;exact this) | go_num,by rw [HL.out];exact hlt,HN.out,bel_tr HBR.out HB3.out⟩
     case measure=>first | exact meas_int hlt (by have:=HLL.out;rw [HL.out] at this;exact this) | (rw [intOf_int,intOf_int];omega)
    | false =>
     have HN:=hide (rall_not HX.out hqx)
     clear HKD
     go_wp2
     go_ret
     exact ⟨by rw [HN.out];rfl,bel_tr HB1.out (bel_tr HBR.out HB3.out)⟩
  · obtain rfl:L=j:=by omega
    have dd1:decide (L<L)=false:=by simp
    have HE:=hide (show l.all q=true by have:=HAL.out;rw [← HL.out,List.take_length] at this;exact this)
    go_wp2
    go_ret
    exact ⟨by rw [HE.out];rfl,bel_tr HB1.out HBR.out⟩
end
def SiR (a b:List Int) (w:World) (i:Value) (wr:World):Prop:=∃ j:Nat,i=.int .i64 j∧j≤a.length∧(∀ k,k<j→a[k]?=b[k]?)∧Below w.heap.size w wr
section
variable {B1 B2:Nat} {w:World} {va vb:Value} {a b:List Int}
theorem rsame_any (R1:SlAt 1 IntP B1 w va a) (R2:SlAt 1 IntP B2 w vb b) (h1:B1≤w.heap.size) (h2:B2≤w.heap.size):Calls Tryz.prog 30 #[va,vb] w fun e w'=>e=.returned (.bool (decide (a=b)))∧Below w.heap.size w w':=by
 obtain ⟨aa,da,hva⟩:=sl_form R1
 obtain ⟨ab,db,hvb⟩:=sl_form R2
 subst hva hvb
 have HR1:=hide (show ∀ W:World,Below w.heap.size w W→SlAt 1 IntP B1 W (.slice aa a.length da) a from fun W h=>ints_keep (Nat.le_refl _) (fun j hj=>h.block j (by omega)) R1)
 have HR2:=hide (show ∀ W:World,Below w.heap.size w W→SlAt 1 IntP B2 W (.slice ab b.length db) b from fun W h=>ints_keep (Nat.le_refl _) (fun j hj=>h.block j (by omega)) R2)
 have HLL:=hide (il_len R1)
 clear R1 R2
 by_cases hl:a.length=b.length
 · have hq:((a.length:Int) != (b.length:Int))=false:=by simp;omega
   have HLE:=hide hl
   rw [← hl] at HR2 hq ⊢
   obtain ⟨L,hL⟩ : ∃ L,a.length=L:=⟨_,rfl⟩
   rw [hL] at HR1 HR2 hq ⊢
   have HL:=hide hL
   clear hl hL
   go_enter Tryz.func30,Tryz.ntmps30
   go_wp2_with fail
   go_loopw [5] (fun i wr=>SiR a b w i wr) (fun i _=>L - (intOf i).toNat)
   case atStart=>exact ⟨0,rfl,Nat.zero_le _,fun k hk=>by omega,Below.refl _ _⟩
   case round =>
    obtain ⟨j,rfl,hj,hall,hb⟩:=hrel
    have HBR:=hide hb
    have HAL:=hide hall
    rw [HL.out] at hj
    clear hb hall
    by_cases hlt:j<L
    · obtain ⟨x,hx⟩ : ∃ x,a[j]?=some x:=⟨a[j]'(by rw [HL.out];exact hlt),by simp⟩
      obtain ⟨y,hy⟩ : ∃ y,b[j]?=some y:=⟨b[j]'(by rw [← HLE.out,HL.out];exact hlt),by simp⟩
      obtain ⟨g,o,c,hv,hg,hc,_,_⟩:=il_at (by have:=HR1.out wr HBR.out;rw [← HL.out] at this;exact this) hx
      cases hv
      obtain ⟨g',o',c',hv',hg',hc',_,_⟩:=il_at (by have:=HR2.out wr HBR.out;rw [← HL.out,HLE.out] at this;exact this) hy
      cases hv'
      have hgw:g<wr.heap.size:=Nat.lt_of_lt_of_le hg (Nat.le_trans h1 HBR.out.size)
      have hgw' : g' < wr.heap.size:=Nat.lt_of_lt_of_le hg' (Nat.le_trans h2 HBR.out.size)
      have dd1:decide (j<L)=true:=by simpa using hlt
      have dd3:(j:Int)≤9223372036854775807:=by have:=HLL.out;rw [HL.out] at this;omega
      have HX:=hide hx
      have HY:=hide hy
      clear hx hy
      go_upto_region 6 with (fail)
      refine wp_region_held_drew (S:=(fun W:World=>W=wr.drew∧W.cell? ⟨g,o+j,none⟩=some (.int .i64 x)∧W.cell? ⟨g',o' + j,none⟩=some (.int .i64 y))) (by kernel_rfl) ⟨rfl,hc,hc'⟩ (fun hHeld10=>?_)
      refine tk 0 ?_;simp only [sp]
      refine tk 1 ?_;simp only [sp]
      refine tk 2 ?_;simp only [sp]
      refine tk 3 ?_;simp only [sp]
      refine tk 4 ?_;simp only [sp]
      refine tk 5 ?_;simp only [sp]
      refine tk 6 ?_;simp only [sp]
      refine tk 7 ?_;simp only [sp]
      refine tk 8 ?_;simp only [sp]
      refine wpAnyH_done (by kernel_rfl) ?_ _
      by_cases hxy:x=y
      · have HN:=hide (show ∀ k,k<j+1→a[k]?=b[k]? from fun k hk=>by
         rcases Nat.lt_or_ge k j with h | h
         · exact HAL.out k h
         · obtain rfl:k=j:=by omega
           rw [HX.out,HY.out,hxy])
        have dd2:(x != y)=false:=by simpa using hxy
        clear hxy
        go_wp2
        go_roundw
        case rel=>exact ⟨j+1,by first | exact num_next hlt (by have:=HLL.out;rw [HL.out] at this;exact this) | go_num,by rw [HL.out];exact hlt,HN.out,below_drew HBR.out⟩
        case measure=>first | exact meas_int hlt (by have:=HLL.out;rw [HL.out] at this;exact this) | (rw [intOf_int,intOf_int];omega)
      · have HN:=hide (show ¬ a=b from fun h=>by
         have h1:=HX.out
         rw [h,HY.out] at h1
         cases h1
         exact hxy rfl)
        have dd2:(x != y)=true:=by simpa using hxy
        clear hxy
        go_wp2
        go_ret
        exact ⟨by rw [decide_eq_false HN.out];rfl,below_drew HBR.out⟩
    · obtain rfl:L=j:=by omega
      have dd1:decide (L<L)=false:=by simp
      have HE:=hide (show a=b from List.ext_getElem? fun k=>by
       rcases Nat.lt_or_ge k L with h | h
       · exact HAL.out k h
       · rw [List.getElem?_eq_none (by rw [HL.out];exact h),List.getElem?_eq_none (by rw [← HLE.out,HL.out];exact h)])
      go_wp2
      go_ret
      exact ⟨by rw [decide_eq_true HE.out];rfl,HBR.out⟩
 · have hq:((a.length:Int) != (b.length:Int))=true:=by simp;omega
   have HN:=hide (show ¬ a=b from fun h=>hl (by rw [h]))
   generalize a.length=la at *
   generalize b.length=lb at *
   have hq2:(la == lb)=false:=by simpa using hl
   go_enter Tryz.func30,Tryz.ntmps30
   go_wp2
   go_ret
   exact ⟨by rw [decide_eq_false HN.out];rfl,Below.refl _ _⟩
end
end Go.Proofs.YtkdojpnihinpbaaGreatDoor
