/- The heads: free, parameters, headOf. -/
import Derived.Test.YtkdojpnihinpbaaGreatDoorVfTJo
namespace Go.Proofs.YtkdojpnihinpbaaGreatDoor
open Go.RowKit
section
variable {w:World} {B:Nat} {v:Value}
theorem all_take {α:Type} {l:List α} {p:α→Bool} {j:Nat} {x:α} (h:(l.take j).all p=true) (hx:l[j]?=some x) (hp:p x=true):(l.take (j+1)).all p=true:=by
 rw [List.take_add_one,hx,Option.toList_some,List.all_append,h]
 simpa using hp
theorem ints_at {l:List Int} {ao:Option Addr} (hel:∀ (j:Nat) (x:Int),l[j]?=some x→∃ g o cs,ao=some ⟨g,o,none⟩∧g<B∧(∀ (r:Nat) (u:Value),cs[r]?=some u→w.cell? ⟨g,o+j*1+r,none⟩=some u)∧IntP w cs x) {j:Nat} {x:Int} (hx:l[j]?=some x):∃ g o,ao=some ⟨g,o,none⟩∧g<B∧w.cell? ⟨g,o+j,none⟩=some (.int .i64 x)∧-9223372036854775808≤x∧x≤9223372036854775807:=by
 obtain ⟨g,o,cs,h1,h2,h3,rfl,h4⟩:=hel j x hx
 refine ⟨g,o,h1,h2,?_,h4⟩
 have:=h3 0 _ rfl
 rwa [Nat.mul_one,Nat.add_zero] at this
def AlR (p:Int→Bool) (ks:List Int) (w:World) (a:Value) (wr:World):Prop:=∃ j:Nat,a=.int .i64 j∧j≤ks.length∧(ks.take j).all p=true∧wr=w
set_option maxHeartbeats 1000000 in
theorem free_any {ks:List Int} (n:Nat) (R:SlAt 1 IntP B w v ks):Calls Tryz.prog 80 #[v,.int .i64 n] w fun e w'=>e=.returned (.bool (ks.all (freeB n)))∧w' = w:=by
 obtain ⟨ao,cap,rfl,hN,hel⟩:=R
 have HEL:=hide hel
 have HN:=hide hN
 clear hel hN
 go_enter Tryz.func80,Tryz.ntmps80
 go_wp2
 go_loopw [9] (fun a wr=>AlR (freeB n) ks w a wr) (fun a _=>ks.length - (intOf a).toNat)
 case atStart=>exact ⟨0,rfl,Nat.zero_le _,rfl,rfl⟩
 case round =>
  obtain ⟨j,rfl,hj,ht,rfl⟩:=hrel
  have HT:=hide ht
  clear ht
  by_cases hlt:j<ks.length
  · obtain ⟨x,hx⟩ : ∃ x,ks[j]?=some x:=⟨ks[j],by simp [hlt]⟩
    obtain ⟨g,o,rfl,_,hc,hb⟩:=ints_at HEL.out hx
    have d1:decide (j<ks.length)=true:=by simpa using hlt
    have HX:=hide hx
    have HBN:=hide hb
    clear hx hb
    cases hkb:isKB n x with
    | false =>
     have HBAD:=hide (show ks.all (freeB n)=false from all_bad HX.out (by unfold freeB;rw [hkb];rfl))
     generalize ks.length=l at *
     go_wp2_with fail
     refine (isKind_any _ _ _ HBN.out).mono ?_
     rintro e w2 ⟨rfl,rfl⟩
     rw [hkb]
     go_wp2
     go_ret
     exact ⟨by rw [HBAD.out];rfl,rfl⟩
    | true =>
     by_cases hx8:x<1048576
     · have d2:decide (1048576≤x)=false:=by simpa using hx8
       have HNX:=hide (all_take HT.out HX.out (show freeB n x=true by unfold freeB;rw [hkb];simpa using hx8))
       generalize hl:ks.length=l at *
       have HL:=hide hl
       clear hl
       go_wp2_with fail
       refine (isKind_any _ _ _ HBN.out).mono ?_
       rintro e w2 ⟨rfl,rfl⟩
       rw [hkb]
       go_wp2
       go_roundw
       case rel=>exact ⟨j+1,by first | exact num_next hlt HN.out.1 | go_num,by rw [HL.out];exact hlt,HNX.out,rfl⟩
       case measure=>first | exact meas_int hlt HN.out.1 | (rw [intOf_int,intOf_int];omega)
     · have d2:decide (1048576≤x)=true:=by simpa using hx8
       have HBAD:=hide (show ks.all (freeB n)=false from all_bad HX.out (by unfold freeB;rw [hkb];simpa using hx8))
       generalize ks.length=l at *
       go_wp2_with fail
       refine (isKind_any _ _ _ HBN.out).mono ?_
       rintro e w2 ⟨rfl,rfl⟩
       rw [hkb]
       go_wp2
       go_ret
       exact ⟨by rw [HBAD.out];rfl,rfl⟩
  · obtain rfl:j=ks.length:=by omega
    have d1:decide (ks.length<ks.length)=false:=by simp
    have HEQ:=hide (show ks.all (freeB n)=true from by
     have:=HT.out
     rwa [List.take_length] at this)
    generalize ks.length=l at *
    go_wp2
    go_ret
    exact ⟨by rw [HEQ.out];rfl,rfl⟩
set_option maxHeartbeats 1000000 in
theorem headOf_any {f:Fd} {v1 v2 v3 v4:Value} (n:Nat) (hB:B≤w.heap.size) (R1:SlAt 1 IntP B w v1 f.lo) (R2:SlAt 1 IntP B w v2 f.re) (R3:SlAt 1 IntP B w v3 f.ar) (R4:SlAt 3 InsP B w v4 f.co):Calls Tryz.prog 81 #[.agg #[.int .i64 f.pa,v1,v2,v3,v4],.int .i64 n] w fun e w'=>e=.returned (.bool (headB n f))∧Below w.heap.size w w':=by
 obtain ⟨W1,hW1⟩ : ∃ W1,w.alloc (.cells #[.int .i64 f.pa,v1,v2,v3,v4] 40)=W1:=⟨_,rfl⟩
 have BW:=hide (show Below w.heap.size w W1 from hW1 ▸ (Below.refl _ _).alloc (Nat.le_refl _) _)
 have hk:∀ j,j<B→W1.heap[j]?=w.heap[j]?:=fun j hj=>BW.out.block j (by omega)
 have hb1:W1.heap[w.heap.size]?=some (.cells #[.int .i64 f.pa,v1,v2,v3,v4] 40 (0,0)):=hW1 ▸ heap_new _ _ rfl
 have c1:W1.cell? ⟨w.heap.size,1,none⟩=some v1:=cell_of hb1 rfl
 have c2:W1.cell? ⟨w.heap.size,2,none⟩=some v2:=cell_of hb1 rfl
 have c3:W1.cell? ⟨w.heap.size,3,none⟩=some v3:=cell_of hb1 rfl
 have c4:W1.cell? ⟨w.heap.size,4,none⟩=some v4:=cell_of hb1 rfl
 have CF:=hide (free_any n (ints_keep (Nat.le_refl _) hk R2))
 replace R1:=ints_keep (Nat.le_refl _) hk R1
 replace R3:=ints_keep (Nat.le_refl _) hk R3
 obtain ⟨a1,k1,rfl,hN1,hel1⟩:=R1
 obtain ⟨a3,k3,rfl,hN3,hel3⟩:=R3
 obtain ⟨a4,k4,rfl,hN4,hel4⟩:=R4
 have HE1:=hide hel1
 have HE3:=hide hel3
 have HN1:=hide hN1
 have HN3:=hide hN3
 clear hel1 hel3 hel4 hN1 hN3 hN4 hb1 hk R2
 have HB:=hide hB
 clear hB
 obtain ⟨l1,hl1⟩ : ∃ l,f.lo.length=l:=⟨_,rfl⟩
 obtain ⟨l3,hl3⟩ : ∃ l,f.ar.length=l:=⟨_,rfl⟩
 obtain ⟨l4,hl4⟩ : ∃ l,f.co.length=l:=⟨_,rfl⟩
 have HHB:=hide (show headB n f=(f.lo.all (isKB n) && f.ar.all (fun t=>inB t n) && f.re.all (freeB n) && decide (0<l4)) by rw [← hl4];rfl)
 simp only [hl1,hl3,hl4] at c1 c3 c4 hW1 ⊢
 have HL1:=hide hl1
 have HL3:=hide hl3
 clear hl1 hl3 hl4
 go_enter Tryz.func81,Tryz.ntmps81
 go_wp2
 go_loopw [12] (fun a wr=>AlR (isKB n) f.lo W1 a wr) (fun a _=>l1 - (intOf a).toNat)
 case atStart=>exact ⟨0,rfl,Nat.zero_le _,rfl,rfl⟩
 case round =>
  clear hW1
  obtain ⟨j,rfl,hj,ht,rfl⟩:=hrel
  have HT:=hide ht
  clear ht
  rw [HL1.out] at hj
  by_cases hlt:j<l1
  · obtain ⟨x,hx⟩ : ∃ x,f.lo[j]?=some x:=⟨f.lo[j]'(by rw [HL1.out];exact hlt),by simp⟩
    obtain ⟨g,o,rfl,_,hc,hb⟩:=ints_at HE1.out hx
    have d1:decide (j<l1)=true:=by simpa using hlt
    have HX:=hide hx
    have HBN:=hide hb
    clear hx hb
    cases hkb:isKB n x with
    | false =>
     have HBAD:=hide (show headB n f=false by rw [HHB.out,all_bad HX.out hkb];rfl)
     go_wp2_with fail
     refine (isKind_any _ _ _ HBN.out).mono ?_
     rintro e w2 ⟨rfl,rfl⟩
     rw [hkb]
     go_wp2
     go_ret
     exact ⟨by rw [HBAD.out];rfl,BW.out⟩
    | true =>
     have HNX:=hide (all_next HX.out HT.out hkb)
     go_wp2_with fail
     refine (isKind_any _ _ _ HBN.out).mono ?_
     rintro e w2 ⟨rfl,rfl⟩
     rw [hkb]
     go_wp2
     go_roundw
     case rel=>exact ⟨j+1,by first | exact num_next hlt (HL1.out ▸ HN1.out.1) | go_num,by rw [HL1.out];exact hlt,HNX.out,rfl⟩
     case measure=>first | exact meas_int hlt (HL1.out ▸ HN1.out.1) | (rw [intOf_int,intOf_int];omega)
  · obtain rfl:j=l1:=by omega
    have d1:decide (j<j)=false:=by simp
    have HA1:=hide (show f.lo.all (isKB n)=true by have:=HT.out;rwa [← HL1.out,List.take_length] at this)
    go_wp2
    go_loopw [24] (fun a wr'=>AlR (fun t=>inB t n) f.ar wr a wr') (fun a _=>l3 - (intOf a).toNat)
    case atStart=>exact ⟨0,rfl,Nat.zero_le _,rfl,rfl⟩
    case round =>
     obtain ⟨i,rfl,hi,ht,rfl⟩:=hrel
     have HT3:=hide ht
     clear ht
     rw [HL3.out] at hi
     by_cases hlt:i<l3
     · obtain ⟨x,hx⟩ : ∃ x,f.ar[i]?=some x:=⟨f.ar[i]'(by rw [HL3.out];exact hlt),by simp⟩
       obtain ⟨g,o,rfl,_,hc,hb⟩:=ints_at HE3.out hx
       have d2:decide (i<l3)=true:=by simpa using hlt
       have HX:=hide hx
       clear hx hb
       cases hkb:inB x n with
       | false =>
        have HBAD:=hide (show headB n f=false by rw [HHB.out,all_bad (s:=fun t=>inB t n) HX.out hkb,Bool.and_false];rfl)
        go_wp2_with fail
        refine (within_any _ _ _).mono ?_
        rintro e w2 ⟨rfl,rfl⟩
        rw [hkb]
        go_wp2
        go_ret
        exact ⟨by rw [HBAD.out];rfl,BW.out⟩
       | true =>
        have HNX:=hide (all_next (s:=fun t=>inB t n) HX.out HT3.out hkb)
        go_wp2_with fail
        refine (within_any _ _ _).mono ?_
        rintro e w2 ⟨rfl,rfl⟩
        rw [hkb]
        go_wp2
        go_roundw
        case rel=>exact ⟨i+1,by first | exact num_next hlt (HL3.out ▸ HN3.out.1) | go_num,by rw [HL3.out];exact hlt,HNX.out,rfl⟩
        case measure=>first | exact meas_int hlt (HL3.out ▸ HN3.out.1) | (rw [intOf_int,intOf_int];omega)
     · obtain rfl:i=l3:=by omega
       have d2:decide (i<i)=false:=by simp
       have HA3:=hide (show f.ar.all (fun t=>inB t n)=true by have:=HT3.out;rwa [← HL3.out,List.take_length] at this)
       have HE:=hide (show headB n f=(f.re.all (freeB n) && decide (0<l4)) by rw [HHB.out,HA1.out,HA3.out];rfl)
       go_wp2_with fail
       refine CF.out.mono ?_
       rintro e w2 ⟨rfl,rfl⟩
       cases hr:f.re.all (freeB n) with
       | false =>
        go_wp2
        go_ret
        exact ⟨by rw [HE.out,hr];rfl,BW.out⟩
       | true =>
        go_wp2
        go_ret
        refine ⟨?_,BW.out⟩
        rw [HE.out,hr]
        simp [Array.getD]
end
end Go.Proofs.YtkdojpnihinpbaaGreatDoor

namespace Go.Proofs.YtkdojpnihinpbaaGreatDoor
open Go.RowKit
section
variable {w:World} {B:Nat}
theorem ints_take {l:List Int} {ao:Option Addr} {n cap:Nat} (R:SlAt 1 IntP B w (.slice ao n cap) l) (m:Nat) (hm:m≤l.length):SlAt 1 IntP B w (.slice ao m cap) (l.take m):=by
 obtain ⟨a1,c1,h1,h2,h3⟩:=R
 simp only [Value.slice.injEq] at h1
 obtain ⟨rfl,rfl,rfl⟩:=h1
 have hl:(l.take m).length=m:=by rw [List.length_take];omega
 refine ⟨ao,cap,by rw [hl],by rw [hl];omega,fun j x hx=>h3 j x ?_⟩
 rw [List.getElem?_take] at hx
 split at hx
 · exact hx
 · cases hx
end
end Go.Proofs.YtkdojpnihinpbaaGreatDoor

namespace Go.Proofs.YtkdojpnihinpbaaGreatDoor
set_option maxRecDepth 100000
set_option maxHeartbeats 1000000
open Go.RowKit
structure Fv where
  v1:Value
  v2:Value
  v3:Value
  v4:Value
  u1:Value
  u2:Value
  u3:Value
  u4:Value
  ah:Value
  wt:Value
def flO (V:Fv) (fi at_ pa mo:Int):Obj:=.cells #[.int .i64 fi,.int .i64 at_,V.v1,V.v2,V.v3,V.v4,.int .i64 pa,V.u1,V.u2,V.u3,V.u4,V.ah,V.wt,.int .i64 mo] 71 (0,0)
structure FlAt (B:Nat) (w:World) (A:Nat) (p:Pg) (f:Fd) (V:Fv) (fi at_ mo:Int):Prop where
  hB:B≤w.heap.size
  box:w.heap[A]?=some (flO V fi at_ f.pa mo)
  pg:PgAt B w V.v1 V.v2 V.v3 V.v4 p
  lo:SlAt 1 IntP B w V.u1 f.lo
  re:SlAt 1 IntP B w V.u2 f.re
  ar:SlAt 1 IntP B w V.u3 f.ar
  co:SlAt 3 InsP B w V.u4 f.co
section
variable {B A:Nat} {w w' : World} {p:Pg} {f:Fd} {V:Fv} {fi at_ mo:Int}
theorem FlAt.keep (F:FlAt B w A p f V fi at_ mo) (h:∀ j,j<B→w'.heap[j]?=w.heap[j]?) (hA:w'.heap[A]?=w.heap[A]?) (hs:w.heap.size≤w'.heap.size):FlAt B w' A p f V fi at_ mo :=
  ⟨Nat.le_trans F.hB hs,hA.trans F.box,F.pg.keep (Nat.le_refl _) h,ints_keep (Nat.le_refl _) h F.lo,ints_keep (Nat.le_refl _) h F.re,ints_keep (Nat.le_refl _) h F.ar,ins_keep (Nat.le_refl _) h F.co⟩
theorem lst_at {v:Value} {l:List (List Int)} (R:SlAt 1 (LstP B) B w v l) {t:Nat} {x:List Int} (hx:l[t]?=some x):∃ g o c n u,v=.slice (some ⟨g,o,none⟩) n c∧n=l.length∧t<n∧g<B∧w.cell? ⟨g,o+t,none⟩=some u∧SlAt 1 IntP B w u x:=by
 obtain ⟨ao,cap,rfl,_,hel⟩:=R
 obtain ⟨g,o,cs,rfl,h2,h3,u,rfl,h4⟩:=hel t x hx
 refine ⟨g,o,cap,l.length,u,rfl,rfl,get_lt hx,h2,?_,h4⟩
 have:=h3 0 _ rfl
 rwa [Nat.mul_one,Nat.add_zero] at this
theorem only_any (F:FlAt B w A p f V fi at_ mo) (t:Nat) (k:Int) (ht:t<p.ty.length):Calls Tryz.prog 85 #[.pointer (some ⟨A,0,none⟩),.int .i64 t,.int .i64 k] w fun e w'=>e=.returned (.bool (onlyB p t k))∧w' = w:=by
 obtain ⟨x,hx⟩ : ∃ x,p.ty[t]?=some x:=⟨p.ty[t],by simp [ht]⟩
 obtain ⟨g,o,c,n,u,hv,hn,hlt,hg,hc,hl⟩:=lst_at F.pg.ty hx
 obtain ⟨ao,cap,rfl,_,hel⟩:=hl
 have c0:w.cell? ⟨A,2,none⟩=some V.v1:=cell_of F.box rfl
 rw [hv] at c0
 have e1:decide (t<n)=true:=by simpa using hlt
 have HE:=hide (show onlyB p t k=decide (x=[k]) by unfold onlyB;rw [Int.toNat_natCast,hx];simp)
 have hlA:=lt_of_block F.box
 have hlg:g<w.heap.size:=Nat.lt_of_lt_of_le hg F.hB
 clear hv hn hx F ht
 match x,hel with
 | [],_ =>
  go_enter Tryz.func85,Tryz.ntmps85
  go_wp2
  go_ret
  exact ⟨by rw [HE.out];rfl,rfl⟩
 | [y],hel =>
  obtain ⟨g2,o2,rfl,hg2,hc2,_⟩:=ints_at hel (j:=0) (x:=y) rfl
  rw [Nat.add_zero] at hc2
  have HY:=hide (show onlyB p t k=(y == k) by rw [HE.out];simp [Bool.beq_eq_decide_eq])
  clear hel HE
  go_enter Tryz.func85,Tryz.ntmps85
  go_wp2
  go_ret
  exact ⟨by rw [HY.out];rfl,rfl⟩
 | y :: z :: r,_ =>
  have HY:=hide (show onlyB p t k=false by rw [HE.out];simp)
  have q:(((y :: z :: r).length:Int) == 1)=false:=by simp;omega
  clear HE
  generalize (y :: z :: r).length=len at *
  go_enter Tryz.func85,Tryz.ntmps85
  go_wp2
  go_ret
  exact ⟨by rw [HY.out];rfl,rfl⟩
def NwO (w:World) (ks:List Int) (e:Ending) (W:World):Prop:=∃ v,e=.returned v∧IsAt (fun j=>j<w.heap.size) W v ks∧Below w.heap.size w W
theorem isAt_new {X:Nat→Prop} {W:World} {g:Nat} {ks:List Int} {T:TypeId} (h:W.heap[g]?=some (.cells ((ks.map (Value.int .i64)).toArray) T (0,0))) (hX:¬ X g) (hl:ks.length≤4096):IsAt X W (.slice (some ⟨g,0,none⟩) ks.length ks.length) ks:=by
 refine ⟨_,_,rfl,Nat.le_refl _,by simp only [maxLen];omega,fun j k hk=>⟨g,0,rfl,lt_of_block h,hX,?_⟩⟩
 rw [Nat.zero_add]
 exact cell_of h (by simp [hk])
theorem isAt_none {X:Nat→Prop} {W:World}:IsAt X W (.slice none 0 0) []:=⟨none,0,rfl,Nat.le_refl _,by simp only [maxLen];omega,fun j k hk=>by simp at hk⟩
theorem nexts_any {x:Nat} (F:FlAt B w A p f V fi x mo) (hx:x≤65536) (i:In3):Calls Tryz.prog 77 #[.pointer (some ⟨A,0,none⟩),.agg #[.int .i64 i.o,.int .i64 i.a,.int .i64 i.b]] w (NwO w (nextsP i x)):=by
 have hlA:=lt_of_block F.box
 have c1:w.cell? ⟨A,1,none⟩=some (.int .i64 x):=cell_of F.box rfl
 have hw:IntKind.i64.wrap ((x:Int)+1)=(x:Int)+1:=by
  rw [show (x:Int)+1=((x+1:Nat):Int) by omega]
  exact wrap_nat (by omega)
 have HK:=hide (show ∀ (W1 W:World) (ks:List Int) (T:TypeId) (g n:Nat) (C:Array Value),Below w.heap.size w W1→w.heap.size≤W1.heap.size→W1.alloc (.cells C T)=W→C=(ks.map (Value.int .i64)).toArray→g=W1.heap.size→n=ks.length→ks.length≤4096→NwO w ks (.returned (.slice (some ⟨g,0,none⟩) n n)) W from fun W1 W ks T g n C hb hs hW hC hg hn hl=>by
  subst hW
  subst hC
  subst hg
  subst hn
  exact ⟨_,rfl,isAt_new (heap_new _ _ rfl) (by omega) hl,hb.alloc hs _⟩)
 clear F hx
 by_cases h9:i.o=9
 · have HE:=hide (show nextsP i x=[i.a] by unfold nextsP;rw [if_pos h9])
   have q9:(i.o == 9)=true:=by simpa using h9
   clear h9
   go_enter Tryz.func77,Tryz.ntmps77
   go_wp2
   go_ret
   rw [HE.out]
   exact HK.out (w.alloc (.cells #[.int .i64 i.o,.int .i64 i.a,.int .i64 i.b] 46)) _ [i.a] _ (w.heap.size+1) 1 _ ((Below.refl _ _).alloc (Nat.le_refl _) _) (by simp) rfl rfl (by simp) rfl (by simp)
 · have q9:(i.o == 9)=false:=by simpa using h9
   by_cases h10:i.o=10
   · have HE:=hide (show nextsP i x=[(x:Int)+1,i.a] by unfold nextsP;rw [if_neg h9,if_pos h10])
     have q10:(i.o == 10)=true:=by simpa using h10
     clear h9 h10
     go_enter Tryz.func77,Tryz.ntmps77
     go_wp2
     go_region
     all_goals go_wp2
     all_goals (
       go_ret
       rw [HE.out]
       exact HK.out (w.alloc (.cells #[.int .i64 i.o,.int .i64 i.a,.int .i64 i.b] 46)).drew _ [(x:Int)+1,i.a] _ (w.heap.size+1) 2 _ (below_drew ((Below.refl _ _).alloc (Nat.le_refl _) _)) (by simp) rfl rfl (by simp) rfl (by simp))
   · have q10:(i.o == 10)=false:=by simpa using h10
     by_cases hr:i.o=24∨i.o=27∨i.o=28
     · have HE:=hide (show nextsP i x=[] by unfold nextsP;rw [if_neg h9,if_neg h10,if_pos hr])
       have HF:=hide (show NwO w [] (.returned (.slice none 0 0)) (w.alloc (.cells #[.int .i64 i.o,.int .i64 i.a,.int .i64 i.b] 46)) from ⟨_,rfl,isAt_none,(Below.refl _ _).alloc (Nat.le_refl _) _⟩)
       rcases hr with h | h | h
       all_goals (
         have r24:(i.o == 24)=decide (i.o=24):=rfl
         rw [h] at HF q9 q10 ⊢
         clear h9 h10 h
         go_enter Tryz.func77,Tryz.ntmps77
         go_wp2
         go_ret
         rw [HE.out]
         exact HF.out)
     · have HE:=hide (show nextsP i x=[(x:Int)+1] by unfold nextsP;rw [if_neg h9,if_neg h10,if_neg hr])
       have q24:(i.o == 24)=false:=by simp;omega
       have q27:(i.o == 27)=false:=by simp;omega
       have q28:(i.o == 28)=false:=by simp;omega
       clear h9 h10 hr
       go_enter Tryz.func77,Tryz.ntmps77
       go_wp2
       go_ret
       rw [HE.out]
       exact HK.out (w.alloc (.cells #[.int .i64 i.o,.int .i64 i.a,.int .i64 i.b] 46)) _ [(x:Int)+1] _ (w.heap.size+1) 1 _ ((Below.refl _ _).alloc (Nat.le_refl _) _) (by simp) rfl rfl (by simp) rfl (by simp)
end
end Go.Proofs.YtkdojpnihinpbaaGreatDoor

namespace Go.Proofs.YtkdojpnihinpbaaGreatDoor
open Go.RowKit
section
variable {B A:Nat} {w w' : World} {p:Pg} {f:Fd} {V:Fv} {fi at_ mo:Int}
theorem FX_room (k:Nat):FX.room k:=room_wide k
theorem require_any (w:World) (f a e:Int) (kept:Bool):Calls Tryz.prog 70 #[.agg #[.int .i64 f,.int .i64 a],.bool kept,.int .i64 e] w (RqO f a e kept w):=(require_in (m:=0) f a e kept).calls FX_room
def FdO (fi at_:Int) (r:Option Int) (w:World) (e:Ending) (W:World):Prop:=(match r with
  | some y=>e=.returned (.int .i64 y)
  | none=>e=.panicked (fch fi at_ 11))∧Below w.heap.size w W
set_option maxRecDepth 100000 in
set_option maxHeartbeats 1000000 in
theorem field_any (F:FlAt B w A p f V fi at_ mo) {k:Int} (hn:p.ty.length≤1024) (hk:isKB p.ty.length k=true) (h2:2≤bareK k) (x:Int):Calls Tryz.prog 96 #[.pointer (some ⟨A,0,none⟩),.int .i64 k,.int .i64 x] w (FdO fi at_ (fieldP p k x) w):=by
 obtain ⟨t,ht⟩ : ∃ t:Nat,(bareK k - 2) / 2=(t:Int):=⟨((bareK k - 2) / 2).toNat,by omega⟩
 have htl:t<p.ty.length:=by
  simp only [isKB,decide_eq_true_eq] at hk
  have:bareK k<2+2*(p.ty.length:Int):=by
   rcases hk with h | h | h
   · subst h;simp [bareK] at h2
   · subst h;simp [bareK] at h2
   · exact h.2
  omega
 obtain ⟨l,hx⟩ : ∃ l,p.ty[t]?=some l:=⟨p.ty[t],by simp [htl]⟩
 obtain ⟨g,o,c,n,u,hv,hn',hlt,hg,hc,hl⟩:=lst_at F.pg.ty hx
 obtain ⟨ao,cap,rfl,_,hel⟩:=hl
 have c2:w.cell? ⟨A,2,none⟩=some V.v1:=cell_of F.box rfl
 have c0:w.cell? ⟨A,0,none⟩=some (.int .i64 fi):=cell_of F.box rfl
 have c1:w.cell? ⟨A,1,none⟩=some (.int .i64 at_):=cell_of F.box rfl
 rw [hv] at c2
 have e1:decide (t<n)=true:=by simpa using hlt
 have HP:=hide (show fieldP p k x=if inB x l.length then l[x.toNat]? else none by
  unfold fieldP
  simp only [ht,Int.toNat_natCast,hx,Option.getD_some])
 have hlA:=lt_of_block F.box
 have hlg:g<w.heap.size:=Nat.lt_of_lt_of_le hg F.hB
 have HT:=hide (fun (W:World)=>typeOf_any W hn hk h2)
 rw [ht] at HT
 have HB:=hide F.hB
 have HEL:=hide hel
 clear hv hn' hx F htl ht hk h2 hn hel
 obtain ⟨len,hlen⟩ : ∃ len,l.length=len:=⟨_,rfl⟩
 rw [hlen] at hc HP
 obtain ⟨bb,hbb⟩ : ∃ bb,inB x len=bb:=⟨_,rfl⟩
 have HW:=hide (fun (W:World)=>within_any W x len)
 have HR:=hide (fun (W:World)=>require_any W fi at_ 11 bb)
 rw [hbb] at HW
 have HBAD:=hide (show bb=false→∀ (W:World) (q:Nat),Below (w.drewN q).drew.heap.size (w.drewN q).drew W→FdO fi at_ (fieldP p k x) w (.panicked (fch fi at_ 11)) W from fun h W q hb=>by
  rw [HP.out,hbb,h]
  exact ⟨rfl,⟨hb.os,hb.tape,hb.output,hb.size,hb.block⟩⟩)
 have HGD:=hide (show bb=true→∃ m:Nat,x=(m:Int)∧m<len∧∃ y g2 o2,ao=some ⟨g2,o2,none⟩∧(∀ (W:World) (q:Nat),Below (w.drewN q).drew.heap.size (w.drewN q).drew W→W.cell? ⟨g2,o2+m,none⟩=some (.int .i64 y)∧FdO fi at_ (fieldP p k x) w (.returned (.int .i64 y)) W) from fun h=>by
  rw [h] at hbb
  obtain ⟨m,hm⟩ : ∃ m:Nat,x=(m:Int):=⟨x.toNat,by simp only [inB,decide_eq_true_eq] at hbb;omega⟩
  have hml:m<len:=by simp only [inB,decide_eq_true_eq] at hbb;omega
  obtain ⟨y,hy⟩ : ∃ y,l[m]?=some y:=⟨l[m]'(by omega),by simp⟩
  obtain ⟨g2,o2,e2,hg2,hc2,_⟩:=ints_at HEL.out hy
  refine ⟨m,hm,hml,y,g2,o2,e2,fun W q hb=>⟨(hb.cell (p:=⟨g2,o2+m,none⟩) (Nat.lt_of_lt_of_le hg2 HB.out)).trans hc2,?_⟩⟩
  rw [HP.out,hbb,if_pos rfl,hm,Int.toNat_natCast,hy]
  exact ⟨rfl,⟨hb.os,hb.tape,hb.output,hb.size,hb.block⟩⟩)
 rw [hlen] at *
 clear HP HEL hbb hlen HB
 go_enter Tryz.func96,Tryz.ntmps96
 go_wp2_with fail
 go_quiet ((go_at_call 104;exact Calls.quiet_of_same (HT.out _)))
 go_wp2_with fail
 go_region_with (first
   | (go_at_call 32;refine (HW.out _).mono ?_;rintro e w2 ⟨rfl,rfl⟩)
   | (go_at_call 70;refine (HR.out _).mono ?_;rintro e w3 ⟨(⟨hk3,rfl⟩ | ⟨hk3,rfl⟩),hb3⟩;rotate_left;exact ⟨rfl,HBAD.out hk3 _ _ hb3⟩))
 all_goals (
   obtain ⟨m,rfl,hml,y,g2,o2,rfl,hF⟩:=HGD.out hk3
   obtain ⟨hc3,hF3⟩:=hF _ _ hb3
   have HF3:=hide hF3
   have e2:decide (m<len)=true:=by simpa using hml
   clear hF hF3 HGD HBAD
   go_wp2
   go_ret
   exact HF3.out)
end
end Go.Proofs.YtkdojpnihinpbaaGreatDoor

namespace Go.Proofs.YtkdojpnihinpbaaGreatDoor
open Go.RowKit Go.Shelf
attribute [local go_sem] Oper.semAt_some
section
variable {X:Nat→Prop} {w:World} {E b:Nat} {l:List Int}
theorem depth_in {F:Fence} (hF:F.fn 21) (hro:F.round=none) {m:Nat} (R:PileAt X w E b l):CallsIn F m Tryz.prog 21 #[pp b] w fun e w'=>e=.returned (.int .i64 (l.length:Int))∧w' = w:=by
 have c2:=R.dep
 have hlb:=R.lt
 clear R
 refine callsIn_of_wp Tryz.func21 rfl hF ?_ hro
 simp only [Tryz.ntmps21,List.size_toArray,List.length_cons,List.length_nil,Nat.reduceAdd,Nat.reduceSub,Array.replicate_succ,Array.replicate_zero,List.push_toArray,List.append_toArray,List.nil_append,List.cons_append]
 gi_wp2
 go_ret
 exact ⟨rfl,rfl⟩
theorem depth_any (R:PileAt X w E b l):Calls Tryz.prog 21 #[pp b] w fun e w'=>e=.returned (.int .i64 (l.length:Int))∧w' = w:=(depth_in (m:=0) (F:=FX) (FX_fn (by decide)) rfl R).calls FX_room
set_option maxHeartbeats 1000000 in
theorem top_any (R:PileAt X w E b l) (h:0<l.length) (hl:l.length≤4000000000000):Calls Tryz.prog 36 #[pp b] w fun e w'=>e=.returned (.int .i64 (l.getLast?.getD 0))∧Below w.heap.size w w':=by
 obtain ⟨b0,l0,ks,a,c,rfl,hb,hk,hc,hI,_⟩:=R.top h
 have c0:w.cell? ⟨b,0,none⟩=some (.slice a ks.length c):=cell_of hb rfl
 have hlb:=lt_of_block hb
 obtain ⟨m,hm⟩ : ∃ m,ks.length=m+1:=⟨ks.length - 1,by omega⟩
 obtain ⟨k,hk2⟩ : ∃ k,ks[m]?=some k:=⟨ks[m]'(by omega),by simp⟩
 obtain ⟨ao,cap,hv,_,_,hel⟩:=hI
 cases hv
 obtain ⟨g,o,rfl,hg,_,hx⟩:=hel m k hk2
 have hlast:(l0++ks).getLast?.getD 0=k:=by
  rw [List.getLast?_append,List.getLast?_eq_getElem?,hm,Nat.add_sub_cancel,hk2]
  rfl
 rw [List.length_append] at hl
 rw [hlast]
 rw [hm] at c0 hl
 have hmb:(m:Int)+1≤4000000000000:=by omega
 have n0:(0:Int)≤(m:Int):=by omega
 have d1:decide (m<m+1)=true:=by simp
 have hcap:((m+1:Nat):Int)=(m:Int)+1:=by omega
 have w1:IntKind.i64.wrap (m:Int)=(m:Int):=wrap_nat (by omega)
 clear R hb hel hk2 hlast hl hk hm hc hcap
 go_enter Tryz.func36,Tryz.ntmps36
 go_wp2
 go_region
 all_goals go_wp2
 all_goals (
   go_ret
   exact ⟨rfl,below_drew (Below.refl _ _)⟩)
end
end Go.Proofs.YtkdojpnihinpbaaGreatDoor

namespace Go.Proofs.YtkdojpnihinpbaaGreatDoor
open Go.RowKit Go.Shelf
attribute [local go_sem] Oper.semAt_some
theorem info_intD:(Tryz.prog.info? 3).map (fun i=>(i.zero,i.size,i.bytes))=some (some (.int .i64 0),1,8):=by kernel_rfl
def ivs (l:List Int):List Value:=l.map fun x=>Value.int .i64 x
section
variable {m E b:Nat} {Z:Nat→Prop} {s:List Int} {w:World}
end
end Go.Proofs.YtkdojpnihinpbaaGreatDoor
