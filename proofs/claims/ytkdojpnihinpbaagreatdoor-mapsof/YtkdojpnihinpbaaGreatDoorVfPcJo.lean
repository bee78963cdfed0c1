/- slices.Equal; two piles that are the same. -/
import Derived.Test.YtkdojpnihinpbaaGreatDoorVfKJo
import Derived.LaidEqlPtr
namespace Go.Proofs.YtkdojpnihinpbaaGreatDoor
set_option maxRecDepth 100000
set_option maxHeartbeats 2000000
open Go.RowKit
section
variable {X Y:Nat→Prop} {w:World} {E b b' : Nat} {l l' ks ls:List Int} {v u:Value}
def EqR (w:World) (ks ls:List Int) (a:Value) (wr:World):Prop:=∃ j:Nat,a=.int .i64 j∧j≤ks.length∧ks.take j=ls.take j∧wr.heap=w.heap∧Below w.heap.size w wr
theorem take_next {α:Type} {a c:List α} {j:Nat} {x:α} (h:a.take j=c.take j) (ha:a[j]?=some x) (hc:c[j]?=some x):a.take (j+1)=c.take (j+1):=by
 rw [List.take_add_one,List.take_add_one,h,ha,hc]
theorem equal_any (R:IsAt X w v ks) (S:IsAt Y w u ls):Calls Tryz.prog 83 #[v,u] w fun e w'=>e=.returned (.bool (decide (ks=ls)))∧Below w.heap.size w w':=by
 obtain ⟨ao,cap,rfl,hcap,hcm,hel⟩:=R
 obtain ⟨bo,dap,rfl,hdap,hdm,hfl⟩:=S
 have HEL:=hide hel
 have HFL:=hide hfl
 have HN:=hide (show ks.length≤9223372036854775807 by simp only [maxLen] at hcm;omega)
 clear hel hfl hcap hcm hdap hdm
 by_cases hlen:ks.length=ls.length
 · have e1:((ks.length:Int) != (ls.length:Int))=false:=by simp [hlen]
   have HLen:=hide hlen
   rw [← hlen] at e1 ⊢
   clear hlen
   go_enter Tryz.func83,Tryz.ntmps83
   go_wp2
   go_loopw [13] (fun a wr=>EqR w ks ls a wr) (fun a _=>ks.length - (intOf a).toNat)
   case atStart=>exact ⟨0,rfl,Nat.zero_le _,rfl,rfl,Below.refl _ _⟩
   case round =>
    obtain ⟨j,rfl,hj,ht,hh,hb⟩:=hrel
    have HHH:=hide hh
    have HBB:=hide hb
    have HTT:=hide ht
    clear ht
    by_cases hlt:j<ks.length
    · obtain ⟨x,hx⟩ : ∃ x,ks[j]?=some x:=⟨ks[j],by simp [hlt]⟩
      obtain ⟨y,hy⟩ : ∃ y,ls[j]?=some y:=⟨ls[j]'(by have:=HLen.out;omega),by simp⟩
      obtain ⟨g,o,rfl,_,_,hc0⟩:=HEL.out j x hx
      obtain ⟨g2,o2,rfl,_,_,hd0⟩:=HFL.out j y hy
      have hc:wr.cell? ⟨g,o+j,none⟩=some (.int .i64 x):=by rw [World.cell?_of_block (a:=⟨g,o+j,none⟩) (congrArg (·[g]?) hh)];exact hc0
      have hd:wr.cell? ⟨g2,o2+j,none⟩=some (.int .i64 y):=by rw [World.cell?_of_block (a:=⟨g2,o2+j,none⟩) (congrArg (·[g2]?) hh)];exact hd0
      have d1:decide (j<ks.length)=true:=by simpa using hlt
      have HXX:=hide hx
      have HYY:=hide hy
      clear hc0 hd0 hh hb hx hy
      by_cases hxy:x=y
      · subst hxy
        have e2:(x != x)=false:=by simp
        have HTN:=hide (take_next HTT.out HXX.out HYY.out)
        generalize hnn:ks.length=n at *
        have HNN:=hide hnn
        clear hnn
        go_wp2_with fail
        go_quiet (fail)
        go_wp2
        go_roundw
        case rel=>exact ⟨j+1,by first | exact num_next hlt HN.out | go_num,by rw [HNN.out];exact hlt,HTN.out,HHH.out,below_drewN HBB.out _⟩
        case measure=>first | exact meas_int hlt HN.out | (rw [intOf_int,intOf_int];omega)
      · have e2:(x != y)=true:=by simpa using hxy
        have HNE:=hide (show decide (ks=ls)=false from by
         simp only [decide_eq_false_iff_not]
         intro e
         rw [e,HYY.out] at HXX
         exact hxy (by have:=HXX.out;cases this;rfl))
        clear hxy
        generalize ks.length=n at *
        go_wp2_with fail
        go_quiet (fail)
        go_wp2
        go_ret
        exact ⟨by rw [HNE.out];rfl,below_drewN HBB.out _⟩
    · obtain rfl:j=ks.length:=by omega
      have d1:decide (ks.length<ks.length)=false:=by simp
      have HEQ:=hide (show decide (ks=ls)=true from by
       have h1:=HTT.out
       rw [List.take_length,HLen.out,List.take_length] at h1
       simpa using h1)
      clear hh hb
      generalize ks.length=n at *
      go_wp2
      go_ret
      exact ⟨by rw [HEQ.out];rfl,HBB.out⟩
 · have e1:((ks.length:Int) != (ls.length:Int))=true:=by simp;omega
   have HNE:=hide (show decide (ks=ls)=false from by
    simp only [decide_eq_false_iff_not]
    intro e
    exact hlen (by rw [e]))
   clear hlen
   generalize ks.length=n at *
   generalize ls.length=m at *
   go_enter Tryz.func83,Tryz.ntmps83
   go_wp2
   go_ret
   exact ⟨by rw [HNE.out];rfl,Below.refl _ _⟩
theorem IsAt.drop {a:Option Addr} {n c:Nat} (R:IsAt X w (.slice a n c) ks) {m:Nat} (hm:m≤ks.length):IsAt X w (.slice (Option.map (fun x=>x.add m) a) (ks.length - m) (c - m)) (ks.drop m):=by
 obtain ⟨ao,cap,h1,h2,h3,h4⟩:=R
 cases h1
 refine ⟨_,_,by rw [List.length_drop],by rw [List.length_drop];omega,by omega,fun j k hk=>?_⟩
 rw [List.getElem?_drop] at hk
 obtain ⟨g,o,e1,e2,e3,e4⟩:=h4 _ k hk
 subst e1
 refine ⟨g,o+m,?_,e2,e3,by rw [Nat.add_assoc];exact e4⟩
 cases m <;> simp [Addr.add]
theorem drop_end {a k A:List Int} {n:Nat} (h:A=a++k) (hn:n≤k.length):A.drop (A.length - n)=k.drop (k.length - n):=by
 subst h
 rw [List.length_append,List.drop_append,List.drop_eq_nil_of_le (by omega),List.nil_append]
 congr 1
 omega
theorem drop_join {l l' : List Int} {m n:Nat} (hm:m≤l.length) (hl:l.length=l'.length) (hn:n≤m) (h1:l.drop m=l'.drop m) (h2:(l.take m).drop (m - n)=(l'.take m).drop (m - n)):l.drop (m - n)=l'.drop (m - n):=by
 have e:∀ (x:List Int),m≤x.length→x.drop (m - n)=(x.take m).drop (m - n)++x.drop m:=fun x hx=>by
  conv=>lhs;rw [← List.take_append_drop m x]
  rw [List.drop_append_of_le_length (by rw [List.length_take];omega)]
 rw [e l hm,e l' (by omega),h1,h2]
def SmR (X:Nat→Prop) (w:World) (E:Nat) (l l' : List Int) (K:Nat) (a c:Value) (wr:World):Prop:=∃ b1 b2 m,a=pp b1∧c=pp b2∧m≤K∧m≤l.length∧PileAt X wr E b1 (l.take m)∧PileAt X wr E b2 (l'.take m)∧l.drop m=l'.drop m∧Below w.heap.size w wr
theorem PileAt.dep (R:PileAt X w E b l):w.cell? ⟨b,2,none⟩=some (.int .i64 (l.length:Int)):=by
 cases R with
 | nil h _=>exact cell_of h rfl
 | cons h _ _ _ _=>rw [List.length_append];exact cell_of h rfl
theorem PileAt.top (R:PileAt X w E b l) (h:0<l.length):∃ b0 l0 ks a c,l=l0++ks∧w.heap[b]?=some (.cells #[.slice a ks.length c,.pointer (some ⟨b0,0,none⟩),.int .i64 ((l0.length+ks.length:Nat):Int)] 75 (0,0))∧0<ks.length∧ks.length≤c∧IsAt X w (.slice a ks.length c) ks∧PileAt X w E b0 l0:=by
 cases R with
 | nil _ _=>simp at h
 | @cons _ b0 l0 ks a c h1 _ h3 h4 h5 =>
  refine ⟨b0,l0,ks,a,c,rfl,h1,h3,?_,h4,h5⟩
  obtain ⟨_,_,hv,hc,_⟩:=h4
  cases hv
  exact hc
theorem info_pile:(Tryz.prog.info? 75).map (·.size)=some 3:=by kernel_rfl
theorem info_pile' : ∃ j,Tryz.prog.info? 75=some j∧j.size≠0:=by
 have h:=info_pile
 cases hi:Tryz.prog.info? 75 with
 | none=>rw [hi] at h;cases h
 | some j =>
  rw [hi] at h
  simp only [Option.map_some,Option.some.injEq] at h
  exact ⟨j,rfl,by omega⟩
theorem run_neq_same (a:Addr):(binOp .neq 43 (.pointer (some a)) (.pointer (some a))).run Tryz.prog w=.ok (.bool false) w:=by
 obtain ⟨j,hte,_⟩:=info_pile'
 have h:∀ d:Nat,(Op.equalIn (d+1) 43 (.pointer (some a)) (.pointer (some a))).run Tryz.prog w=.ok true w:=fun d=>by
  simp [Op.equalIn,run_underlying Tryz.underlying43,sizeOf,typeInfo,hte,run_sameAddr_same]
 simp only [binOp]
 simp [Op.equal,Op.maxDepth,h 9999]
theorem run_neq_other {a c:Addr} {ca cb:Array Value} {ta tb:TypeId} (hne:a≠c) (ha:w.heap[a.block]?=some (.cells ca ta (0,0))) (hb:w.heap[c.block]?=some (.cells cb tb (0,0))):(binOp .neq 43 (.pointer (some a)) (.pointer (some c))).run Tryz.prog w=.ok (.bool true) w:=by
 obtain ⟨j,hte,hsz⟩:=info_pile'
 have h:∀ d:Nat,(Op.equalIn (d+1) 43 (.pointer (some a)) (.pointer (some c))).run Tryz.prog w=.ok false w:=fun d=>by
  simp [Op.equalIn,run_underlying Tryz.underlying43,sizeOf,typeInfo,hte,hsz,run_sameAddr_other w hne ha hb]
 simp only [binOp]
 simp [Op.equal,Op.maxDepth,h 9999]
theorem same_any (R:PileAt X w E b l) (S:PileAt X w E b' l') (hX:∀ j,X j→j<w.heap.size) (hd:l.length≤4000000000000) :
    Calls Tryz.prog 71 #[pp b,pp b'] w fun e w'=>e=.returned (.bool (decide (l=l')))∧Below w.heap.size w w':=by
  have HR:=hide R
  have HS:=hide S
  have HX:=hide hX
  have HD:=hide hd
  have c1:=R.dep
  have c2:=S.dep
  clear R S hX
  by_cases hlen:l.length=l'.length
  · have HLen:=hide hlen
    have q1:((l.length:Int) != (l.length:Int))=false:=by simp
    rw [← hlen] at c2
    clear hlen hd
    go_enter Tryz.func71,Tryz.ntmps71
    go_wp2_with fail
    go_quiet (fail)
    go_wp2
    have HB0:=hide (show ∀ q,Below w.heap.size w (w.drewN q) from fun q=>below_drewN (Below.refl _ _) q)
    go_loopg [0,1] l.length (fun K a c wr=>SmR X w E l l' K a c wr)
    case atStart=>exact ⟨b,b',l.length,rfl,rfl,Nat.le_refl _,Nat.le_refl _,by rw [List.take_length];exact HR.out.keep (Kp.drewN X w _),by rw [HLen.out,List.take_length];exact HS.out.keep (Kp.drewN X w _),by rw [List.drop_length,HLen.out,List.drop_length],HB0.out _⟩
    case round =>
     obtain ⟨b1,b2,m,rfl,rfl,hmK,hml,P1,P2,hdr,hb⟩:=hrel
     have HP1:=hide P1
     have HP2:=hide P2
     have HDR:=hide hdr
     have HBW:=hide hb
     have HML:=hide hml
     have HMK:=hide hmK
     clear hdr hb hml hmK c1 c2 q1
     by_cases hbb:b1=b2
     · subst hbb
       have HEQ:=hide (show decide (l=l')=true from by
        have h1:=P1.uniq P2
        have h2:=HDR.out
        simp only [decide_eq_true_eq]
        rw [← List.take_append_drop m l,← List.take_append_drop m l',h1,h2])
       clear P1 P2
       have hq:=run_neq_same (w:=wr) ⟨b1,0,none⟩
       go_wp2
       go_ret
       exact ⟨by rw [HEQ.out];rfl,HBW.out⟩
     · have hlm:(l.take m).length=m:=by rw [List.length_take];exact Nat.min_eq_left HML.out
       have hlm' : (l'.take m).length=m:=by rw [List.length_take];exact Nat.min_eq_left (by rw [← HLen.out];exact HML.out)
       have hm0:0<m:=by
        rcases Nat.eq_zero_or_pos m with h | h
        · subst h
          exact absurd ((PileAt.nil_eq (by simpa using P1)).trans (PileAt.nil_eq (by simpa using P2)).symm) hbb
        · exact h
       obtain ⟨d1,l1,k1,a1,z1,e1,h1,p1,cp1,I1,Q1⟩:=P1.top (by omega)
       obtain ⟨d2,l2,k2,a2,z2,e2,h2,p2,cp2,I2,Q2⟩:=P2.top (by omega)
       clear P1 P2
       have hq:=run_neq_other (w:=wr) (a:=⟨b1,0,none⟩) (c:=⟨b2,0,none⟩) (by intro e;simp only [Addr.mk.injEq,and_true] at e;exact hbb e) h1 h2
       have x1:wr.cell? ⟨b1,0,none⟩=some (.slice a1 k1.length z1):=cell_of h1 rfl
       have x2:wr.cell? ⟨b2,0,none⟩=some (.slice a2 k2.length z2):=cell_of h2 rfl
       have hk1:k1.length≤m:=by have:=congrArg List.length e1;rw [hlm,List.length_append] at this;omega
       have hk2:k2.length≤m:=by have:=congrArg List.length e2;rw [hlm',List.length_append] at this;omega
       have hmb:m≤4000000000000:=by have:=HML.out;have:=HD.out;omega
       obtain ⟨n,hn⟩ : ∃ n,min k1.length k2.length=n:=⟨_,rfl⟩
       have hmn:min (k1.length:Int) (k2.length:Int)=(n:Int):=by omega
       have n1:n≤k1.length:=by omega
       have n2:n≤k2.length:=by omega
       have n0:0<n:=by omega
       have N0:=hide n0
       have HE1:=hide e1
       have HE2:=hide e2
       have HH1:=hide h1
       have HH2:=hide h2
       have HL1:=hide hlm
       have HL2:=hide hlm'
       have JN1:=hide n1
       have JN2:=hide n2
       have D1:=hide (I1.drop (m:=k1.length - n) (by omega))
       have D2:=hide (I2.drop (m:=k2.length - n) (by omega))
       have r1:k1.length - (k1.length - n)=n:=by omega
       have r2:k2.length - (k2.length - n)=n:=by omega
       rw [r1] at D1
       rw [r2] at D2
       have HNM:=hide (show n≤m by omega)
       have s1:(k1.length:Int) - (n:Int)=((k1.length - n:Nat):Int):=by omega
       have s2:(k2.length:Int) - (n:Int)=((k2.length - n:Nat):Int):=by omega
       clear Q1 Q2 I1 I2 h1 h2 e1 e2 hlm hlm' r1 r2
       obtain ⟨t1,ht1⟩ : ∃ t1,k1.length - n=t1:=⟨_,rfl⟩
       obtain ⟨t2,ht2⟩ : ∃ t2,k2.length - n=t2:=⟨_,rfl⟩
       rw [ht1] at s1 D1
       rw [ht2] at s2 D2
       have w1:IntKind.i64.wrap (t1:Int)=(t1:Int):=wrap_nat (by omega)
       have w2:IntKind.i64.wrap (t2:Int)=(t2:Int):=wrap_nat (by omega)
       have u1:(t1:Int)≤(k1.length:Int):=by omega
       have u2:(t2:Int)≤(k2.length:Int):=by omega
       have u3:(k1.length:Int)≤(z1:Int):=by omega
       have u4:(k2.length:Int)≤(z2:Int):=by omega
       have u5:(0:Int)≤(t1:Int):=by omega
       have u6:(0:Int)≤(t2:Int):=by omega
       have u7:¬ z1=t1:=by omega
       have u8:¬ z2=t2:=by omega
       have u9:t1≤k1.length:=by omega
       have u10:t2≤k2.length:=by omega
       have u11:k1.length - t1=n:=by omega
       have u12:k2.length - t2=n:=by omega
       have HT1:=hide ht1
       have HT2:=hide ht2
       clear ht1 ht2 hn n1 n2 n0 p1 p2 cp1 cp2 hmb hk1 hk2
       generalize hg1:k1.length=y1 at *
       generalize hg2:k2.length=y2 at *
       have HG1:=hide hg1
       have HG2:=hide hg2
       clear hg1 hg2
       have hmin:min y1 y2=n:=by omega
       go_upto_region 4 with (fail)
       go_cut [5] from 18 to 28 (fun v wx=>v=.int .i64 (n:Int)∧Hid (∃ q,wx=wr.drewN q))
       case first =>
        go_quiet (fail)
        all_goals go_wp2
        all_goals (
          go_meet
          exact ⟨congrArg (Value.int .i64) (by omega),hide ⟨_,rfl⟩⟩)
       case rest =>
        obtain ⟨hv5,hx5⟩:=hcut
        subst hv5
        obtain ⟨q5,hq5⟩:=hx5.out
        subst hq5
        have K5:=hide (show Kp X wr (wr.drewN q5) from Kp.drewN X wr q5)
        have B5:=hide (show Below w.heap.size w (wr.drewN q5) from below_drewN HBW.out q5)
        have x1' : (wr.drewN q5).cell? ⟨b1,0,none⟩=some (.slice a1 y1 z1):=x1
        have x2' : (wr.drewN q5).cell? ⟨b2,0,none⟩=some (.slice a2 y2 z2):=x2
        have HZ:=hide (show b1<(wr.drewN q5).heap.size∧b2<(wr.drewN q5).heap.size from ⟨lt_of_block HH1.out,lt_of_block HH2.out⟩)
        clear hq hx5 hmn hmin x1 x2
        generalize wr.drewN q5=W5 at *
        have CE:=hide (equal_any (w:=W5.drew) (D1.out.keep (K5.out.trans (Kp.drew X W5))) (D2.out.keep (K5.out.trans (Kp.drew X W5))))
        obtain ⟨z1',z2'⟩:=HZ.out
        cases hdec:decide (k1.drop t1=k2.drop t2) with
        | false =>
         rw [hdec] at CE
         have HNE:=hide (show decide (l=l')=false from by
          simp only [decide_eq_false_iff_not] at hdec ⊢
          intro e
          apply hdec
          have f1:=drop_end HE1.out (n:=n) (by rw [HG1.out];exact JN1.out)
          have f2:=drop_end HE2.out (n:=n) (by rw [HG2.out];exact JN2.out)
          rw [HG1.out,HT1.out] at f1
          rw [HG2.out,HT2.out] at f2
          rw [← f1,← f2,HL1.out,HL2.out,e])
         clear hdec
         go_wp2_with fail
         go_region_held3 (fun w'=>w'.cell? ⟨b1,0,none⟩=some (.slice a1 y1 z1)∧w'.cell? ⟨b2,0,none⟩=some (.slice a2 y2 z2)) (first | go_keep | exact ⟨(hb3.cell (p:=⟨b1,0,none⟩) z1').trans x1',(hb3.cell (p:=⟨b2,0,none⟩) z2').trans x2'⟩)
           ((go_at_call 83;refine CE.out.mono ?_;rintro e w3 ⟨rfl,hb3⟩))
         all_goals (
           go_wp2
           go_ret
           exact ⟨by rw [HNE.out];rfl,B5.out.trans ((below_of_dr hb3).mono B5.out.size)⟩)
        | true =>
         rw [hdec] at CE
         have HDN:=hide (show l.drop (m - n)=l'.drop (m - n) from by
          simp only [decide_eq_true_eq] at hdec
          refine drop_join HML.out HLen.out HNM.out HDR.out ?_
          have f1:=drop_end HE1.out (n:=n) (by rw [HG1.out];exact JN1.out)
          have f2:=drop_end HE2.out (n:=n) (by rw [HG2.out];exact JN2.out)
          rw [HG1.out,HT1.out,HL1.out] at f1
          rw [HG2.out,HT2.out,HL2.out] at f2
          rw [f1,f2,hdec])
         have HX5:=hide (show ∀ W,Below W5.drew.heap.size W5.drew W→Kp X wr W∧(∀ j,X j→j<W.heap.size)∧Below w.heap.size w W from fun W hb=>⟨K5.out.trans ((Kp.drew X W5).trans (Kp.of_below hb)),fun j hj=>Nat.lt_of_lt_of_le (HX.out j hj) (Nat.le_trans B5.out.size hb.size),B5.out.trans ((below_of_dr hb).mono B5.out.size)⟩)
         have HTT:=hide (show (l.take m).take ((l.take m).length - n)=l.take (m - n)∧(l'.take m).take ((l'.take m).length - n)=l'.take (m - n) from by
          rw [HL1.out,HL2.out,List.take_take,List.take_take,Nat.min_eq_left (by omega)]
          exact ⟨rfl,rfl⟩)
         have HMB:=hide (show m≤4000000000000 by have:=HML.out;have:=HD.out;omega)
         clear hdec
         go_wp2_with fail
         go_region_held3 (fun w'=>w'.cell? ⟨b1,0,none⟩=some (.slice a1 y1 z1)∧w'.cell? ⟨b2,0,none⟩=some (.slice a2 y2 z2)) (first | go_keep | exact ⟨(hb3.cell (p:=⟨b1,0,none⟩) z1').trans x1',(hb3.cell (p:=⟨b2,0,none⟩) z2').trans x2'⟩)
           ((go_at_call 83;refine CE.out.mono ?_;rintro e w3 ⟨rfl,hb3⟩))
         all_goals (
           obtain ⟨kp3,hx3,bw3⟩:=HX5.out w3 hb3
           have HX3:=hide hx3
           have BW3:=hide bw3
           have KP3:=hide kp3
           have C6:=hide (without_any (HP1.out.keep kp3) (n:=n) (by rw [HL1.out];exact HNM.out) hx3 (by rw [HL1.out];exact HMB.out))
           rw [HTT.out.1] at C6
           clear kp3 hx3 bw3 hb3 x1' x2' s1 s2 w1 w2 u1 u2 u3 u4 u5 u6 u7 u8 u9 u10 u11 u12
           go_wp2_with fail
           refine C6.out.mono ?_
           rintro e w6 ⟨b6,rfl,P6,hb6⟩
           have KP6:=hide (KP3.out.trans (Kp.of_below hb6))
           have BW6:=hide (BW3.out.trans (hb6.mono BW3.out.size))
           have HP6:=hide P6
           have HX6:=hide (show ∀ j,X j→j<w6.heap.size from fun j hj=>Nat.lt_of_lt_of_le (HX3.out j hj) hb6.size)
           have C7:=hide (without_any (HP2.out.keep KP6.out) (n:=n) (by rw [HL2.out];exact HNM.out) HX6.out (by rw [HL2.out];exact HMB.out))
           rw [HTT.out.2] at C7
           clear P6 hb6 C6
           go_wp2_with fail
           refine C7.out.mono ?_
           rintro e w7 ⟨b7,rfl,P7,hb7⟩
           have HP7:=hide P7
           have HP6':=hide (HP6.out.keep (Kp.of_below hb7))
           have BW7:=hide (BW6.out.trans (hb7.mono BW6.out.size))
           clear P7 hb7 C7
           go_wp2
           go_roundg (gk - 1)
           case measure=>have:=HMK.out;omega
           case rel=>exact ⟨b6,b7,m - n,rfl,rfl,by have:=HMK.out;have:=N0.out;omega,by have:=HML.out;omega,HP6'.out,HP7.out,HDN.out,BW7.out⟩)
  · have q1:((l.length:Int) != (l'.length:Int))=true:=by simp;omega
    have HNE:=hide (show decide (l=l')=false from by
     simp only [decide_eq_false_iff_not]
     intro e
     exact hlen (by rw [e]))
    clear hlen hd
    generalize l.length=n at *
    generalize l'.length=m at *
    go_enter Tryz.func71,Tryz.ntmps71
    go_wp2_with fail
    go_quiet (fail)
    go_wp2
    go_ret
    exact ⟨by rw [HNE.out];rfl,below_drewN (Below.refl _ _) _⟩
end
end Go.Proofs.YtkdojpnihinpbaaGreatDoor
