/- What right heads give: plain; takes and puts whole. -/
import Derived.Test.YtkdojpnihinpbaaGreatDoorVfUbJo
namespace Go.Proofs.YtkdojpnihinpbaaGreatDoor
open Go.RowKit
structure FdOk (p:Pg) (f:Fd):Prop where
  lo:∀ k∈f.lo,isKB p.ty.length k=true
  re:∀ k∈f.re,freeB p.ty.length k=true
  ar:∀ t∈f.ar,inB t p.ty.length=true
  co:0<f.co.length
  pa:0≤f.pa∧f.pa≤(f.lo.length:Int)
  nl:f.lo.length≤4096
  nr:f.re.length≤4096
  na:f.ar.length≤4096
  nc:f.co.length≤65536
  op:∀ i∈f.co,1≤i.o∧i.o≤29
structure Hok (p:Pg):Prop where
  nt:p.ty.length≤1024
  nf:p.fu.length≤4096
  na:p.ta.length≤1024
  ty:∀ l∈p.ty,0<l.length∧l.length≤4096∧∀ k∈l,freeB p.ty.length k=true
  fu:∀ f∈p.fu,FdOk p f
  ta:∀ t∈p.ta,tableB p t=true
theorem firstBad_none {p:Pg}:∀ {i:Nat} {l:List Fd},firstBad p i l=none→∀ f∈l,headB p.ty.length f=true
  | _,[],_,f,h=>by cases h
  | i,g :: r,h,f,hf=>by
   unfold firstBad at h
   split at h
   · rename_i hc
     rcases List.mem_cons.mp hf with rfl | hf
     · exact hc.1
     · exact firstBad_none h f hf
   · cases h
theorem hok_of {p:Pg} (hs:sndP p=true) (hh:headsP p=none):Hok p:=by
 simp only [sndP,Bool.and_eq_true] at hs
 obtain ⟨h1,h2,h3,h4⟩:=hs
 obtain ⟨n1,t1⟩:=eachB_le h1
 obtain ⟨n2,t2⟩:=eachB_le h2
 obtain ⟨n3,t3⟩:=eachB_le h3
 unfold headsP at hh
 split at hh
 · cases hh
 · rename_i hty
   split at hh
   · cases hh
   · rename_i hfb
     split at hh
     · rename_i hta
       rw [Bool.and_eq_true,List.all_eq_true] at hta
       rw [Bool.not_eq_false,List.all_eq_true] at hty
       refine ⟨n1,n2,n3,fun l hl=>?_,fun f hf=>?_,hta.1⟩
       · have:=hty l hl
         rw [Bool.and_eq_true,decide_eq_true_eq,List.all_eq_true] at this
         have h5:=t1 l hl
         simp only [sndL,decide_eq_true_eq] at h5
         exact ⟨this.1,h5,this.2⟩
       · have h5:=firstBad_none hfb f hf
         have h6:=t2 f hf
         simp only [headB,Bool.and_eq_true,List.all_eq_true,decide_eq_true_eq] at h5
         simp only [sndF,Bool.and_eq_true,decide_eq_true_eq] at h6
         obtain ⟨s1,s2,s3,s4,s5,s6⟩:=h6
         obtain ⟨nc,tc⟩:=eachB_le s6
         exact ⟨h5.1.1.1,h5.1.2,h5.1.1.2,h5.2,⟨s2,s3⟩,s1,s4,s5,nc,fun i hi=>by
          have:=tc i hi
          simp only [sndI,Bool.and_eq_true,decide_eq_true_eq] at this
          exact this⟩
     · cases hh
theorem free_kb {n:Nat} {k:Int} (h:freeB n k=true):isKB n k=true:=by
 simp only [freeB,Bool.and_eq_true] at h
 exact h.1
theorem par_kb {p:Pg} {g:Fd} (h:FdOk p g):∀ k∈parK g,isKB p.ty.length k=true:=fun k hk=>h.lo k (List.mem_of_mem_take hk)
theorem in_nat {x:Int} {m:Nat} (h:inB x m=true):∃ k:Nat,x=(k:Int)∧k<m:=by
 simp only [inB,decide_eq_true_eq] at h
 exact ⟨x.toNat,by omega,by omega⟩
theorem call_at {p:Pg} {m:Nat} {g:Fd} (hx:p.fu[m]?=some g):callP p (m:Int)=g:=by
 unfold callP
 rw [Int.toNat_natCast,hx]
 rfl
theorem table_at {p:Pg} (H:Hok p) {t:Nat} (ht:t<p.ta.length):∃ tb m0 g,p.ta[t]?=some tb∧tb[0]?=some ((m0:Nat):Int)∧p.fu[m0]?=some g∧itemP p (t:Int)=g:=by
 obtain ⟨tb,htb⟩ : ∃ tb,p.ta[t]?=some tb:=⟨p.ta[t],by simp⟩
 have h1:=H.ta tb (List.mem_of_getElem? htb)
 unfold tableB at h1
 rw [Bool.and_eq_true,decide_eq_true_eq,List.all_eq_true] at h1
 obtain ⟨x0,hx0⟩ : ∃ x,tb[0]?=some x:=⟨tb[0]'h1.1,by simp⟩
 have h2:=h1.2 x0 (List.mem_of_getElem? hx0)
 simp only [Bool.and_eq_true] at h2
 obtain ⟨m0,rfl,hm⟩:=in_nat h2.1.1
 obtain ⟨g,hg⟩ : ∃ g,p.fu[m0]?=some g:=⟨p.fu[m0],by simp⟩
 refine ⟨tb,m0,g,htb,hx0,hg,?_⟩
 unfold itemP
 rw [Int.toNat_natCast,htb,Option.getD_some,hx0,Option.getD_some,Int.toNat_natCast,hg]
 rfl
theorem ite_elim {α:Type} {c:Prop} [Decidable c] {a b:α} (P:α→Prop) (h1:c→P a) (h2:¬ c→P b):P (if c then a else b):=by
 split
 · exact h1 (by assumption)
 · exact h2 (by assumption)
section
variable {B A:Nat} {w w' : World} {p:Pg} {f:Fd} {V:Fv} {fi at_ mo:Int} {X:Nat→Prop}
theorem takes_any (F:FlAt B w A p f V fi at_ mo) (H:Hok p) (hf:FdOk p f) (i:In3) (hnm:namesB p f i=true):Calls Tryz.prog 74 #[.pointer (some ⟨A,0,none⟩),.agg #[.int .i64 i.o,.int .i64 i.a,.int .i64 i.b]] w (TksO p.ty.length (takesP p f i) w):=by
 have hn:=H.nt
 obtain ⟨C,hC⟩ : ∃ C:Must→Prop,C=fun mu=>Calls Tryz.prog 74 #[.pointer (some ⟨A,0,none⟩),.agg #[.int .i64 i.o,.int .i64 i.a,.int .i64 i.b]] w (TksO p.ty.length mu w):=⟨_,rfl⟩
 suffices hs:C (takesP p f i) by rw [hC] at hs;exact hs
 unfold takesP
 refine ite_elim C ?_ ?_
 · intro h
   have h2:inB i.a f.lo.length=true:=by unfold namesB at hnm;rw [if_neg (by omega),if_pos (by omega)] at hnm;exact hnm
   obtain ⟨k,hk,hlt⟩:=in_nat h2
   obtain ⟨o,ho⟩ : ∃ o,f.lo[k]?=some o:=⟨f.lo[k],by simp⟩
   rw [show (f.lo[i.a.toNat]?).getD 0=o by rw [hk,Int.toNat_natCast,ho];rfl]
   rw [hC]
   exact tk_4 F i hn h hk ho (hf.lo o (List.mem_of_getElem? ho))
 · intro _
   refine ite_elim C ?_ ?_
   · intro h
     rcases h with h | h
     · rw [hC]
       exact tk_5 F i hn h
     · rw [hC]
       exact tk_6 F i hn h
   · intro _
     refine ite_elim C ?_ ?_
     · intro h
       rw [hC]
       exact tk_7 F i hn h
     · intro _
       refine ite_elim C ?_ ?_
       · intro h
         rw [hC]
         exact tk_8 F i hn h
       · intro _
         refine ite_elim C ?_ ?_
         · intro h
           rcases h with h | h | h | h | h
           · rw [hC]
             exact tk_10 F i hn h
           · rw [hC]
             exact tk_12 F i hn h
           · rw [hC]
             exact tk_25 F i hn h
           · rw [hC]
             exact tk_26 F i hn h
           · rw [hC]
             exact tk_27 F i hn h
         · intro _
           refine ite_elim C ?_ ?_
           · intro h
             rcases h with h | h
             · rw [hC]
               exact tk_14 F i hn h
             · rw [hC]
               exact tk_16 F i hn h
           · intro _
             refine ite_elim C ?_ ?_
             · intro h
               rw [hC]
               exact tk_15 F i hn h
             · intro _
               refine ite_elim C ?_ ?_
               · intro h
                 rw [hC]
                 exact tk_17 F i hn h
               · intro _
                 refine ite_elim C ?_ ?_
                 · intro h
                   rw [hC]
                   exact tk_18 F i hn h
                 · intro _
                   refine ite_elim C ?_ ?_
                   · intro h
                     rw [hC]
                     exact tk_19 F i hn h
                   · intro _
                     refine ite_elim C ?_ ?_
                     · intro h
                       rcases h with h | h
                       · rw [hC]
                         exact tk_20 F i hn h
                       · rw [hC]
                         exact tk_21 F i hn h
                     · intro _
                       refine ite_elim C ?_ ?_
                       · intro h
                         have h2:inB i.a p.fu.length=true:=by unfold namesB at hnm;rw [if_neg (by omega),if_neg (by omega),if_neg (by omega),if_neg (by omega),if_neg (by omega),if_neg (by omega),if_pos h] at hnm;exact hnm
                         obtain ⟨m,hm,hlt⟩:=in_nat h2
                         obtain ⟨g,hg⟩ : ∃ g,p.fu[m]?=some g:=⟨p.fu[m],by simp⟩
                         have hgo:=H.fu g (List.mem_of_getElem? hg)
                         rw [show callP p i.a=g by rw [hm];exact call_at hg]
                         rw [hC]
                         exact tk_22 F i hn h hm hg hgo.pa (par_kb hgo) hgo.nl
                       · intro _
                         refine ite_elim C ?_ ?_
                         · intro h
                           have h2:inB i.a p.ta.length=true:=by unfold namesB at hnm;rw [if_neg (by omega),if_neg (by omega),if_neg (by omega),if_neg (by omega),if_neg (by omega),if_neg (by omega),if_neg (by omega),if_pos h] at hnm;exact hnm
                           obtain ⟨t,ht,hlt⟩:=in_nat h2
                           obtain ⟨tb,m0,g,h3,h4,h5,h6⟩:=table_at H hlt
                           have hgo:=H.fu g (List.mem_of_getElem? h5)
                           rw [show itemP p i.a=g by rw [ht];exact h6]
                           rw [hC]
                           exact tk_23 F i hn h ht h3 h4 h5 hgo.pa (par_kb hgo) hgo.nl
                         · intro _
                           refine ite_elim C ?_ ?_
                           · intro h
                             rw [hC]
                             exact tk_24 F i hn h (fun k hk=>free_kb (hf.re k hk)) hf.nr
                           · intro _
                             rw [hC]
                             exact tk_rest F i hn (by omega)
def LowOk (n:Nat) (i:In3) (low:Int):Prop:=(i.o=14∨i.o=15∨i.o=16→isKB n low=true∧ptrB low=true)∧(i.o=17→isKB n low=true∧arrB low=true)∧(i.o=6→isKB n low=true)
theorem puts_any (F:FlAt B w A p f V fi at_ mo) (H:Hok p) (hf:FdOk p f) (i:In3) (top low:Int) (hX:∀ j,X j→B≤j∧j<w.heap.size) (hnm:namesB p f i=true) (hlow:LowOk p.ty.length i low) :
    Calls Tryz.prog 76 #[.pointer (some ⟨A,0,none⟩),.agg #[.int .i64 i.o,.int .i64 i.a,.int .i64 i.b],.int .i64 top,.int .i64 low] w (PtO X fi at_ (putsP p f i top low) w):=by
  have hn:=H.nt
  obtain ⟨hl1,hl2,hl3⟩:=hlow
  have hpt:∀ (h:i.o=14∨i.o=15∨i.o=16),2≤bareK low:=fun h=>by
   have:=(hl1 h).2
   simp only [ptrB,decide_eq_true_eq] at this
   exact this.1
  obtain ⟨C,hC⟩ : ∃ C:Except Int (List Int)→Prop,C=fun r=>Calls Tryz.prog 76 #[.pointer (some ⟨A,0,none⟩),.agg #[.int .i64 i.o,.int .i64 i.a,.int .i64 i.b],.int .i64 top,.int .i64 low] w (PtO X fi at_ r w):=⟨_,rfl⟩
  suffices hs:C (putsP p f i top low) by rw [hC] at hs;exact hs
  unfold putsP
  refine ite_elim C ?_ ?_
  · intro h
    rcases h with h | h | h | h | h
    · rw [hC]
      exact pu_1 F i top low hX h
    · rw [hC]
      exact pu_7 F i top low hX h
    · rw [hC]
      exact pu_8 F i top low hX h
    · rw [hC]
      exact pu_18 F i top low hX h
    · rw [hC]
      exact pu_20 F i top low hX h
  · intro _
    refine ite_elim C ?_ ?_
    · intro h
      rw [hC]
      exact pu_2 F i top low hX h
    · intro _
      refine ite_elim C ?_ ?_
      · intro h
        have h2:inB i.a f.lo.length=true:=by unfold namesB at hnm;rw [if_neg (by omega),if_pos (by omega)] at hnm;exact hnm
        obtain ⟨k,hk,hlt⟩:=in_nat h2
        obtain ⟨o,ho⟩ : ∃ o,f.lo[k]?=some o:=⟨f.lo[k],by simp⟩
        rw [show (f.lo[i.a.toNat]?).getD 0=o by rw [hk,Int.toNat_natCast,ho];rfl]
        rw [hC]
        exact pu_3 F i top low hX h hk ho
      · intro _
        refine ite_elim C ?_ ?_
        · intro h
          rw [hC]
          exact pu_6 F i top low hX h
        · intro _
          refine ite_elim C ?_ ?_
          · intro h
            have h2:inB i.a p.ty.length=true:=by unfold namesB at hnm;rw [if_neg (by omega),if_neg (by omega),if_neg (by omega),if_pos (by omega)] at hnm;exact hnm
            obtain ⟨k,hk,hlt⟩:=in_nat h2
            rcases h with h | h
            · rw [hC]
              exact pu_11 F i top low hX h hk (by omega)
            · rw [hC]
              exact pu_21 F i top low hX h hk (by omega)
          · intro _
            refine ite_elim C ?_ ?_
            · intro h
              have h2:inB i.a p.ty.length=true:=by unfold namesB at hnm;rw [if_neg (by omega),if_neg (by omega),if_neg (by omega),if_pos (by omega)] at hnm;exact hnm
              obtain ⟨k,hk,hlt⟩:=in_nat h2
              rw [hC]
              exact pu_12 F i top low hX h hk (by omega)
            · intro _
              refine ite_elim C ?_ ?_
              · intro h
                have h2:inB i.a f.ar.length=true:=by unfold namesB at hnm;rw [if_neg (by omega),if_neg (by omega),if_neg (by omega),if_neg (by omega),if_pos h] at hnm;exact hnm
                obtain ⟨k,hk,hlt⟩:=in_nat h2
                obtain ⟨o,ho⟩ : ∃ o,f.ar[k]?=some o:=⟨f.ar[k],by simp⟩
                rw [show (f.ar[i.a.toNat]?).getD 0=o by rw [hk,Int.toNat_natCast,ho];rfl]
                obtain ⟨y,hy,hyl⟩:=in_nat (hf.ar o (List.mem_of_getElem? ho))
                rw [hC]
                exact pu_13 F i top low hX h hk ho (by omega)
              · intro _
                refine ite_elim C ?_ ?_
                · intro h
                  cases hfd:fieldP p low i.a with
                  | some y =>
                   rw [hC]
                   exact pu_14a F i top low hX h hn (hl1 (by omega)).1 (hpt (by omega)) hfd
                  | none =>
                   rw [hC]
                   exact pu_14b F i top low hX h hn (hl1 (by omega)).1 (hpt (by omega)) hfd
                · intro _
                  refine ite_elim C ?_ ?_
                  · intro h
                    cases hfd:fieldP p low i.a with
                    | some y =>
                     rw [hC]
                     exact pu_15a F i top low hX h hn (hl1 (by omega)).1 (hpt (by omega)) hfd (fun e=>if_pos e) (fun e=>if_neg e)
                    | none =>
                     rw [hC]
                     exact pu_15b F i top low hX h hn (hl1 (by omega)).1 (hpt (by omega)) hfd
                  · intro _
                    refine ite_elim C ?_ ?_
                    · intro h
                      have h2:inB i.b p.ty.length=true:=by unfold namesB at hnm;rw [if_neg (by omega),if_neg (by omega),if_neg (by omega),if_neg (by omega),if_neg (by omega),if_pos h] at hnm;exact hnm
                      obtain ⟨t,ht,hlt⟩:=in_nat h2
                      cases hfd:fieldP p low i.a with
                      | some y =>
                       rw [hC]
                       exact pu_16a F i top low hX h hn (hl1 (by omega)).1 (hpt (by omega)) hfd ht hlt (fun e=>if_pos e) (fun e=>if_neg (by rw [e];simp))
                      | none =>
                       rw [hC]
                       exact pu_16b F i top low hX h hn (hl1 (by omega)).1 (hpt (by omega)) hfd
                    · intro _
                      refine ite_elim C ?_ ?_
                      · intro h
                        obtain ⟨h3,h4⟩:=hl2 h
                        rw [hC]
                        refine pu_17 F i top low hX h ?_
                        rcases kind_in hn h3 with h5 | h5
                        · unfold arrB at h4
                          have h6:=of_decide_eq_true h4
                          rw [show bareK low=low by unfold bareK;rw [if_neg (by omega)]] at h6
                          omega
                        · omega
                      · intro _
                        refine ite_elim C ?_ ?_
                        · intro h
                          rw [hC]
                          exact pu_19 F i top low hX h
                        · intro _
                          refine ite_elim C ?_ ?_
                          · intro h
                            have h2:inB i.a p.fu.length=true:=by unfold namesB at hnm;rw [if_neg (by omega),if_neg (by omega),if_neg (by omega),if_neg (by omega),if_neg (by omega),if_neg (by omega),if_pos h] at hnm;exact hnm
                            obtain ⟨m,hm,hlt⟩:=in_nat h2
                            obtain ⟨g,hg⟩ : ∃ g,p.fu[m]?=some g:=⟨p.fu[m],by simp⟩
                            rw [show callP p i.a=g by rw [hm];exact call_at hg]
                            rw [hC]
                            exact pu_22 F i top low hX h hm hg
                          · intro _
                            refine ite_elim C ?_ ?_
                            · intro h
                              have h2:inB i.a p.ta.length=true:=by unfold namesB at hnm;rw [if_neg (by omega),if_neg (by omega),if_neg (by omega),if_neg (by omega),if_neg (by omega),if_neg (by omega),if_neg (by omega),if_pos h] at hnm;exact hnm
                              obtain ⟨t,ht,hlt⟩:=in_nat h2
                              obtain ⟨tb,m0,g,h3,h4,h5,h6⟩:=table_at H hlt
                              rw [show itemP p i.a=g by rw [ht];exact h6]
                              rw [hC]
                              exact pu_23 F i top low hX h ht h3 h4 h5
                            · intro _
                              refine ite_elim C ?_ ?_
                              · intro h
                                have h2:inB i.b p.ty.length=true:=by
                                 unfold namesB at hnm
                                 rw [if_neg (by omega),if_neg (by omega),if_neg (by omega),if_neg (by omega),if_neg (by omega),if_neg (by omega),if_neg (by omega),if_neg (by omega),if_pos h] at hnm
                                 simp only [Bool.and_eq_true] at hnm
                                 exact hnm.1.2
                                obtain ⟨t,ht,hlt⟩:=in_nat h2
                                rw [hC]
                                exact pu_29 F i top low hX h ht (by omega)
                              · intro _
                                rw [hC]
                                exact pu_rest F i top low hX (by omega)
end
end Go.Proofs.YtkdojpnihinpbaaGreatDoor
