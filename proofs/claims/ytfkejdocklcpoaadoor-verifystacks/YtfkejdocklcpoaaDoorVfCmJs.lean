/- soundFlow and Size. -/
import Derived.Test.YtfkejdocklcpoaaDoorCdSTJs
namespace Go.Proofs.YtfkejdocklcpoaaDoor
open Go.RowKit
section
variable {p:Pg} {f:Fd}
theorem puts_err {i:In3} {top low e:Int} (h:putsP p f i top low=.error e):e≠0:=by
 obtain ⟨C,hC⟩ : ∃ C:Except Int (List Int)→Prop,C=fun r=>∀ e,r=.error e→e≠0:=⟨_,rfl⟩
 have ok:∀ l,C (.ok l):=fun l=>by rw [hC];intro e h;cases h
 have e11:C (.error 11):=by rw [hC];intro e h;cases h;decide
 have e8:C (.error 8):=by rw [hC];intro e h;cases h;decide
 suffices hs:C (putsP p f i top low) by rw [hC] at hs;exact hs e h
 unfold putsP
 refine ite_elim C (fun _=>ok _) fun _=>ite_elim C (fun _=>ok _) fun _=>ite_elim C (fun _=>ok _) fun _=>ite_elim C (fun _=>ok _) fun _=>ite_elim C (fun _=>ok _) fun _=>ite_elim C (fun _=>ok _) fun _=>ite_elim C (fun _=>ok _) fun _=>ite_elim C (fun _=>?_) fun _=>ite_elim C (fun _=>?_) fun _=>ite_elim C (fun _=>?_) fun _=>ite_elim C (fun _=>ok _) fun _=>ite_elim C (fun _=>ok _) fun _=>ite_elim C (fun _=>ok _) fun _=>ite_elim C (fun _=>ok _) fun _=>ite_elim C (fun _=>ok _) fun _=>ok _
 · cases fieldP p low i.a with
   | none=>exact e11
   | some k=>exact ok _
 · cases fieldP p low i.a with
   | none=>exact e11
   | some k=>exact ite_elim C (fun _=>ok _) (fun _=>e8)
 · cases fieldP p low i.a with
   | none=>exact e11
   | some k=>exact ite_elim C (fun _=>ok _) (fun _=>e11)
theorem look_err {x:Nat} {i:In3} {s:List Int} {e:Int} (h:lookP p f x i s=.error e):e≠0:=by
 unfold lookP at h
 dsimp only at h
 split at h
 · cases h;decide
 · split at h
   · cases h;decide
   · split at h
     · cases h;decide
     · split at h
       · rename_i e' he
         cases h
         exact puts_err he
       · split at h
         · cases h
         · cases h;decide
theorem come_err {F:Fl} {x:Nat} {s:List Int} {e:Int} (h:comeP F x s=.error e):e≠0:=by
 unfold comeP at h
 split at h
 · cases h
 · split at h
   · cases h
   · cases h;decide
theorem comes_err {s:List Int} {e:Int}:∀ {l:List Int} {F:Fl},comesP s l F=.error e→e≠0
  | [],F,h=>by cases h
  | y :: r,F,h=>by
   unfold comesP at h
   cases hc:comeP F y.toNat s with
   | ok G=>rw [hc] at h;exact comes_err h
   | error e'=>rw [hc] at h;cases h;exact come_err hc
theorem run_err {x:Nat} {e:Int}:∀ {n:Nat} {F:Fl},runP p f n F=.error (x,e)→e≠0
  | 0,F,h=>by cases h
  | n+1,F,h=>by
   unfold runP at h
   split at h
   · cases h
   · rename_i y hy
     cases hs:stepP p f y F with
     | error e' =>
      rw [hs] at h
      cases h
      unfold stepP at hs
      split at hs
      · rename_i e2 he
        cases hs
        exact look_err he
      · exact comes_err hs
     | ok G=>rw [hs] at h;exact run_err h
theorem funcs_ok:∀ {l:List Fd} {i:Nat},(funcsP p i l).2.2=0→funcsP p i l=(0,0,0)∧∀ f∈l,∃ F,followP p f=.ok F
  | [],i,_=>⟨rfl,fun f h=>by cases h⟩
  | g :: r,i,h=>by
   unfold funcsP at h ⊢
   cases hf:followP p g with
   | error xe =>
    rw [hf] at h
    exact absurd h (run_err hf)
   | ok F =>
    rw [hf] at h
    obtain ⟨h1,h2⟩:=funcs_ok h
    refine ⟨h1,fun f hm=>?_⟩
    rcases List.mem_cons.mp hm with rfl | hm
    · exact ⟨F,hf⟩
    · exact h2 f hm
theorem check_ok (h:(checkP p).2.2=0):checkP p=(0,0,0)∧sndP p=true∧headsP p=none∧∀ f∈p.fu,∃ F,followP p f=.ok F:=by
 unfold checkP at h ⊢
 cases hs:sndP p with
 | false=>rw [hs] at h;cases h
 | true =>
  rw [hs] at h
  rw [if_neg (by simp)] at h ⊢
  cases hh:headsP p with
  | some i=>rw [hh] at h;cases h
  | none =>
   rw [hh] at h
   obtain ⟨h1,h2⟩:=funcs_ok h
   exact ⟨h1,rfl,rfl,h2⟩
theorem run_inv (H:Hok p) (hf:FdOk p f):∀ {n k:Nat} {F G:Fl},FInv p f k F→runP p f n F=.ok G→∃ j,j≤k+n∧FInv p f j G
  | 0,k,F,G,I,h=>by cases h;exact ⟨k,by omega,I⟩
  | n+1,k,F,G,I,h=>by
   unfold runP at h
   split at h
   · cases h;exact ⟨k,by omega,I⟩
   · rename_i y hy
     cases hs:stepP p f y F with
     | error e'=>rw [hs] at h;cases h
     | ok G1 =>
      rw [hs] at h
      obtain ⟨j,hj,hI⟩:=run_inv H hf (step_inv H hf I hy hs).1 h
      exact ⟨j,by omega,hI⟩
theorem follow_inv (H:Hok p) (hf:FdOk p f) {F:Fl} (h:followP p f=.ok F):FInv p f (f.co.length+1) F:=by
 obtain ⟨j,hj,hI⟩:=run_inv H hf (fl0_inv hf.co).1 h
 refine ⟨hI.la,hI.lw,fun y t ht=>⟨(hI.st y t ht).1,?_⟩,?_,hI.wa⟩
 · have:=(hI.st y t ht).2
   exact Nat.le_trans this (Nat.mul_le_mul_left _ (by omega))
 · exact Nat.le_trans hI.mo (Nat.mul_le_mul_left _ (by omega))
end
section
variable {B:Nat} {w:World} {p:Pg}
set_option maxRecDepth 100000 in
set_option maxHeartbeats 1000000 in
theorem soundFlow_any {v1 v2 v3 v4:Value} (P:PgAt B w v1 v2 v3 v4 p) (hB:B≤w.heap.size) (hT:Tb w) (hb0:0<B) (m:Int):Calls Tryd.prog 20 #[.agg #[v1,v2,v3,v4],.int .i64 m] w (SfO B p m w):=by
 obtain ⟨a1,d1,hv1⟩:=sl_form P.ty
 obtain ⟨a2,d2,hv2⟩:=sl_form P.fu
 obtain ⟨a3,d3,hv3⟩:=sl_form P.ta
 obtain ⟨a4,d4,hv4⟩:=sl_form P.st
 subst hv1 hv2 hv3 hv4
 obtain ⟨W1,hW1⟩ : ∃ W1,w.alloc (.cells #[.slice a1 p.ty.length d1,.slice a2 p.fu.length d2,.slice a3 p.ta.length d3,.slice a4 p.st.length d4] 27)=W1:=⟨_,rfl⟩
 have b1:Below w.heap.size w W1:=by rw [← hW1];exact (Below.refl _ _).alloc (Nat.le_refl _) _
 have e1:W1.heap[w.heap.size]?=some (.cells #[.slice a1 p.ty.length d1,.slice a2 p.fu.length d2,.slice a3 p.ta.length d3,.slice a4 p.st.length d4] 27 (0,0)):=by rw [← hW1];exact heap_new _ _ rfl
 have HBX:=hide (show ∀ W:World,Below W1.heap.size W1 W→W.cell? ⟨w.heap.size,0,none⟩=some (.slice a1 p.ty.length d1)∧W.cell? ⟨w.heap.size,1,none⟩=some (.slice a2 p.fu.length d2)∧W.cell? ⟨w.heap.size,2,none⟩=some (.slice a3 p.ta.length d3)∧W.cell? ⟨w.heap.size,3,none⟩=some (.slice a4 p.st.length d4) from fun W h=>by
  have h1:=(h.block _ (lt_of_block e1)).trans e1
  exact ⟨cell_of h1 rfl,cell_of h1 rfl,cell_of h1 rfl,cell_of h1 rfl⟩)
 have HPG:=hide (show ∀ W:World,Below W1.heap.size W1 W→PgAt B W (.slice a1 p.ty.length d1) (.slice a2 p.fu.length d2) (.slice a3 p.ta.length d3) (.slice a4 p.st.length d4) p∧B≤W.heap.size∧Tb W from fun W h=>⟨P.keep (Nat.le_refl _) (fun j hj=>(bel_tr b1 h).block j (Nat.lt_of_lt_of_le hj hB)),Nat.le_trans hB (bel_tr b1 h).size,hT.keep ((bel_tr b1 h).block 0 (Nat.lt_of_lt_of_le hb0 hB))⟩)
 have HB1:=hide b1
 obtain ⟨k0,k1,k2,k3⟩:=HBX.out W1 (Below.refl _ _)
 have hl0:=lt_of_block e1
 have HCK:=hide (check_any (HPG.out W1 (Below.refl _ _)).1 (HPG.out W1 (Below.refl _ _)).2.1 (HPG.out W1 (Below.refl _ _)).2.2 hb0)
 have HBZ:=hide hb0
 clear P hB hT hb0 b1 e1
 obtain ⟨n2,hN2⟩ : ∃ n,p.fu.length=n:=⟨_,rfl⟩
 rw [hN2] at HBX HPG HCK k1 hW1 ⊢
 have HN2:=hide hN2
 clear hN2
 generalize p.ty.length=n1 at *
 generalize p.ta.length=n3 at *
 generalize p.st.length=n4 at *
 have HCC:=hide (check_ok (p:=p))
 unfold CkO at HCK
 obtain ⟨cf,hcf⟩ : ∃ c,(checkP p).1=c:=⟨_,rfl⟩
 obtain ⟨ca,hca⟩ : ∃ c,(checkP p).2.1=c:=⟨_,rfl⟩
 obtain ⟨ce,hce⟩ : ∃ c,(checkP p).2.2=c:=⟨_,rfl⟩
 rw [hcf,hca,hce] at HCK
 have HCE:=hide hce
 clear hcf hca hce
 by_cases hc0:ce=0
 · have q0:(ce != 0)=false:=by simp [hc0]
   obtain ⟨_,o1,o2,o3⟩:=HCC.out (HCE.out.trans hc0)
   cases hin:inB m n2 with
   | false =>
    have HF:=hide (show ∀ W:World,Below w.heap.size w W→SfO B p m w (.returned (.tuple #[.pointer none,.int .i64 6])) W from fun W h=>⟨h,.inr (.inl ⟨HCE.out.trans hc0,by rw [HN2.out];exact hin,rfl⟩)⟩)
    have HW:=hide (fun W:World=>within_any W m n2)
    rw [hin] at HW
    clear hc0 o1 o2 o3
    go_enter Tryd.func20,Tryd.ntmps20
    go_wp2_with fail
    refine HCK.out.mono ?_
    rintro e w2 ⟨rfl,hb2⟩
    have HB2:=hide hb2
    clear hb2 k0 k1 k2 k3 hW1
    obtain ⟨k0,k1,k2,k3⟩:=HBX.out w2 HB2.out
    have hl2:w.heap.size<w2.heap.size:=Nat.lt_of_lt_of_le hl0 HB2.out.size
    go_wp2_with fail
    refine (HW.out _).mono ?_
    rintro e w3 ⟨rfl,rfl⟩
    go_wp2
    go_ret2
    exact HF.out _ (bel_tr HB1.out HB2.out)
   | true =>
    obtain ⟨mk,rfl,hmk⟩:=in_nat hin
    obtain ⟨f,hf⟩ : ∃ f,p.fu[mk]?=some f:=⟨p.fu[mk]'(by rw [HN2.out];exact hmk),by simp⟩
    obtain ⟨F,hF⟩:=o3 f (List.mem_of_getElem? hf)
    have HFO:=hide (fun (W:World) (h:Below W1.heap.size W1 W)=>follow_any (HPG.out W h).1 (HPG.out W h).2.1 (hok_of o1 o2) (HPG.out W h).2.2 HBZ.out hf)
    have HFN:=hide (show ∀ W:World,Below w.heap.size w W→∀ (A ahb wtb E:Nat) (V:Fv) (at_:Int),FlM B E A ahb wtb W p f V mk at_ F→SfO B p mk w (.returned (.tuple #[.pointer (some ⟨A,0,none⟩),.int .i64 0])) W from fun W h A ahb wtb E V at_ hM=>⟨h,.inr (.inr ⟨mk,f,F,A,ahb,wtb,E,V,at_,HCE.out.trans hc0,rfl,hf,hF,rfl,hM⟩)⟩)
    have HFF:=hide hF
    have HW:=hide (fun W:World=>within_any W (mk:Int) n2)
    rw [hin] at HW
    clear hc0 o1 o2 o3 hf hF
    go_enter Tryd.func20,Tryd.ntmps20
    go_wp2_with fail
    refine HCK.out.mono ?_
    rintro e w2 ⟨rfl,hb2⟩
    have HB2:=hide hb2
    clear hb2 k0 k1 k2 k3 hW1
    obtain ⟨k0,k1,k2,k3⟩:=HBX.out w2 HB2.out
    have hl2:w.heap.size<w2.heap.size:=Nat.lt_of_lt_of_le hl0 HB2.out.size
    go_wp2_with fail
    refine (HW.out _).mono ?_
    rintro e w3 ⟨rfl,rfl⟩
    go_wp2_with fail
    refine (HFO.out _ HB2.out).mono ?_
    rintro e w4 ⟨h4,hb4⟩
    rw [HFF.out] at h4
    obtain ⟨A,ahb,wtb,E,V,at_,rfl,hM⟩:=h4
    have HM:=hide hM
    have HB4:=hide (bel_tr HB1.out (bel_tr HB2.out hb4))
    clear hM hb4
    go_wp2
    go_ret2
    exact HFN.out _ HB4.out _ _ _ _ _ _ HM.out
 · have q0:(ce != 0)=true:=by simpa using hc0
   have HF:=hide (show ∀ W:World,Below w.heap.size w W→SfO B p m w (.returned (.tuple #[.pointer none,.int .i64 ce])) W from fun W h=>⟨h,.inl ⟨by rw [HCE.out];exact hc0,by rw [HCE.out]⟩⟩)
   clear hc0
   go_enter Tryd.func20,Tryd.ntmps20
   go_wp2_with fail
   refine HCK.out.mono ?_
   rintro e w2 ⟨rfl,hb2⟩
   have HB2:=hide hb2
   clear hb2
   go_wp2
   go_ret2
   exact HF.out _ (bel_tr HB1.out HB2.out)
end
end Go.Proofs.YtfkejdocklcpoaaDoor

namespace Go.Proofs.YtfkejdocklcpoaaDoor
open Go.RowKit
def arW (p:Pg) (l:List Int):Nat:=(l.map fun t=>((p.ty[t.toNat]?).getD []).length).sum
def szP (p:Pg) (f:Fd) (F:Fl):Nat:=f.lo.length+F.mo+arW p f.ar
def SzO (p:Pg) (m:Int) (w:World) (e:Ending) (W:World):Prop:=Below w.heap.size w W ∧
  (((checkP p).2.2≠0∧e=.returned (.tuple #[.int .i64 0,.int .i64 (checkP p).2.2])) ∨
  ((checkP p).2.2=0∧inB m p.fu.length=false∧e=.returned (.tuple #[.int .i64 0,.int .i64 6])) ∨
  ∃ (k:Nat) (f:Fd) (F:Fl),(checkP p).2.2=0∧m=(k:Int)∧p.fu[k]?=some f∧followP p f=.ok F∧e=.returned (.tuple #[.int .i64 (szP p f F:Int),.int .i64 0]))
theorem arW_next {p:Pg} {l:List Int} {j:Nat} {x:Int} (h:l[j]?=some x):arW p (l.take (j+1))=arW p (l.take j)+((p.ty[x.toNat]?).getD []).length:=by
 unfold arW
 rw [List.take_add_one,h]
 simp
theorem arW_le {p:Pg} (H:∀ l∈p.ty,l.length≤4096):∀ l:List Int,arW p l≤4096*l.length
  | []=>by simp [arW]
  | x :: r=>by
   have ih:=arW_le H r
   have:((p.ty[x.toNat]?).getD []).length≤4096:=by
    cases h:p.ty[x.toNat]? with
    | none=>simp
    | some l=>exact H l (List.mem_of_getElem? h)
   unfold arW at *
   simp only [List.map_cons,List.sum_cons,List.length_cons]
   omega
def SzR (p:Pg) (l:List Int) (b:Nat) (w:World) (a c:Value) (wr:World):Prop:=∃ j:Nat,c=.int .i64 j∧j≤l.length∧a=.int .i64 ((b+arW p (l.take j):Nat):Int)∧Below w.heap.size w wr
section
variable {B:Nat} {w:World} {p:Pg}
set_option maxRecDepth 100000 in
set_option maxHeartbeats 1000000 in
theorem size_any {v1 v2 v3 v4:Value} (P:PgAt B w v1 v2 v3 v4 p) (hB:B≤w.heap.size) (hT:Tb w) (hb0:0<B) (m:Int):Calls Tryd.prog 12 #[.agg #[v1,v2,v3,v4],.int .i64 m] w (SzO p m w):=by
 obtain ⟨a1,d1,hv1⟩:=sl_form P.ty
 obtain ⟨a2,d2,hv2⟩:=sl_form P.fu
 obtain ⟨a3,d3,hv3⟩:=sl_form P.ta
 obtain ⟨a4,d4,hv4⟩:=sl_form P.st
 subst hv1 hv2 hv3 hv4
 obtain ⟨W1,hW1⟩ : ∃ W1,w.alloc (.cells #[.slice a1 p.ty.length d1,.slice a2 p.fu.length d2,.slice a3 p.ta.length d3,.slice a4 p.st.length d4] 27)=W1:=⟨_,rfl⟩
 have b1:Below w.heap.size w W1:=by rw [← hW1];exact (Below.refl _ _).alloc (Nat.le_refl _) _
 have e1:W1.heap[w.heap.size]?=some (.cells #[.slice a1 p.ty.length d1,.slice a2 p.fu.length d2,.slice a3 p.ta.length d3,.slice a4 p.st.length d4] 27 (0,0)):=by rw [← hW1];exact heap_new _ _ rfl
 have HBX:=hide (show ∀ W:World,Below W1.heap.size W1 W→W.cell? ⟨w.heap.size,0,none⟩=some (.slice a1 p.ty.length d1)∧W.cell? ⟨w.heap.size,1,none⟩=some (.slice a2 p.fu.length d2)∧W.cell? ⟨w.heap.size,2,none⟩=some (.slice a3 p.ta.length d3)∧W.cell? ⟨w.heap.size,3,none⟩=some (.slice a4 p.st.length d4) from fun W h=>by
  have h1:=(h.block _ (lt_of_block e1)).trans e1
  exact ⟨cell_of h1 rfl,cell_of h1 rfl,cell_of h1 rfl,cell_of h1 rfl⟩)
 have HPG:=hide (show ∀ W:World,Below W1.heap.size W1 W→PgAt B W (.slice a1 p.ty.length d1) (.slice a2 p.fu.length d2) (.slice a3 p.ta.length d3) (.slice a4 p.st.length d4) p∧B≤W.heap.size∧Tb W from fun W h=>⟨P.keep (Nat.le_refl _) (fun j hj=>(bel_tr b1 h).block j (Nat.lt_of_lt_of_le hj hB)),Nat.le_trans hB (bel_tr b1 h).size,hT.keep ((bel_tr b1 h).block 0 (Nat.lt_of_lt_of_le hb0 hB))⟩)
 have HB1:=hide b1
 obtain ⟨k0,k1,k2,k3⟩:=HBX.out W1 (Below.refl _ _)
 have hl0:=lt_of_block e1
 have HSF:=hide (soundFlow_any (HPG.out W1 (Below.refl _ _)).1 (HPG.out W1 (Below.refl _ _)).2.1 (HPG.out W1 (Below.refl _ _)).2.2 hb0 m)
 clear P hB hT hb0 b1 e1
 obtain ⟨n1,hN1⟩ : ∃ n,p.ty.length=n:=⟨_,rfl⟩
 rw [hN1] at HBX HPG HSF k0 hW1 ⊢
 have HN1:=hide hN1
 clear hN1
 obtain ⟨n2,hN2⟩ : ∃ n,p.fu.length=n:=⟨_,rfl⟩
 rw [hN2] at HBX HPG HSF k1 hW1 ⊢
 have HN2:=hide hN2
 clear hN2
 generalize p.ta.length=n3 at *
 generalize p.st.length=n4 at *
 go_enter Tryd.func12,Tryd.ntmps12
 go_wp2_with fail
 refine HSF.out.mono ?_
 rintro e w2 ⟨hb2,(⟨hc,rfl⟩ | ⟨hc,hi,rfl⟩ | ⟨k,f,F,A,ahb,wtb,E,V,at_,hc,hm,hf,hF,rfl,hM⟩)⟩
 · have HB2:=hide (bel_tr HB1.out hb2)
   have HC:=hide hc
   obtain ⟨ce,hce⟩ : ∃ c,(checkP p).2.2=c:=⟨_,rfl⟩
   have HF:=hide (show ∀ W,Below w.heap.size w W→SzO p m w (.returned (.tuple #[.int .i64 0,.int .i64 ce])) W from fun W h=>⟨h,.inl ⟨HC.out,by rw [hce]⟩⟩)
   rw [hce] at hc ⊢
   have q0:(ce != 0)=true:=by simpa using hc
   clear hb2 hc hce
   go_wp2
   go_ret2
   exact HF.out _ HB2.out
 · have HB2:=hide (bel_tr HB1.out hb2)
   have HF:=hide (show ∀ W,Below w.heap.size w W→SzO p m w (.returned (.tuple #[.int .i64 0,.int .i64 6])) W from fun W h=>⟨h,.inr (.inl ⟨hc,hi,rfl⟩)⟩)
   clear hb2 hc hi
   go_wp2
   go_ret2
   exact HF.out _ HB2.out
 · obtain ⟨_,o1,o2,_⟩:=check_ok hc
   have H:=hok_of o1 o2
   have hfo:=H.fu f (List.mem_of_getElem? hf)
   have I:=follow_inv H hfo hF
   have HF:=hide (show ∀ W,Below w.heap.size w W→SzO p m w (.returned (.tuple #[.int .i64 (szP p f F:Int),.int .i64 0])) W from fun W h=>⟨h,.inr (.inr ⟨k,f,F,hc,hm,hf,hF,rfl⟩)⟩)
   have c7:w2.cell? ⟨A,7,none⟩=some V.u1:=cell_of hM.fl.box rfl
   have c9:w2.cell? ⟨A,9,none⟩=some V.u3:=cell_of hM.fl.box rfl
   have c13:w2.cell? ⟨A,13,none⟩=some (.int .i64 (F.mo:Int)):=cell_of hM.fl.box rfl
   obtain ⟨x1,z1,h1⟩:=sl_form hM.fl.lo
   obtain ⟨x3,z3,h3⟩:=sl_form hM.fl.ar
   rw [h1] at c7
   rw [h3] at c9
   have hlA:=(hM.lt (.inl rfl)).2
   have RA:=hM.fl.ar
   rw [h3] at RA
   obtain ⟨_,_,hv,_,hel⟩:=RA
   cases hv
   have HEL:=hide (show ∀ (W:World),Below w2.heap.size w2 W→∀ (j:Nat) (t:Int),f.ar[j]?=some t→∃ g o,x3=some ⟨g,o,none⟩∧g<W.heap.size∧W.cell? ⟨g,o+j,none⟩=some (.int .i64 t) from fun W h j t ht=>by
    obtain ⟨g,o,e1,e2,e3,_⟩:=ints_at hel ht
    have hg:g<w2.heap.size:=Nat.lt_of_lt_of_le e2 hM.fl.hB
    exact ⟨g,o,e1,Nat.lt_of_lt_of_le hg h.size,(h.cell (p:=⟨g,o+j,none⟩) hg).trans e3⟩)
   have HAR:=hide hfo.ar
   have HMO:=hide (show f.lo.length≤4096∧F.mo≤300000000∧f.ar.length≤4096 from ⟨hfo.nl,by have:=I.mo;have:=hfo.nc;omega,hfo.na⟩)
   have HAW:=hide (arW_le fun l hl=>(H.ty l hl).2.1)
   have HB2:=hide hb2
   have HSZ:=hide (show szP p f F=f.lo.length+F.mo+arW p f.ar from rfl)
   have hlI:w.heap.size<w2.heap.size:=Nat.lt_of_lt_of_le hl0 hb2.size
   clear hb2 hc hm hf hF hM o1 o2 H hfo I h1 h3 hel k0 k1 k2 k3 hW1
   obtain ⟨k0,k1,k2,k3⟩:=HBX.out w2 HB2.out
   generalize f.lo.length=ll at *
   generalize F.mo=mo at *
   obtain ⟨hb1,hb2,hb3⟩:=HMO.out
   have hwp:IntKind.i64.wrap ((ll:Int)+(mo:Int))=(ll:Int)+(mo:Int):=by
    rw [show (ll:Int)+(mo:Int)=((ll+mo:Nat):Int) by omega]
    exact wrap_nat (by omega)
   generalize hal:f.ar.length=al at *
   have HAL:=hide hal
   clear hal
   go_wp2_with fail
   go_region
   go_wp2
   rw [show (ll:Int)+(mo:Int)=((ll+mo:Nat):Int) by omega]
   have HB3:=hide (show Below w2.heap.size w2 w2.drew from below_drew (Below.refl _ _))
   go_loopw [8,37] (fun a c wr=>SzR p f.ar (ll+mo) w2 a c wr) (fun _ c _=>al - (intOf c).toNat)
   case atStart=>exact ⟨0,rfl,Nat.zero_le _,rfl,HB3.out⟩
   case round =>
    obtain ⟨j,rfl,hj,rfl,hb⟩:=hrel
    have HBR:=hide hb
    rw [HAL.out] at hj
    clear hb k0 k1 k2 k3 c7 c9 c13
    obtain ⟨k0,k1,k2,k3⟩:=HBX.out wr (bel_tr HB2.out HBR.out)
    have hlw:w.heap.size<wr.heap.size:=Nat.lt_of_lt_of_le hlI HBR.out.size
    by_cases hlt:j<al
    · obtain ⟨t,ht⟩ : ∃ t,f.ar[j]?=some t:=⟨f.ar[j]'(by rw [HAL.out];exact hlt),by simp⟩
      obtain ⟨g,o,rfl,hg,hc⟩:=HEL.out wr HBR.out j t ht
      obtain ⟨tk,rfl,htk⟩:=in_nat (HAR.out t (List.mem_of_getElem? ht))
      obtain ⟨l,hl⟩ : ∃ l,p.ty[tk]?=some l:=⟨p.ty[tk],by simp⟩
      obtain ⟨PW,hBw,_⟩:=HPG.out wr (bel_tr HB2.out HBR.out)
      obtain ⟨g2,o2,c2,nn,u,hv,hnn,hlt2,hg2,hc2,hsl⟩:=lst_at PW.ty hl
      cases hv
      obtain ⟨ua,uc,rfl⟩:=sl_form hsl
      have hg2w:g2<wr.heap.size:=Nat.lt_of_lt_of_le hg2 hBw
      have d1:decide (j<al)=true:=by simpa using hlt
      have d2:decide (tk<n1)=true:=by simpa using hlt2
      have HNX:=hide (show ll+mo+arW p (f.ar.take (j+1))=ll+mo+arW p (f.ar.take j)+l.length from by rw [arW_next ht,Int.toNat_natCast,hl,Option.getD_some];omega)
      have hle:ll+mo+arW p (f.ar.take (j+1))≤400000000:=by
       have h1:=HAW.out (f.ar.take (j+1))
       have h2:(f.ar.take (j+1)).length≤4096:=by rw [List.length_take,HAL.out];omega
       omega
      rw [HNX.out] at hle
      clear PW hnn hsl hl ht htk
      generalize l.length=len at *
      obtain ⟨base,hba⟩ : ∃ b,ll+mo+arW p (f.ar.take j)=b:=⟨_,rfl⟩
      rw [hba] at hle HNX ⊢
      clear hba
      have hwb:IntKind.i64.wrap ((base:Int)+(len:Int))=(base:Int)+(len:Int):=by
       rw [show (base:Int)+(len:Int)=((base+len:Nat):Int) by omega]
       exact wrap_nat (by omega)
      have d3:(j:Int)≤4096:=by omega
      go_wp2
      go_roundw
      case rel=>exact ⟨j+1,by first | exact num_next hlt (by omega) | go_num,by rw [HAL.out];exact hlt,by rw [HNX.out];first | rfl | (congr 1;omega),HBR.out⟩
      case measure=>first | exact meas_int hlt (by omega) | (rw [intOf_int,intOf_int];omega)
    · obtain rfl:al=j:=by omega
      have d1:decide (al<al)=false:=by simp
      have HE:=hide (show ll+mo+arW p (f.ar.take al)=szP p f F from by rw [HSZ.out,← HAL.out,List.take_length])
      rw [HE.out]
      go_wp2
      go_ret2
      exact HF.out _ (bel_tr HB1.out (bel_tr HB2.out HBR.out))
end
end Go.Proofs.YtfkejdocklcpoaaDoor
