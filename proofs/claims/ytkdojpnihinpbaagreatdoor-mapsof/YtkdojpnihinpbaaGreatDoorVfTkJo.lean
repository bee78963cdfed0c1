/- An operation of a region that draws is taken first, or is the next: the library's laws with their proofs filled in. -/
import Derived.Deep.RegionHeld3
import Derived.KernelRfl
import Derived.Test.YtkdojpnihinpbaaGreatDoorVfOJo
namespace Go.Proofs.YtkdojpnihinpbaaGreatDoor
open Go
theorem sp:(∀ (a:Act) (d:Tmp) (v:Value),a.put (some d) v={ a with tmps:=a.tmps.setIfInBounds d v })∧(∀ (a:Act) (v:Value),a.put none v=a)∧(∀ (l:List Value) (i:Nat) (v:Value),l.toArray.setIfInBounds i v=(l.set i v).toArray)∧(∀ (x:Value) (l:List Value) (v:Value),(x :: l).set 0 v=v :: l)∧(∀ (x:Value) (l:List Value) (n:Nat) (v:Value),(x :: l).set (n+1) v=x :: l.set n v) :=
  ⟨fun _ _ _=>rfl,fun _ _=>rfl,fun l i v=>List.setIfInBounds_toArray l i v,fun _ _ _=>rfl,fun _ _ _ _=>rfl⟩
theorem dr {ops:Array Oper} {i:Nat} {o:Oper} {l:List Oper} (h:ops.toList.drop i=o :: l):ops[i]?=some o:=by
 rw [← Array.getElem?_toList,← List.head?_drop,h]
 rfl
section
variable {P:Program} {ops:Array Oper} {Q:Exit→Act→World→Prop} {md:Region.Mode} {S:World→Prop} {fuel:Nat} {listed:Array Bool} {a:Act} {w:World}
theorem tk (i:Nat) {oi:Oper} {l:List Oper} {v:Value} (h:wpAnyH P md ops Q S fuel (listed.setIfInBounds i true) (a.put oi.dst v) w) (hi:ops.toList.drop i=oi :: l:=by rfl) (hy:∀ w,S w→(execOp a.eval oi).run P w=.ok (.value v) w:=by intro W h;(try dsimp only at h);go_simp;try with_reducible rfl) (hS:S w:=by assumption) (hs:Region.noSelect ops=true:=by kernel_rfl) (hf:Region.free md ops listed i=true:=by kernel_rfl) (hr:(Region.ready md ops listed).contains i=true:=by kernel_rfl) (hQ:∀ c a w,Q (.panic c) (a.put oi.dst v) w→Q (.panic c) a w:=by exact fun _ _ _ h=>h) (hg:Region.wanted oi (yielded ops a.tmps)=true:=by rfl):wpAnyH P md ops Q S (fuel+1) listed a w :=
  wpAnyH_take (dr hi) hs hf hr hQ (Or.inl ⟨hg,hy⟩) hS h
theorem tn (i:Nat) {oi:Oper} {l:List Oper} (h:wpAnyH P md ops Q S fuel (listed.setIfInBounds i true) (a.put oi.dst undef) w) (hi:ops.toList.drop i=oi :: l:=by rfl) (hS:S w:=by assumption) (hs:Region.noSelect ops=true:=by kernel_rfl) (hf:Region.free md ops listed i=true:=by kernel_rfl) (hr:(Region.ready md ops listed).contains i=true:=by kernel_rfl) (hQ:∀ c a w,Q (.panic c) (a.put oi.dst undef) w→Q (.panic c) a w:=by exact fun _ _ _ h=>h) (hg:Region.wanted oi (yielded ops a.tmps)=false:=by rfl):wpAnyH P md ops Q S (fuel+1) listed a w :=
  wpAnyH_take (dr hi) hs hf hr hQ (Or.inr ⟨hg,rfl⟩) hS h
theorem rd (i:Nat) {o:Oper} {l:List Oper} (h:∀ K' : Act→World→Prop,Shut (∀ a w,S w→(S w→wpAnyH P md ops Q S fuel (listed.setIfInBounds i true) a w)→K' a w)→if Region.wanted o (yielded ops a.tmps)=true then Oper.wp P o a w K' Q else K' (a.put o.dst undef) w) (hi:ops.toList.drop i=o :: l:=by rfl) (hr:Region.ready md ops listed=[i]:=by kernel_rfl):wpAnyH P md ops Q S (fuel+1) listed a w :=
  wpAnyH_ready hr (by simp) (AllReadyH.cons (dr hi) h AllReadyH.nil)
end
end Go.Proofs.YtkdojpnihinpbaaGreatDoor

namespace Go.Proofs.YtkdojpnihinpbaaGreatDoor
open Go.RowKit
section
variable {w w' : World} {B:Nat}
theorem require_ok (w:World) (f a e:Int):Calls Tryz.prog 70 #[.agg #[.int .i64 f,.int .i64 a],.bool true,.int .i64 e] w fun x w'=>x=.returned (.tuple #[])∧Below w.heap.size w w':=(require_any w f a e true).mono fun x w' ⟨h,hb⟩=>by
 rcases h with ⟨_,h⟩ | ⟨h,_⟩
 · exact ⟨h,hb⟩
 · cases h
theorem require_bad (w:World) (f a e:Int):Calls Tryz.prog 70 #[.agg #[.int .i64 f,.int .i64 a],.bool false,.int .i64 e] w fun x w'=>x=.panicked (fch f a e)∧Below w.heap.size w w':=(require_any w f a e false).mono fun x w' ⟨h,hb⟩=>by
 rcases h with ⟨h,_⟩ | ⟨_,h⟩
 · cases h
 · exact ⟨h,hb⟩
def HdO (p:Pg) (w:World) (e:Ending) (W:World):Prop:=(match headsP p with
  | none=>∃ v,e=.returned v
  | some i=>e=.panicked (fch i 0 12))∧Below w.heap.size w W
def tyB (n:Nat) (l:List Int):Bool:=decide (0<l.length) && l.all (freeB n)
def H1R (p:Pg) (w:World) (a:Value) (wr:World):Prop:=∃ j:Nat,a=.int .i64 j∧j≤p.ty.length∧(p.ty.take j).all (tyB p.ty.length)=true∧Below w.heap.size w wr
def H2R (p:Pg) (w:World) (a:Value) (wr:World):Prop:=∃ j:Nat,a=.int .i64 j∧j≤p.fu.length∧firstBad p 0 p.fu=firstBad p j (p.fu.drop j)∧Below w.heap.size w wr
def H3R (p:Pg) (w:World) (a:Value) (wr:World):Prop:=∃ j:Nat,a=.int .i64 j∧j≤p.ta.length∧(p.ta.take j).all (tableB p)=true∧Below w.heap.size w wr
set_option maxRecDepth 100000 in
set_option maxHeartbeats 2000000 in
theorem heads_any {p:Pg} {v1 v2 v3 v4:Value} (P:PgAt B w v1 v2 v3 v4 p) (hB:B≤w.heap.size) (hP:∀ f∈p.fu,0≤f.pa∧f.pa≤(f.lo.length:Int)) (hn1:p.ty.length≤1024) (hn2:p.fu.length≤4096) (hn3:p.ta.length≤1024):Calls Tryz.prog 68 #[.agg #[v1,v2,v3,v4]] w (HdO p w):=by
 have HPG:=hide P
 have HPA:=hide hP
 obtain ⟨a1,d1',hv1⟩:=sl_form P.ty
 obtain ⟨a2,d2',hv2⟩:=sl_form P.fu
 obtain ⟨a3,d3,hv3⟩:=sl_form P.ta
 obtain ⟨a4,d4,hv4⟩:=sl_form P.st
 subst hv1 hv2 hv3 hv4
 obtain ⟨W1,hW1⟩ : ∃ W1,(w.alloc (.cells #[.slice a1 p.ty.length d1',.slice a2 p.fu.length d2',.slice a3 p.ta.length d3,.slice a4 p.st.length d4] 27)).alloc (.cells #[.int .i64 0,.int .i64 0] 67)=W1:=⟨_,rfl⟩
 have b1:Below w.heap.size w W1:=by rw [← hW1];exact ((Below.refl _ _).alloc (Nat.le_refl _) _).alloc (by simp) _
 have e1:W1.heap[w.heap.size]?=some (.cells #[.slice a1 p.ty.length d1',.slice a2 p.fu.length d2',.slice a3 p.ta.length d3,.slice a4 p.st.length d4] 27 (0,0)):=by rw [← hW1,Below.heap_alloc _ _ _ (by simp)];exact heap_new _ _ rfl
 have e2:W1.heap[w.heap.size+1]?=some (.cells #[.int .i64 0,.int .i64 0] 67 (0,0)):=by rw [← hW1];exact heap_new _ _ (by simp)
 have HBX:=hide (show ∀ W:World,Below W1.heap.size W1 W→W.cell? ⟨w.heap.size,0,none⟩=some (.slice a1 p.ty.length d1')∧W.cell? ⟨w.heap.size,1,none⟩=some (.slice a2 p.fu.length d2')∧W.cell? ⟨w.heap.size,2,none⟩=some (.slice a3 p.ta.length d3)∧W.cell? ⟨w.heap.size+1,0,none⟩=some (.int .i64 0)∧W.cell? ⟨w.heap.size+1,1,none⟩=some (.int .i64 0)∧w.heap.size<W.heap.size∧w.heap.size+1<W.heap.size from fun W h=>by
  have h1:=(h.block _ (lt_of_block e1)).trans e1
  have h2:=(h.block _ (lt_of_block e2)).trans e2
  exact ⟨cell_of h1 rfl,cell_of h1 rfl,cell_of h1 rfl,cell_of h2 rfl,cell_of h2 rfl,lt_of_block h1,lt_of_block h2⟩)
 have HB1:=hide (show ∀ W:World,Below W1.heap.size W1 W→Below w.heap.size w W from fun W h=>b1.trans (h.mono b1.size))
 have HKP:=hide (show ∀ W:World,Below W1.heap.size W1 W→PgAt B W (.slice a1 p.ty.length d1') (.slice a2 p.fu.length d2') (.slice a3 p.ta.length d3) (.slice a4 p.st.length d4) p∧B≤W.heap.size from fun W h=>⟨P.keep (Nat.le_refl _) fun i hi=>((HB1.out W h).block i (Nat.lt_of_lt_of_le hi hB)),Nat.le_trans hB (HB1.out W h).size⟩)
 obtain ⟨k1,k2,k3,k4,k5,k6,k7⟩:=HBX.out W1 (Below.refl _ _)
 clear P hB b1 e1 e2 hP
 generalize hN1:p.ty.length=n1 at *
 generalize hN2:p.fu.length=n2 at *
 generalize hN3:p.ta.length=n3 at *
 have HN1:=hide hN1
 have HN2:=hide hN2
 have HN3:=hide hN3
 clear hN1 hN2 hN3
 have i1:(n1:Int)≤1024:=by omega
 have i2:(n2:Int)≤4096:=by omega
 have i3:(n3:Int)≤1024:=by omega
 have HW1:=hide hW1
 clear hW1
 go_enter Tryz.func68,Tryz.ntmps68
 go_wp2
 rw [HW1.out]
 clear HW1
 go_loopw [13] (fun a wr=>H1R p W1 a wr) (fun a _=>n1 - (intOf a).toNat)
 case atStart=>exact ⟨0,rfl,Nat.zero_le _,rfl,Below.refl _ _⟩
 case round =>
  obtain ⟨j,rfl,hj,hall,hb⟩:=hrel
  have HAL:=hide hall
  have HBW:=hide hb
  rw [HN1.out] at hj
  clear hall hb k1 k2 k3 k4 k5 k6 k7
  obtain ⟨k1,k2,k3,k4,k5,k6,k7⟩:=HBX.out wr HBW.out
  by_cases hlt:j<n1
  · obtain ⟨l,hl⟩ : ∃ l,p.ty[j]?=some l:=⟨p.ty[j]'(by rw [HN1.out];exact hlt),by simp⟩
    obtain ⟨PW,hBw⟩:=HKP.out wr HBW.out
    obtain ⟨g,o,c,n,u,hv,hn,hlt',hg,hc,hsl⟩:=lst_at PW.ty hl
    cases hv
    obtain ⟨ua,uc,hu⟩:=sl_form hsl
    subst hu
    have d1:decide (j<n1)=true:=by simpa using hlt
    have hgw:g<wr.heap.size:=Nat.lt_of_lt_of_le hg hBw
    obtain ⟨W2,hW2⟩ : ∃ W2,wr.alloc (.cells #[.slice ua l.length uc] 59)=W2:=⟨_,rfl⟩
    have b2:Below wr.heap.size wr W2:=by rw [← hW2];exact (Below.refl _ _).alloc (Nat.le_refl _) _
    have c2:W2.cell? ⟨wr.heap.size,0,none⟩=some (.slice ua l.length uc):=by rw [← hW2];exact cell_of (heap_new _ _ rfl) rfl
    have HBW2:=hide (bel_tr HBW.out b2)
    obtain ⟨m1,m2,m3,m4,m5,m6,m7⟩:=HBX.out W2 HBW2.out
    have HFR:=hide (show ∀ W:World,Below W2.heap.size W2 W→Calls Tryz.prog 80 #[.slice ua l.length uc,.int .i64 n1] W fun e w'=>e=.returned (.bool (l.all (freeB n1)))∧w' = W from fun W h=>free_any n1 (ints_keep (Nat.le_refl _) (fun i hi=>(bel_tr b2 h).block i (Nat.lt_of_lt_of_le hi hBw)) hsl))
    have HBAD:=hide (show tyB n1 l=false→∀ W:World,Below W1.heap.size W1 W→HdO p w (.panicked (fch 0 0 12)) W from fun h W hW=>by
     refine ⟨?_,HB1.out W hW⟩
     have:(p.ty.all fun l=>decide (0<l.length) && l.all (freeB p.ty.length))=false:=all_bad (s:=fun l=>decide (0<l.length) && l.all (freeB p.ty.length)) hl (by rw [HN1.out];exact h)
     unfold headsP
     rw [if_pos this]
     rfl)
    have HTY:=hide (show tyB n1 l=(decide (0<l.length) && l.all (freeB n1)) from rfl)
    have HL:=hide hl
    clear hl hsl PW hn hlt' b2 hBw hg
    generalize l.length=ll at *
    generalize l.all (freeB n1)=fb at *
    by_cases h0:0<ll
    · have z0:decide (0<ll)=true:=by simpa using h0
      have z1:decide ((0:Int)<(ll:Int))=true:=by simp;omega
      rw [z0,Bool.true_and] at HTY
      go_wp2_with fail
      refine wp_region_held_drew (S:=(fun W=>Below W1.heap.size W1 W∧W.cell? ⟨w.heap.size,0,none⟩=some (.slice (some ⟨g,o,none⟩) n1 d1')∧W.cell? ⟨w.heap.size+1,0,none⟩=some (.int .i64 0)∧W.cell? ⟨w.heap.size+1,1,none⟩=some (.int .i64 0)∧W.cell? ⟨wr.heap.size,0,none⟩=some (.slice ua ll uc))) (by kernel_rfl) ⟨below_drew HBW2.out,m1,m4,m5,c2⟩ (fun hHeld1=>?_)
      refine tk 0 ?_;simp only [sp]
      refine tk 1 ?_;simp only [sp]
      refine tk 2 ?_;simp only [sp]
      refine tk 3 ?_;simp only [sp]
      refine tk 4 ?_;simp only [sp]
      refine tk 5 ?_;simp only [sp]
      refine tk 6 ?_;simp only [sp]
      refine tk 7 ?_;simp only [sp]
      refine tk 8 ?_;simp only [sp]
      refine tk 9 ?_;simp only [sp]
      refine tk 10 ?_;simp only [sp]
      refine rd 11 (fun K hK=>?_)
      go_simp
      go_at_call 80
      refine (HFR.out _ (below_drew (Below.refl _ _))).mono ?_
      rintro e w3 ⟨rfl,rfl⟩
      go_wp2_with fail
      refine hK.out _ _ (by assumption) (fun hHeld13=>?_)
      clear hK K
      try simp only [sp]
      refine tk 12 ?_;simp only [sp]
      refine rd 13 (fun K hK=>?_)
      go_simp
      go_at_call 70
      refine (require_any _ 0 0 12 fb).mono ?_
      rintro e w4 ⟨(⟨hk4,rfl⟩ | ⟨hk4,rfl⟩),hb4⟩
      rotate_left
      · exact ⟨rfl,HBAD.out (HTY.out.trans hk4) w4 (bel_tr (below_drew HBW2.out) hb4)⟩
      have HZ:=hide (bel_tr (below_drew HBW2.out) hb4)
      have HX4:=HBX.out w4 HZ.out
      have c4:w4.cell? ⟨wr.heap.size,0,none⟩=some (.slice ua ll uc):=(hb4.cell (p:=⟨wr.heap.size,0,none⟩) (World.block_lt_of_cell? W2.drew _ c2)).trans c2
      go_wp2_with fail
      refine hK.out _ _ ⟨HZ.out,HX4.1,HX4.2.2.2.1,HX4.2.2.2.2.1,c4⟩ (fun hHeld15=>?_)
      clear hK K
      try simp only [sp]
      refine wpAnyH_done (by kernel_rfl) ?_ _
      have HK:=hide hk4
      clear hb4 hk4
      go_wp2
      go_roundw
      case rel=>exact ⟨j+1,by first | exact num_next hlt (by omega) | go_num,by rw [HN1.out];exact hlt,all_next HL.out HAL.out (by rw [HN1.out];exact HTY.out.trans HK.out),HZ.out⟩
      case measure=>first | exact meas_int hlt (by omega) | (rw [intOf_int,intOf_int];omega)
    · have z0:decide (0<ll)=false:=by simpa using h0
      have z1:decide ((0:Int)<(ll:Int))=false:=by simp;omega
      rw [z0,Bool.false_and] at HTY
      go_wp2_with fail
      refine wp_region_held_drew (S:=(fun W=>Below W1.heap.size W1 W∧W.cell? ⟨w.heap.size,0,none⟩=some (.slice (some ⟨g,o,none⟩) n1 d1')∧W.cell? ⟨w.heap.size+1,0,none⟩=some (.int .i64 0)∧W.cell? ⟨w.heap.size+1,1,none⟩=some (.int .i64 0)∧W.cell? ⟨wr.heap.size,0,none⟩=some (.slice ua ll uc))) (by kernel_rfl) ⟨below_drew HBW2.out,m1,m4,m5,c2⟩ (fun hHeld16=>?_)
      refine tk 0 ?_;simp only [sp]
      refine tk 1 ?_;simp only [sp]
      refine tk 2 ?_;simp only [sp]
      refine tk 3 ?_;simp only [sp]
      refine tk 4 ?_;simp only [sp]
      refine tk 5 ?_;simp only [sp]
      refine tn 6 ?_;simp only [sp]
      refine tn 7 ?_;simp only [sp]
      refine tn 8 ?_;simp only [sp]
      refine tn 9 ?_;simp only [sp]
      refine tn 10 ?_;simp only [sp]
      refine tn 11 ?_;simp only [sp]
      refine tk 12 ?_;simp only [sp]
      refine wpAnyH_ready (rs:=[13]) (by kernel_rfl) (by simp) ?_
      refine AllReadyH.cons (dr rfl) (fun K hK=>?_) AllReadyH.nil
      go_simp
      go_at_call 70
      refine (require_bad _ 0 0 12).mono ?_
      rintro e w4 ⟨rfl,hb4⟩
      exact ⟨rfl,HBAD.out HTY.out w4 (bel_tr (below_drew HBW2.out) hb4)⟩
  · obtain rfl:n1=j:=by omega
    have d1:decide (n1<n1)=false:=by simp
    have HT1:=hide (show (p.ty.all fun l=>decide (0<l.length) && l.all (freeB p.ty.length))=true from by have:=HAL.out;rwa [← HN1.out,List.take_length] at this)
    clear HAL
    go_wp2
    go_loopw [35] (fun a wr'=>H2R p W1 a wr') (fun a _=>n2 - (intOf a).toNat)
    case atStart=>exact ⟨0,rfl,Nat.zero_le _,rfl,HBW.out⟩
    case round =>
     clear HBW k1 k2 k3 k4 k5 k6 k7
     obtain ⟨i,rfl,hi,hfb,hb⟩:=hrel
     have HFB:=hide hfb
     have HBW:=hide hb
     rw [HN2.out] at hi
     clear hfb hb
     obtain ⟨k1,k2,k3,k4,k5,k6,k7⟩:=HBX.out wr HBW.out
     by_cases hlt:i<n2
     · obtain ⟨f,hf⟩ : ∃ f,p.fu[i]?=some f:=⟨p.fu[i]'(by rw [HN2.out];exact hlt),by simp⟩
       obtain ⟨PW,hBw⟩:=HKP.out wr HBW.out
       obtain ⟨g,o,c,n,v1,v2,v3,v4,hv,hn,hlt',hg,⟨y0,y1,y2,y3,y4⟩,r1,r2,r3,r4⟩:=fd_at PW.fu hf
       cases hv
       obtain ⟨x1,z1,hz1⟩:=sl_form r1
       obtain ⟨x2,z2,hz2⟩:=sl_form r2
       obtain ⟨x3,z3,hz3⟩:=sl_form r3
       obtain ⟨x4,z4,hz4⟩:=sl_form r4
       subst hz1 hz2 hz3 hz4
       have d2:decide (i<n2)=true:=by simpa using hlt
       have hgw:g<wr.heap.size:=Nat.lt_of_lt_of_le hg hBw
       obtain ⟨W2,hW2⟩ : ∃ W2,wr.alloc (.cells #[.int .i64 f.pa,.slice x1 f.lo.length z1,.slice x2 f.re.length z2,.slice x3 f.ar.length z3,.slice x4 f.co.length z4] 40)=W2:=⟨_,rfl⟩
       have b2:Below wr.heap.size wr W2:=by rw [← hW2];exact (Below.refl _ _).alloc (Nat.le_refl _) _
       have e2:W2.heap[wr.heap.size]?=some (.cells #[.int .i64 f.pa,.slice x1 f.lo.length z1,.slice x2 f.re.length z2,.slice x3 f.ar.length z3,.slice x4 f.co.length z4] 40 (0,0)):=by rw [← hW2];exact heap_new _ _ rfl
       have HBW2:=hide (bel_tr HBW.out b2)
       obtain ⟨m1,m2,m3,m4,m5,m6,m7⟩:=HBX.out W2 HBW2.out
       have HFX:=hide (show ∀ W:World,Below W2.heap.size W2 W→W.cell? ⟨wr.heap.size,0,none⟩=some (.int .i64 f.pa)∧W.cell? ⟨wr.heap.size,1,none⟩=some (.slice x1 f.lo.length z1)∧W.cell? ⟨wr.heap.size,2,none⟩=some (.slice x2 f.re.length z2)∧W.cell? ⟨wr.heap.size,3,none⟩=some (.slice x3 f.ar.length z3)∧W.cell? ⟨wr.heap.size,4,none⟩=some (.slice x4 f.co.length z4) from fun W h=>by
        have h1:=(h.block _ (lt_of_block e2)).trans e2
        exact ⟨cell_of h1 rfl,cell_of h1 rfl,cell_of h1 rfl,cell_of h1 rfl,cell_of h1 rfl⟩)
       obtain ⟨f0,f1,f2,f3,f4⟩:=HFX.out W2 (Below.refl _ _)
       have hk2:∀ q,q<B→W2.heap[q]?=wr.heap[q]?:=fun q hq=>b2.block q (Nat.lt_of_lt_of_le hq hBw)
       have HOF:=hide (headOf_any (w:=W2) n1 (Nat.le_trans hBw b2.size) (ints_keep (Nat.le_refl _) hk2 r1) (ints_keep (Nat.le_refl _) hk2 r2) (ints_keep (Nat.le_refl _) hk2 r3) (ins_keep (Nat.le_refl _) hk2 r4))
       have HDR:=hide (show p.fu.drop i=f :: p.fu.drop (i+1) from by rw [List.drop_eq_getElem_cons (by rw [HN2.out];exact hlt)];congr 1;exact (List.getElem?_eq_some_iff.mp hf).2)
       have HBAD:=hide (show (headB n1 f=true∧(0<i∨(f.pa=0∧f.re=[])))=False→∀ W:World,Below W1.heap.size W1 W→HdO p w (.panicked (fch i 0 12)) W from fun h W hW=>by
        refine ⟨?_,HB1.out W hW⟩
        have h2:firstBad p 0 p.fu=some i:=by rw [HFB.out,HDR.out];unfold firstBad;rw [HN1.out,if_neg (by rw [h];exact id)]
        unfold headsP
        rw [if_neg (by rw [HT1.out];simp),h2])
       have HNXT:=hide (show (headB n1 f=true∧(0<i∨(f.pa=0∧f.re=[])))→firstBad p 0 p.fu=firstBad p (i+1) (p.fu.drop (i+1)) from fun h=>by
        rw [HFB.out,HDR.out]
        conv=>lhs;unfold firstBad
        rw [HN1.out,if_pos h])
       have hre:f.re=[] ↔ f.re.length=0:=⟨fun h=>by rw [h];rfl,List.eq_nil_of_length_eq_zero⟩
       rw [hre] at HBAD HNXT
       have b3:(i:Int)≤4096:=by omega
       clear hf r1 r2 r3 r4 PW hn hlt' hg b2 e2 hk2 hBw hre HDR HFB
       generalize f.lo.length=l1 at *
       generalize f.re.length=l2 at *
       generalize f.ar.length=l3 at *
       generalize f.co.length=l4 at *
       cases hhb:headB n1 f with
       | false =>
        rw [hhb] at HOF HBAD
        have HBD:=hide (HBAD.out (by simp))
        go_wp2_with fail
        refine HOF.out.mono ?_
        rintro e w3 ⟨rfl,hb3⟩
        have HB3:=hide (bel_tr HBW2.out hb3)
        clear hb3
        go_wp2_with fail
        refine (require_bad _ _ _ _).mono ?_
        rintro e w4 ⟨rfl,hb4⟩
        exact ⟨rfl,HBD.out w4 (bel_tr HB3.out hb4)⟩
       | true =>
        rw [hhb] at HOF HBAD HNXT
        go_wp2_with fail
        refine HOF.out.mono ?_
        rintro e w3 ⟨rfl,hb3⟩
        have HB3:=hide (bel_tr HBW2.out hb3)
        have HB3':=hide hb3
        clear hb3
        go_wp2_with fail
        refine (require_ok _ _ _ _).mono ?_
        rintro e w4 ⟨rfl,hb4⟩
        have HB4:=hide (bel_tr HB3.out hb4)
        obtain ⟨q0,q1,q2,q3,q4⟩:=HFX.out w4 (bel_tr HB3'.out hb4)
        clear hb4 f0 f1 f2 f3 f4 m1 m2 m3 m4 m5 m6 m7 hW2 k1 k2 k3 k4 k5 k6 k7
        by_cases hi0:0<i
        · have z0:decide ((0:Int)<(i:Int))=true:=by simp;omega
          have z1:decide (0<i)=true:=by simpa using hi0
          have HNX:=hide (HNXT.out ⟨by first | exact rfl | trivial,Or.inl hi0⟩)
          go_wp2_with fail
          refine (require_ok _ _ _ _).mono ?_
          rintro e w5 ⟨rfl,hb5⟩
          have HZ:=hide (bel_tr HB4.out hb5)
          clear hb5
          go_wp2
          go_roundw
          case rel=>exact ⟨i+1,by first | exact num_next hlt (by omega) | go_num,by rw [HN2.out];exact hlt,HNX.out,HZ.out⟩
          case measure=>first | exact meas_int hlt (by omega) | (rw [intOf_int,intOf_int];omega)
        · obtain rfl:i=0:=by omega
          by_cases hpa:f.pa=0
          · by_cases hl2:l2=0
            · have z2:(f.pa == 0)=true:=by simpa using hpa
              have z3:((l2:Int) == 0)=true:=by simp [hl2]
              have HNX:=hide (HNXT.out ⟨by first | exact rfl | trivial,Or.inr ⟨hpa,hl2⟩⟩)
              clear hpa hl2
              go_wp2_with fail
              refine (require_ok _ _ _ _).mono ?_
              rintro e w5 ⟨rfl,hb5⟩
              have HZ:=hide (bel_tr HB4.out hb5)
              clear hb5
              go_wp2
              go_roundw
              case rel=>exact ⟨0+1,by first | exact num_next hlt (by omega) | go_num,by rw [HN2.out];exact hlt,HNX.out,HZ.out⟩
              case measure=>first | exact meas_int hlt (by omega) | (rw [intOf_int,intOf_int];omega)
            · have z2:(f.pa == 0)=true:=by simpa using hpa
              have z3:((l2:Int) == 0)=false:=by simpa using hl2
              have HBD:=hide (HBAD.out (by simp [hl2]))
              clear hpa hl2
              go_wp2_with fail
              refine (require_bad _ _ _ _).mono ?_
              rintro e w5 ⟨rfl,hb5⟩
              exact ⟨rfl,HBD.out w5 (bel_tr HB4.out hb5)⟩
          · have z2:(f.pa == 0)=false:=by simpa using hpa
            have HBD:=hide (HBAD.out (by simp [hpa]))
            clear hpa
            go_wp2_with fail
            refine (require_bad _ _ _ _).mono ?_
            rintro e w5 ⟨rfl,hb5⟩
            exact ⟨rfl,HBD.out w5 (bel_tr HB4.out hb5)⟩
     · obtain rfl:n2=i:=by omega
       have d2:decide (n2<n2)=false:=by simp
       have HT2:=hide (show firstBad p 0 p.fu=none from by rw [HFB.out,← HN2.out,List.drop_length];rfl)
       clear HFB
       go_wp2
       go_loopw [68] (fun a wr'=>H3R p W1 a wr') (fun a _=>n3 - (intOf a).toNat)
       case atStart=>exact ⟨0,rfl,Nat.zero_le _,rfl,HBW.out⟩
       case round =>
        clear HBW k1 k2 k3 k4 k5 k6 k7
        obtain ⟨i,rfl,hi,hall,hb⟩:=hrel
        have HAL:=hide hall
        have HBW:=hide hb
        rw [HN3.out] at hi
        clear hall hb
        obtain ⟨k1,k2,k3,k4,k5,k6,k7⟩:=HBX.out wr HBW.out
        by_cases hlt:i<n3
        · obtain ⟨t,ht⟩ : ∃ t,p.ta[i]?=some t:=⟨p.ta[i]'(by rw [HN3.out];exact hlt),by simp⟩
          obtain ⟨PW,hBw⟩:=HKP.out wr HBW.out
          obtain ⟨g,o,c,n,u,hv,hn,hlt',hg,hc,hsl⟩:=lst_at PW.ta ht
          cases hv
          obtain ⟨ua,uc,hu⟩:=sl_form hsl
          subst hu
          have d3:decide (i<n3)=true:=by simpa using hlt
          have hgw:g<wr.heap.size:=Nat.lt_of_lt_of_le hg hBw
          have HOF:=hide (show Calls Tryz.prog 82 #[.slice ua t.length uc,.slice a2 n2 d2'] wr.drew fun e w'=>e=.returned (.bool (tableB p t))∧Below wr.drew.heap.size wr.drew w' from oneForm_any (w:=wr.drew) (B:=B) PW.fu hsl hBw HPA.out)
          have HBAD:=hide (show tableB p t=false→∀ W:World,Below W1.heap.size W1 W→HdO p w (.panicked (fch 0 0 12)) W from fun h W hW=>by
           refine ⟨?_,HB1.out W hW⟩
           unfold headsP
           rw [if_neg (by rw [HT1.out];simp),HT2.out]
           dsimp only
           rw [all_bad ht h]
           rfl)
          have HTA:=hide ht
          have b3:(i:Int)≤1024:=by omega
          clear ht hsl PW hn hlt' hBw hg
          generalize t.length=tl at *
          obtain ⟨tb,htb⟩ : ∃ tb,tableB p t=tb:=⟨_,rfl⟩
          rw [htb] at HOF HBAD
          have HTB:=hide htb
          clear htb
          go_wp2_with fail
          refine wp_region_held_drew (S:=(fun W=>Below W1.heap.size W1 W∧W.cell? ⟨w.heap.size,1,none⟩=some (.slice a2 n2 d2')∧W.cell? ⟨w.heap.size+1,0,none⟩=some (.int .i64 0)∧W.cell? ⟨w.heap.size+1,1,none⟩=some (.int .i64 0))) (by kernel_rfl) ⟨below_drew HBW.out,k2,k4,k5⟩ (fun hHeld30=>?_)
          refine tk 0 ?_;simp only [sp]
          refine tk 1 ?_;simp only [sp]
          refine tk 2 ?_;simp only [sp]
          refine tk 3 ?_;simp only [sp]
          refine rd 4 (fun K hK=>?_)
          go_simp
          go_at_call 82
          refine HOF.out.mono ?_
          rintro e w3 ⟨rfl,hb3⟩
          have HB3:=hide (bel_tr (below_drew HBW.out) hb3)
          have HX3:=HBX.out w3 HB3.out
          go_wp2_with fail
          refine hK.out _ _ ⟨HB3.out,HX3.2.1,HX3.2.2.2.1,HX3.2.2.2.2.1⟩ (fun hHeld35=>?_)
          clear hK K
          try simp only [sp]
          refine rd 5 (fun K hK=>?_)
          go_simp
          go_at_call 70
          refine (require_any _ 0 0 12 tb).mono ?_
          rintro e w4 ⟨(⟨hk4,rfl⟩ | ⟨hk4,rfl⟩),hb4⟩
          rotate_left
          · exact ⟨rfl,HBAD.out hk4 w4 (bel_tr HB3.out hb4)⟩
          have HB4:=hide (bel_tr HB3.out hb4)
          have HX4:=HBX.out w4 HB4.out
          go_wp2_with fail
          refine hK.out _ _ ⟨HB4.out,HX4.2.1,HX4.2.2.2.1,HX4.2.2.2.2.1⟩ (fun hHeld36=>?_)
          clear hK K
          try simp only [sp]
          refine wpAnyH_done (by kernel_rfl) ?_ _
          have HK:=hide hk4
          clear hb4 hk4
          go_wp2
          go_roundw
          case rel=>exact ⟨i+1,by first | exact num_next hlt (by omega) | go_num,by rw [HN3.out];exact hlt,all_next HTA.out HAL.out (HTB.out.trans HK.out),HB4.out⟩
          case measure=>first | exact meas_int hlt (by omega) | (rw [intOf_int,intOf_int];omega)
        · obtain rfl:n3=i:=by omega
          have d3:decide (n3<n3)=false:=by simp
          have HT3:=hide (show p.ta.all (tableB p)=true from by have:=HAL.out;rwa [← HN3.out,List.take_length] at this)
          clear HAL
          by_cases h0:0<n2
          · have z0:decide ((0:Int)<(n2:Int))=true:=by simp;omega
            have z1:decide (0<n2)=true:=by simpa using h0
            have HF:=hide (show ∀ W:World,∀ v,Below W1.heap.size W1 W→HdO p w (.returned v) W from fun W v hW=>by
             refine ⟨?_,HB1.out W hW⟩
             unfold headsP
             rw [if_neg (by rw [HT1.out];simp),HT2.out]
             dsimp only
             rw [HT3.out,HN2.out,z1]
             exact ⟨v,rfl⟩)
            go_wp2_with fail
            refine (require_ok _ _ _ _).mono ?_
            rintro e w5 ⟨rfl,hb5⟩
            have HZ:=hide (bel_tr HBW.out hb5)
            clear hb5
            go_wp2
            go_returns
            exact HF.out _ _ HZ.out
          · have z0:decide ((0:Int)<(n2:Int))=false:=by simp;omega
            have z1:decide (0<n2)=false:=by simpa using h0
            have HF:=hide (show ∀ W:World,Below W1.heap.size W1 W→HdO p w (.panicked (fch 0 0 12)) W from fun W hW=>by
             refine ⟨?_,HB1.out W hW⟩
             unfold headsP
             rw [if_neg (by rw [HT1.out];simp),HT2.out]
             dsimp only
             rw [HT3.out,HN2.out,z1]
             rfl)
            go_wp2_with fail
            refine (require_bad _ _ _ _).mono ?_
            rintro e w5 ⟨rfl,hb5⟩
            exact ⟨rfl,HF.out _ (bel_tr HBW.out hb5)⟩
end
end Go.Proofs.YtkdojpnihinpbaaGreatDoor
