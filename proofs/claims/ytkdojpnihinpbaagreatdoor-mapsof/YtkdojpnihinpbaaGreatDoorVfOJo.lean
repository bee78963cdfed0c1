/- The heads: oneForm. -/
import Derived.Test.YtkdojpnihinpbaaGreatDoorVfQJo
namespace Go.Proofs.YtkdojpnihinpbaaGreatDoor
open Go.RowKit
section
variable {w w' : World} {B:Nat}
theorem fd_at {v:Value} {l:List Fd} (R:SlAt 5 (FdP B) B w v l) {t:Nat} {x:Fd} (hx:l[t]?=some x):∃ g o c n v1 v2 v3 v4,v=.slice (some ⟨g,o,none⟩) n c∧n=l.length∧t<n∧g<B∧(w.cell? ⟨g,o+t*5,none⟩=some (.int .i64 x.pa)∧w.cell? ⟨g,o+t*5+1,none⟩=some v1∧w.cell? ⟨g,o+t*5+2,none⟩=some v2∧w.cell? ⟨g,o+t*5+3,none⟩=some v3∧w.cell? ⟨g,o+t*5+4,none⟩=some v4)∧SlAt 1 IntP B w v1 x.lo∧SlAt 1 IntP B w v2 x.re∧SlAt 1 IntP B w v3 x.ar∧SlAt 3 InsP B w v4 x.co:=by
 obtain ⟨ao,cap,rfl,_,hel⟩:=R
 obtain ⟨g,o,cs,rfl,h2,h3,v1,v2,v3,v4,rfl,_,r1,r2,r3,r4⟩:=hel t x hx
 refine ⟨g,o,cap,l.length,v1,v2,v3,v4,rfl,rfl,get_lt hx,h2,⟨?_,h3 1 _ rfl,h3 2 _ rfl,h3 3 _ rfl,h3 4 _ rfl⟩,r1,r2,r3,r4⟩
 have:=h3 0 _ rfl
 rwa [Nat.add_zero] at this
theorem is_of_sl {X:Nat→Prop} {v:Value} {l:List Int} (R:SlAt 1 IntP B w v l) (hB:B≤w.heap.size) (hX:∀ j,j<B→¬ X j):IsAt X w v l:=by
 obtain ⟨ao,cap,rfl,⟨_,h1,h2⟩,hel⟩:=R
 refine ⟨ao,cap,rfl,h1,h2,fun j k hk=>?_⟩
 obtain ⟨g,o,e1,e2,e3,_⟩:=ints_at hel hk
 exact ⟨g,o,e1,Nat.lt_of_lt_of_le e2 hB,hX g e2,e3⟩
def formB (p:Pg) (t:List Int) (x:Int):Bool:=inB x p.fu.length && decide (parK (callP p ((t[0]?).getD 0))=parK (callP p x)) && decide ((callP p ((t[0]?).getD 0)).re=(callP p x).re)
def TwoF (w wc:World) (v7 v8:Value) (C0 C1:Array Value):Prop:=∃ b7 b8:Nat,v7=.pointer (some ⟨b7,0,none⟩)∧v8=.pointer (some ⟨b8,0,none⟩)∧wc.heap[b7]?=some (.cells C0 40 (0,0))∧wc.heap[b8]?=some (.cells C1 40 (0,0))∧Below w.heap.size w wc
theorem bel_tr {a b c:World} (h:Below a.heap.size a b) (g:Below b.heap.size b c):Below a.heap.size a c:=h.trans (g.mono h.size)
theorem twoF_a (w:World) (C0 C1:Array Value):TwoF w ((w.alloc (.cells C0 40)).alloc (.cells C1 40)).drew (.pointer (some ⟨w.heap.size,0,none⟩)) (.pointer (some ⟨w.heap.size+1,0,none⟩)) C0 C1:=by
 refine ⟨w.heap.size,w.heap.size+1,rfl,rfl,?_,heap_new (w.alloc (.cells C0 40)) _ (by simp),below_drew (((Below.refl _ _).alloc (Nat.le_refl _) _).alloc (by simp) _)⟩
 show ((w.alloc (.cells C0 40)).alloc (.cells C1 40)).heap[w.heap.size]?=_
 rw [Below.heap_alloc _ _ _ (by simp)]
 exact heap_new _ _ rfl
theorem twoF_b (w:World) (C0 C1:Array Value):TwoF w ((w.alloc (.cells C1 40)).alloc (.cells C0 40)).drew (.pointer (some ⟨w.heap.size+1,0,none⟩)) (.pointer (some ⟨w.heap.size,0,none⟩)) C0 C1:=by
 obtain ⟨b7,b8,h1,h2,h3,h4,h5⟩:=twoF_a w C1 C0
 exact ⟨b8,b7,h2,h1,h4,h3,h5⟩
theorem params_at (w:World) {ao:Option Addr} {n m cap:Nat} {v2 v3 v4:Value} (h1:m≤n) (h2:n≤cap):Calls Tryz.prog 93 #[.agg #[.int .i64 m,.slice ao n cap,v2,v3,v4]] w fun e w'=>e=.returned (.slice ao m cap)∧Below w.heap.size w w':=by
 have e1:(m:Int)≤(cap:Int):=by omega
 have e2:m≤cap:=by omega
 have e3:(0:Int)≤(m:Int):=by omega
 clear h1 h2
 go_enter Tryz.func93,Tryz.ntmps93
 go_wp2
 go_ret
 exact ⟨rfl,(Below.refl _ _).alloc (Nat.le_refl _) _⟩
def OfR (p:Pg) (t:List Int) (w:World) (a:Value) (wr:World):Prop:=∃ j:Nat,a=.int .i64 j∧j≤t.length∧(t.take j).all (formB p t)=true∧Below w.heap.size w wr
set_option maxRecDepth 100000 in
set_option maxHeartbeats 4000000 in
theorem oneForm_any {p:Pg} {vf vt:Value} {t:List Int} (hF:SlAt 5 (FdP B) B w vf p.fu) (hT:SlAt 1 IntP B w vt t) (hB:B≤w.heap.size) (hP:∀ f∈p.fu,0≤f.pa∧f.pa≤(f.lo.length:Int)):Calls Tryz.prog 82 #[vt,vf] w fun e w'=>e=.returned (.bool (tableB p t))∧Below w.heap.size w w':=by
 have HF:=hide hF
 have HP:=hide hP
 have HB:=hide hB
 obtain ⟨at_,ct,rfl,hNt,helt⟩:=hT
 obtain ⟨af,cf,hvf⟩:=sl_form hF
 subst hvf
 have HN:=hide hNt
 have HEL:=hide helt
 clear hF hNt helt hP hB
 go_enter Tryz.func82,Tryz.ntmps82
 go_wp2
 go_loopw [11] (fun a wr=>OfR p t w a wr) (fun a _=>t.length - (intOf a).toNat)
 case atStart=>exact ⟨0,rfl,Nat.zero_le _,rfl,Below.refl _ _⟩
 case round =>
  obtain ⟨j,rfl,hj,ht,hb⟩:=hrel
  have HTT:=hide ht
  have HBW:=hide hb
  clear ht hb
  by_cases hlt:j<t.length
  · obtain ⟨x,hx⟩ : ∃ x,t[j]?=some x:=⟨t[j],by simp [hlt]⟩
    obtain ⟨g,o,rfl,hg,hc0,_⟩:=ints_at HEL.out hx
    have hc:wr.cell? ⟨g,o+j,none⟩=some (.int .i64 x):=by rw [World.cell?_of_block (a:=⟨g,o+j,none⟩) (HBW.out.block g (Nat.lt_of_lt_of_le hg HB.out))];exact hc0
    have hgw:g<wr.heap.size:=Nat.lt_of_lt_of_le hg (Nat.le_trans HB.out HBW.out.size)
    have d1:decide (j<t.length)=true:=by simpa using hlt
    have HX:=hide hx
    clear hc0 hx hg
    cases hin:inB x p.fu.length with
    | false =>
     have HBAD:=hide (show tableB p t=false from by
      unfold tableB
      rw [show (t.all fun x=>inB x p.fu.length && decide (parK (callP p (t[0]?.getD 0))=parK (callP p x)) && decide ((callP p (t[0]?.getD 0)).re=(callP p x).re))=false from all_bad (s:=formB p t) HX.out (by unfold formB;rw [hin];rfl),Bool.and_false])
     generalize t.length=l at *
     generalize p.fu.length=n at *
     go_wp2_with fail
     refine (within_any _ _ _).mono ?_
     rintro e w2 ⟨rfl,rfl⟩
     rw [hin]
     go_wp2
     go_ret
     exact ⟨by rw [HBAD.out];rfl,HBW.out⟩
    | true =>
     obtain ⟨m,hm⟩ : ∃ m:Nat,x=(m:Int):=⟨x.toNat,by simp only [inB,decide_eq_true_eq] at hin;omega⟩
     subst hm
     have hml:m<p.fu.length:=by simp only [inB,decide_eq_true_eq] at hin;omega
     obtain ⟨x0,hx0⟩ : ∃ x,t[0]?=some x:=⟨t[0]'(by omega),by simp⟩
     have hin0:inB x0 p.fu.length=true:=by
      rcases Nat.eq_zero_or_pos j with h | h
      · subst h
        have:=HX.out
        rw [hx0] at this
        cases this
        exact hin
      · have:=List.all_eq_true.mp HTT.out x0 (List.mem_of_getElem? (i:=0) (by rw [List.getElem?_take,if_pos h];exact hx0))
        unfold formB at this
        simp only [Bool.and_eq_true] at this
        exact this.1.1
     obtain ⟨m0,hm0⟩ : ∃ m:Nat,x0=(m:Int):=⟨x0.toNat,by simp only [inB,decide_eq_true_eq] at hin0;omega⟩
     subst hm0
     have hml0:m0<p.fu.length:=by simp only [inB,decide_eq_true_eq] at hin0;omega
     obtain ⟨F0,hF0⟩ : ∃ F,p.fu[m0]?=some F:=⟨p.fu[m0],by simp⟩
     obtain ⟨F1,hF1⟩ : ∃ F,p.fu[m]?=some F:=⟨p.fu[m],by simp⟩
     have hk:∀ i,i<B→wr.heap[i]?=w.heap[i]?:=fun i hi=>HBW.out.block i (Nat.lt_of_lt_of_le hi HB.out)
     have HFw:=fds_keep (Nat.le_refl _) hk HF.out
     obtain ⟨g0,o0,cc0,n0,a1,a2,a3,a4,hv0,hn0,hl0,hg0,⟨y0,y1,y2,y3,y4⟩,r1,r2,r3,r4⟩:=fd_at HFw hF0
     obtain ⟨g1,o1,cc1,n1,b1,b2,b3,b4,hv1,hn1,hl1,hg1,⟨z0,z1,z2,z3,z4⟩,s1,s2,s3,s4⟩:=fd_at HFw hF1
     cases hv0
     cases hv1
     obtain ⟨xa1,xc1,hfx1⟩:=sl_form r1
     generalize F0.lo.length=xn1 at hfx1
     subst hfx1
     obtain ⟨xa2,xc2,hfx2⟩:=sl_form r2
     generalize F0.re.length=xn2 at hfx2
     subst hfx2
     obtain ⟨xa3,xc3,hfx3⟩:=sl_form r3
     generalize F0.ar.length=xn3 at hfx3
     subst hfx3
     obtain ⟨xa4,xc4,hfx4⟩:=sl_form r4
     generalize F0.co.length=xn4 at hfx4
     subst hfx4
     obtain ⟨ya1,yc1,hfy1⟩:=sl_form s1
     generalize F1.lo.length=yn1 at hfy1
     subst hfy1
     obtain ⟨ya2,yc2,hfy2⟩:=sl_form s2
     generalize F1.re.length=yn2 at hfy2
     subst hfy2
     obtain ⟨ya3,yc3,hfy3⟩:=sl_form s3
     generalize F1.ar.length=yn3 at hfy3
     subst hfy3
     obtain ⟨ya4,yc4,hfy4⟩:=sl_form s4
     generalize F1.co.length=yn4 at hfy4
     subst hfy4
     have hQ0:=HP.out F0 (List.mem_of_getElem? hF0)
     have hQ1:=HP.out F1 (List.mem_of_getElem? hF1)
     obtain ⟨q0,hq0⟩ : ∃ q:Nat,F0.pa=(q:Int):=⟨F0.pa.toNat,by omega⟩
     obtain ⟨q1,hq1⟩ : ∃ q:Nat,F1.pa=(q:Int):=⟨F1.pa.toNat,by omega⟩
     have T0:=hide (show SlAt 1 IntP B wr (.slice xa1 q0 xc1) (parK F0) from by
      have:=ints_take r1 q0 (by omega)
      unfold parK
      rw [hq0]
      exact this)
     have T1:=hide (show SlAt 1 IntP B wr (.slice ya1 q1 yc1) (parK F1) from by
      have:=ints_take s1 q1 (by omega)
      unfold parK
      rw [hq1]
      exact this)
     have hP0:q0≤xn1∧xn1≤xc1:=by
      obtain ⟨_,_,h1,h2,_⟩:=r1
      cases h1
      omega
     have hP1:q1≤yn1∧yn1≤yc1:=by
      obtain ⟨_,_,h1,h2,_⟩:=s1
      cases h1
      omega
     rw [hq0] at y0
     rw [hq1] at z0
     have HFB:=hide (show formB p t (m:Int)=(decide (parK F0=parK F1) && decide (F0.re=F1.re)) from by
      unfold formB
      rw [hin,hx0]
      unfold callP
      rw [Option.getD_some,Int.toNat_natCast,Int.toNat_natCast,hF0,hF1]
      rfl)
     obtain ⟨g2,o2,hao,hg2,hc2,_⟩:=ints_at HEL.out hx0
     cases hao
     have hc3:wr.cell? ⟨g,o,none⟩=some (.int .i64 m0):=by
      have:=hc2
      rw [Nat.add_zero] at this
      rw [World.cell?_of_block (a:=⟨g,o,none⟩) (HBW.out.block g (Nat.lt_of_lt_of_le hg2 HB.out))];exact this
     have hgw0:g0<wr.heap.size:=Nat.lt_of_lt_of_le hg0 (Nat.le_trans HB.out HBW.out.size)
     have e1:decide (m0<p.fu.length)=true:=by simpa using hml0
     have e2:decide (m<p.fu.length)=true:=by simpa using hml
     have e3:decide (0<t.length)=true:=by simp;omega
     clear hin0 hc2 hn0 hn1 hl0 hl1 hk HFw hQ0 hQ1 hq0 hq1
     have HBAD:=hide (show formB p t (m:Int)=false→tableB p t=false from fun h=>by
      unfold tableB
      rw [show (t.all fun x=>inB x p.fu.length && decide (parK (callP p (t[0]?.getD 0))=parK (callP p x)) && decide ((callP p (t[0]?.getD 0)).re=(callP p x).re))=false from all_bad (s:=formB p t) HX.out h,Bool.and_false])
     generalize hl:t.length=l at *
     have HL:=hide hl
     clear hl
     generalize hn:p.fu.length=n at *
     clear hn
     go_wp2_with fail
     refine (within_any _ _ _).mono ?_
     rintro e w2 ⟨rfl,rfl⟩
     rw [hin]
     go_wp2_with fail
     go_cut [7,8] from 20 to 29 (fun v7 v8 wc=>Hid (TwoF w2 wc v7 v8 #[.int .i64 (q0:Int),.slice xa1 xn1 xc1,.slice xa2 xn2 xc2,.slice xa3 xn3 xc3,.slice xa4 xn4 xc4] #[.int .i64 (q1:Int),.slice ya1 yn1 yc1,.slice ya2 yn2 yc2,.slice ya3 yn3 yc3,.slice ya4 yn4 yc4]))
     case first =>
      go_region
      · go_wp2
        go_meet
        exact hide (twoF_a _ _ _)
      · go_wp2
        go_meet
        exact hide (twoF_b _ _ _)
     case rest =>
      obtain ⟨b7,b8,rfl,rfl,hb7,hb8,hbc⟩:=hcut.out
      have HBC:=hide (HBW.out.trans (hbc.mono HBW.out.size))
      have HS:=hide (show ∀ W:World,Below wc.heap.size wc W→W.cell? ⟨b7,0,none⟩=some (.int .i64 q0)∧W.cell? ⟨b7,1,none⟩=some (.slice xa1 xn1 xc1)∧W.cell? ⟨b7,2,none⟩=some (.slice xa2 xn2 xc2)∧W.cell? ⟨b7,3,none⟩=some (.slice xa3 xn3 xc3)∧W.cell? ⟨b7,4,none⟩=some (.slice xa4 xn4 xc4)∧W.cell? ⟨b8,0,none⟩=some (.int .i64 q1)∧W.cell? ⟨b8,1,none⟩=some (.slice ya1 yn1 yc1)∧W.cell? ⟨b8,2,none⟩=some (.slice ya2 yn2 yc2)∧W.cell? ⟨b8,3,none⟩=some (.slice ya3 yn3 yc3)∧W.cell? ⟨b8,4,none⟩=some (.slice ya4 yn4 yc4) from fun W h=>by
       have h7:=(h.block b7 (lt_of_block hb7)).trans hb7
       have h8:=(h.block b8 (lt_of_block hb8)).trans hb8
       exact ⟨cell_of h7 rfl,cell_of h7 rfl,cell_of h7 rfl,cell_of h7 rfl,cell_of h7 rfl,cell_of h8 rfl,cell_of h8 rfl,cell_of h8 rfl,cell_of h8 rfl,cell_of h8 rfl⟩)
      have l7:=lt_of_block hb7
      have l8:=lt_of_block hb8
      have HKP:=hide (show ∀ W:World,Below wc.heap.size wc W→∀ i,i<B→W.heap[i]?=w2.heap[i]? from fun W h i hi=>by
       have hi2:i<w2.heap.size:=Nat.lt_of_lt_of_le hi (Nat.le_trans HB.out HBW.out.size)
       exact (h.block i (Nat.lt_of_lt_of_le hi2 hbc.size)).trans (hbc.block i hi2))
      have HSZ:=hide (show ∀ W:World,Below wc.heap.size wc W→B≤W.heap.size from fun W h=>Nat.le_trans HB.out (Nat.le_trans HBW.out.size (Nat.le_trans hbc.size h.size)))
      obtain ⟨k1,k2,k3,k4,k5,k6,k7,k8,k9,k10⟩:=HS.out wc (Below.refl _ _)
      have HPA:=hide (fun W:World=>params_at W (ao:=xa1) (v2:=.slice xa2 xn2 xc2) (v3:=.slice xa3 xn3 xc3) (v4:=.slice xa4 xn4 xc4) hP0.1 hP0.2)
      have HPB:=hide (fun W:World=>params_at W (ao:=ya1) (v2:=.slice ya2 yn2 yc2) (v3:=.slice ya3 yn3 yc3) (v4:=.slice ya4 yn4 yc4) hP1.1 hP1.2)
      have HE1:=hide (show ∀ W:World,Below wc.heap.size wc W→Calls Tryz.prog 83 #[.slice xa1 q0 xc1,.slice ya1 q1 yc1] W fun e w'=>e=.returned (.bool (decide (parK F0=parK F1)))∧Below W.heap.size W w' from fun W h=>equal_any (is_of_sl (X:=fun _=>False) (ints_keep (Nat.le_refl _) (HKP.out W h) T0.out) (HSZ.out W h) (fun _ _ h=>h)) (is_of_sl (X:=fun _=>False) (ints_keep (Nat.le_refl _) (HKP.out W h) T1.out) (HSZ.out W h) (fun _ _ h=>h)))
      have HE2:=hide (show ∀ W:World,Below wc.heap.size wc W→Calls Tryz.prog 83 #[.slice xa2 xn2 xc2,.slice ya2 yn2 yc2] W fun e w'=>e=.returned (.bool (decide (F0.re=F1.re)))∧Below W.heap.size W w' from fun W h=>equal_any (is_of_sl (X:=fun _=>False) (ints_keep (Nat.le_refl _) (HKP.out W h) r2) (HSZ.out W h) (fun _ _ h=>h)) (is_of_sl (X:=fun _=>False) (ints_keep (Nat.le_refl _) (HKP.out W h) s2) (HSZ.out W h) (fun _ _ h=>h)))
      clear hcut y0 y1 y2 y3 y4 z0 z1 z2 z3 z4 hc hc3 hb7 hb8 hbc r1 r2 r3 r4 s1 s2 s3 s4
      generalize hA:decide (parK F0=parK F1)=eA at *
      generalize hC:decide (F0.re=F1.re)=eC at *
      clear hA hC
      cases eA
      · go_wp2_with fail
        (first | go_region_with (first
          | (have kk:=hc4;clear kk;go_at_call 83;refine (HE1.out _ hc4).mono ?_;rintro e w5 ⟨rfl,hb5⟩;have hc5:=bel_tr hc4 hb5;clear hb5;obtain ⟨m1,m2,m3,m4,m5,m6,m7,m8,m9,m10⟩:=HS.out w5 hc5)
          | (have kk:=hc3;clear kk;go_at_call 93;refine (HPB.out _).mono ?_;rintro e w4 ⟨rfl,hb4⟩;have hc4:=bel_tr hc3 hb4;clear hb4;obtain ⟨j1,j2,j3,j4,j5,j6,j7,j8,j9,j10⟩:=HS.out w4 hc4)
          | (go_at_call 93;refine (HPA.out _).mono ?_;rintro e w3 ⟨rfl,hb3⟩;have hc3:=bel_tr (below_drew (Below.refl _ wc)) hb3;clear hb3;obtain ⟨i1,i2,i3,i4,i5,i6,i7,i8,i9,i10⟩:=HS.out w3 hc3)) | fail)
        all_goals (
          have HZ:=hide (HBC.out.trans (hc5.mono HBC.out.size))
          clear hc3 hc4 hc5
          go_wp2
          go_ret
          refine ⟨?_,HZ.out⟩
          rw [HBAD.out HFB.out]
          rfl)
      · go_wp2_with fail
        (first | go_region_with (first
          | (have kk:=hc5;clear kk;go_at_call 83;refine (HE2.out _ hc5).mono ?_;rintro e w6 ⟨rfl,hb6⟩;have hc6:=bel_tr hc5 hb6;clear hb6)
          | (have kk:=hc4;clear kk;go_at_call 83;refine (HE1.out _ hc4).mono ?_;rintro e w5 ⟨rfl,hb5⟩;have hc5:=bel_tr hc4 hb5;clear hb5;obtain ⟨m1,m2,m3,m4,m5,m6,m7,m8,m9,m10⟩:=HS.out w5 hc5)
          | (have kk:=hc3;clear kk;go_at_call 93;refine (HPB.out _).mono ?_;rintro e w4 ⟨rfl,hb4⟩;have hc4:=bel_tr hc3 hb4;clear hb4;obtain ⟨j1,j2,j3,j4,j5,j6,j7,j8,j9,j10⟩:=HS.out w4 hc4)
          | (go_at_call 93;refine (HPA.out _).mono ?_;rintro e w3 ⟨rfl,hb3⟩;have hc3:=bel_tr (below_drew (Below.refl _ wc)) hb3;clear hb3;obtain ⟨i1,i2,i3,i4,i5,i6,i7,i8,i9,i10⟩:=HS.out w3 hc3)) | fail)
        all_goals (
          have HZ:=hide (HBC.out.trans (hc6.mono HBC.out.size))
          clear hc3 hc4 hc5 hc6)
        all_goals cases eC
        all_goals first
          | (go_wp2;go_ret;refine ⟨?_,HZ.out⟩;rw [HBAD.out HFB.out];rfl)
          | (go_wp2
             go_roundw
             case rel=>exact ⟨j+1,by first | exact num_next hlt (HL.out ▸ HN.out.1) | go_num,by rw [HL.out];exact hlt,all_next HX.out HTT.out HFB.out,HZ.out⟩
             case measure=>first | exact meas_int hlt (HL.out ▸ HN.out.1) | (rw [intOf_int,intOf_int];omega))
  · obtain rfl:j=t.length:=by omega
    have d1:decide (t.length<t.length)=false:=by simp
    have HA:=hide (show tableB p t=decide (0<t.length) from by
     have:=HTT.out
     rw [List.take_length] at this
     unfold tableB
     rw [show (t.all fun x=>inB x p.fu.length && decide (parK (callP p (t[0]?.getD 0))=parK (callP p x)) && decide ((callP p (t[0]?.getD 0)).re=(callP p x).re))=true from this,Bool.and_true])
    generalize t.length=l at *
    go_wp2
    go_ret
    refine ⟨?_,HBW.out⟩
    rw [HA.out]
    simp [Array.getD]
end
end Go.Proofs.YtkdojpnihinpbaaGreatDoor
