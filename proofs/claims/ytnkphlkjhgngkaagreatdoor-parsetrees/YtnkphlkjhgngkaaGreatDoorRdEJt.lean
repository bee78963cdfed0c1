/- The document's reader: typ. -/
import Derived.Test.YtnkphlkjhgngkaaGreatDoorRdUJt
namespace Go.Proofs.YtnkphlkjhgngkaaGreatDoor
open Go.RowKit
attribute [local go_sem ↓] Go.wp_at_zero Go.wp_at_succ
set_option maxRecDepth 20000 in
set_option maxHeartbeats 1600000 in
theorem rresults_any (X : Px) (n : Nat) (A : GoodR X n) (w : World) (s : Sg) (h : Bool) (H : Rdr X w s h) (hn : mS X.toks.length s + 1 ≤ n) :
    Calls Tryz.prog 75 #[X.p] w (OutRL X w s h (resultsV X.l (vs X.l n) s)):=by
  have hpl:=H.plt
  cases hm : isV X.l s [40] with
  | true =>
   have hl:=isV_at (by decide) hm H.le
   have c:=rtake_yes X w s h H [40] (by decide) hm
   have hq:=mS_step hl.1 hl.2
   rcases hp : commasV X.l (vs X.l n).typ (stepV s) with ⟨ts,s1⟩
   have hu:=up_commas (l:=X.l) (upV X.l n).typ (stepV s)
   rw [hp] at hu
   have hu1 : s.1 + 1 ≤ s1.1:=hu.at_
   have HR : Hid (resultsV X.l (vs X.l n) s = (ts,needV X.l [41] s1)):=Lib.hid (by simp [resultsV,takeV,hm,bindV,hp])
   have HP:=Lib.hid hp
   have hu2 : s1.1 ≤ (needV X.l [41] s1).1:=(su_need X.l [41] s1).up.at_
   clear hm hp
   go_enter Tryz.func75,Tryz.ntmps75
   go_wp2_with fail
   refine c.mono ?_
   rintro e w1 ⟨rfl,hb1,H1⟩
   have hz1:=hb1.size
   have c2:=rtypes_any X n A w1 (stepV s) h H1 (by omega)
   rw [HP.out] at c2
   clear c HP
   go_wp2_with fail
   refine c2.mono ?_
   rintro e w2 ⟨hb2,H2,hl2,v,rfl,hO⟩
   have hl3 : ts.length ≤ s1.1 - (s.1 + 1) + 1:=hl2
   have hz2:=hb2.size
   obtain ⟨ao,cp,rfl⟩:=hO.slice
   have c3:=rneed_any X w2 s1 h H2 [41] (by decide)
   clear c2
   go_wp2_with fail
   refine c3.mono ?_
   rintro e w3 ⟨rfl,hb3,H3⟩
   go_wp2
   go_ret
   exact OutRL.of HR ⟨(hb1.trans (hb2.mono (by omega))).trans (hb3.mono (by omega)),H3,by omega,_,rfl,(hO.but hb3 (Nat.le_refl _) (by omega)).wide (by omega)⟩
  | false =>
   have hkq:=kindRd_eq (X:=X) (s:=s) 1 (by decide) (by decide) H.le
   cases hk1 : (kindV X.l s == 1) with
   | true =>
    have hkk : kindRd X s = 1:=by rw [hk1] at hkq; simpa using hkq
    have HK:=Lib.hid hkk
    clear hkk hkq
    have c:=rtake_no X w s h H [40] hm
    rcases hp : (vs X.l n).typ s with ⟨t,s1⟩
    have hu:=(upV X.l n).typ s
    rw [hp] at hu
    have hua:=hu.at_
    have HR : Hid (resultsV X.l (vs X.l n) s = ([t],s1)):=Lib.hid (by simp [resultsV,takeV,hm,bindV,hp,hk1])
    have HP:=Lib.hid hp
    clear hp
    clear hm
    go_enter Tryz.func75,Tryz.ntmps75
    go_wp2_with fail
    refine c.mono ?_
    rintro e w1 ⟨rfl,hb1,H1⟩
    clear c
    have B1:=hb1
    have hz1:=hb1.size
    go_wp2_with fail
    refine (kindX_any X w1 s h H1 1 HK.out).mono ?_
    rintro e w2 ⟨rfl,hd2⟩
    have H2:=H1.below hd2 (Nat.le_refl _)
    have hz2:=hd2.size
    have B2 : But X.P w.heap.size w w2:=B1.trans (But.of_below (hd2.mono (by omega)))
    have c2:=A.typ w2 s h H2 (by omega)
    rw [HP.out] at c2
    clear HP
    go_wp2_with fail
    refine c2.mono ?_
    rintro e wz ⟨hbz,Hz,sl,rfl,hk⟩
    obtain ⟨ao,nn,cp,rfl⟩:=hk.slice
    have hzz:=hbz.size
    clear c2
    go_wp2
    go_ret
    exact OutRL.of HR ⟨(B2.trans (hbz.mono (by omega))).alloc (by omega) _,Hz.alloc _,by simp,_,rfl,(OwnL.one (B:=w2.heap.size) hzz hk (Nat.le_refl _) (Nat.le_refl _)).wide (by omega)⟩
   | false =>
    rw [hk1] at hkq
    obtain ⟨kk,hkk⟩ : ∃ z,kindRd X s = z:=⟨_,rfl⟩
    rw [hkk] at hkq
    have HK:=Lib.hid hkk
    clear hkk
    cases h0 : isV X.l s [42] with
    | true =>
     have hx:=now_of h0
     have NX:=Lib.hid hx
     clear hx
     have c:=rtake_no X w s h H [40] hm
     rcases hp : (vs X.l n).typ s with ⟨t,s1⟩
     have hu:=(upV X.l n).typ s
     rw [hp] at hu
     have hua:=hu.at_
     have HR : Hid (resultsV X.l (vs X.l n) s = ([t],s1)):=Lib.hid (by simp [resultsV,takeV,hm,bindV,hp,hk1,h0])
     have HP:=Lib.hid hp
     clear hp
     clear hm
     go_enter Tryz.func75,Tryz.ntmps75
     go_wp2_with fail
     refine c.mono ?_
     rintro e w1 ⟨rfl,hb1,H1⟩
     clear c
     have B1:=hb1
     have hz1:=hb1.size
     go_wp2_with fail
     refine (kindX_any X w1 s h H1 kk HK.out).mono ?_
     rintro e w2 ⟨rfl,hd2⟩
     have H2:=H1.below hd2 (Nat.le_refl _)
     have hz2:=hd2.size
     have B2 : But X.P w.heap.size w w2:=B1.trans (But.of_below (hd2.mono (by omega)))
     go_wp2_with fail
     refine (nowX_any X w2 s h H2 [42] NX.out).mono ?_
     rintro e w3 ⟨rfl,hd3⟩
     have H3:=H2.below hd3 (Nat.le_refl _)
     have hz3:=hd3.size
     have B3 : But X.P w.heap.size w w3:=B2.trans (But.of_below (hd3.mono (by omega)))
     have c2:=A.typ w3 s h H3 (by omega)
     rw [HP.out] at c2
     clear HP
     go_wp2_with fail
     refine c2.mono ?_
     rintro e wz ⟨hbz,Hz,sl,rfl,hk⟩
     obtain ⟨ao,nn,cp,rfl⟩:=hk.slice
     have hzz:=hbz.size
     clear c2
     go_wp2
     go_ret
     exact OutRL.of HR ⟨(B3.trans (hbz.mono (by omega))).alloc (by omega) _,Hz.alloc _,by simp,_,rfl,(OwnL.one (B:=w3.heap.size) hzz hk (Nat.le_refl _) (Nat.le_refl _)).wide (by omega)⟩
    | false =>
     cases h1 : isV X.l s [91] with
     | true =>
      have hx:=now_of h1
      have NX:=Lib.hid hx
      clear hx
      have c:=rtake_no X w s h H [40] hm
      rcases hp : (vs X.l n).typ s with ⟨t,s1⟩
      have hu:=(upV X.l n).typ s
      rw [hp] at hu
      have hua:=hu.at_
      have HR : Hid (resultsV X.l (vs X.l n) s = ([t],s1)):=Lib.hid (by simp [resultsV,takeV,hm,bindV,hp,hk1,h0,h1])
      have HP:=Lib.hid hp
      clear hp
      clear hm
      go_enter Tryz.func75,Tryz.ntmps75
      go_wp2_with fail
      refine c.mono ?_
      rintro e w1 ⟨rfl,hb1,H1⟩
      clear c
      have B1:=hb1
      have hz1:=hb1.size
      go_wp2_with fail
      refine (kindX_any X w1 s h H1 kk HK.out).mono ?_
      rintro e w2 ⟨rfl,hd2⟩
      have H2:=H1.below hd2 (Nat.le_refl _)
      have hz2:=hd2.size
      have B2 : But X.P w.heap.size w w2:=B1.trans (But.of_below (hd2.mono (by omega)))
      go_wp2_with fail
      refine (nowX_any X w2 s h H2 [91] NX.out).mono ?_
      rintro e w3 ⟨rfl,hd3⟩
      have H3:=H2.below hd3 (Nat.le_refl _)
      have hz3:=hd3.size
      have B3 : But X.P w.heap.size w w3:=B2.trans (But.of_below (hd3.mono (by omega)))
      go_wp2_with fail
      refine (nowX_any X w3 s h H3 [91] NX.out).mono ?_
      rintro e w4 ⟨rfl,hd4⟩
      have H4:=H3.below hd4 (Nat.le_refl _)
      have hz4:=hd4.size
      have B4 : But X.P w.heap.size w w4:=B3.trans (But.of_below (hd4.mono (by omega)))
      have c2:=A.typ w4 s h H4 (by omega)
      rw [HP.out] at c2
      clear HP
      go_wp2_with fail
      refine c2.mono ?_
      rintro e wz ⟨hbz,Hz,sl,rfl,hk⟩
      obtain ⟨ao,nn,cp,rfl⟩:=hk.slice
      have hzz:=hbz.size
      clear c2
      go_wp2
      go_ret
      exact OutRL.of HR ⟨(B4.trans (hbz.mono (by omega))).alloc (by omega) _,Hz.alloc _,by simp,_,rfl,(OwnL.one (B:=w4.heap.size) hzz hk (Nat.le_refl _) (Nat.le_refl _)).wide (by omega)⟩
     | false =>
      cases h2 : isV X.l s [102,117,110,99] with
      | true =>
       have hx:=now_of h2
       have NX:=Lib.hid hx
       clear hx
       have c:=rtake_no X w s h H [40] hm
       rcases hp : (vs X.l n).typ s with ⟨t,s1⟩
       have hu:=(upV X.l n).typ s
       rw [hp] at hu
       have hua:=hu.at_
       have HR : Hid (resultsV X.l (vs X.l n) s = ([t],s1)):=Lib.hid (by simp [resultsV,takeV,hm,bindV,hp,hk1,h0,h1,h2])
       have HP:=Lib.hid hp
       clear hp
       clear hm
       go_enter Tryz.func75,Tryz.ntmps75
       go_wp2_with fail
       refine c.mono ?_
       rintro e w1 ⟨rfl,hb1,H1⟩
       clear c
       have B1:=hb1
       have hz1:=hb1.size
       go_wp2_with fail
       refine (kindX_any X w1 s h H1 kk HK.out).mono ?_
       rintro e w2 ⟨rfl,hd2⟩
       have H2:=H1.below hd2 (Nat.le_refl _)
       have hz2:=hd2.size
       have B2 : But X.P w.heap.size w w2:=B1.trans (But.of_below (hd2.mono (by omega)))
       go_wp2_with fail
       refine (nowX_any X w2 s h H2 [102,117,110,99] NX.out).mono ?_
       rintro e w3 ⟨rfl,hd3⟩
       have H3:=H2.below hd3 (Nat.le_refl _)
       have hz3:=hd3.size
       have B3 : But X.P w.heap.size w w3:=B2.trans (But.of_below (hd3.mono (by omega)))
       go_wp2_with fail
       refine (nowX_any X w3 s h H3 [102,117,110,99] NX.out).mono ?_
       rintro e w4 ⟨rfl,hd4⟩
       have H4:=H3.below hd4 (Nat.le_refl _)
       have hz4:=hd4.size
       have B4 : But X.P w.heap.size w w4:=B3.trans (But.of_below (hd4.mono (by omega)))
       go_wp2_with fail
       refine (nowX_any X w4 s h H4 [102,117,110,99] NX.out).mono ?_
       rintro e w5 ⟨rfl,hd5⟩
       have H5:=H4.below hd5 (Nat.le_refl _)
       have hz5:=hd5.size
       have B5 : But X.P w.heap.size w w5:=B4.trans (But.of_below (hd5.mono (by omega)))
       have c2:=A.typ w5 s h H5 (by omega)
       rw [HP.out] at c2
       clear HP
       go_wp2_with fail
       refine c2.mono ?_
       rintro e wz ⟨hbz,Hz,sl,rfl,hk⟩
       obtain ⟨ao,nn,cp,rfl⟩:=hk.slice
       have hzz:=hbz.size
       clear c2
       go_wp2
       go_ret
       exact OutRL.of HR ⟨(B5.trans (hbz.mono (by omega))).alloc (by omega) _,Hz.alloc _,by simp,_,rfl,(OwnL.one (B:=w5.heap.size) hzz hk (Nat.le_refl _) (Nat.le_refl _)).wide (by omega)⟩
      | false =>
       obtain ⟨x,hx⟩ : ∃ z,nowV X.l s = z:=⟨_,rfl⟩
       have g0:=now_no hx h0
       have g1:=now_no hx h1
       have g2:=now_no hx h2
       have NX:=Lib.hid hx
       clear hx
       have c:=rtake_no X w s h H [40] hm
       have HR : Hid (resultsV X.l (vs X.l n) s = ([],s)):=Lib.hid (by simp [resultsV,takeV,hm,bindV,hk1,h0,h1,h2])
       clear hm
       go_enter Tryz.func75,Tryz.ntmps75
       go_wp2_with fail
       refine c.mono ?_
       rintro e w1 ⟨rfl,hb1,H1⟩
       clear c
       have B1:=hb1
       have hz1:=hb1.size
       go_wp2_with fail
       refine (kindX_any X w1 s h H1 kk HK.out).mono ?_
       rintro e w2 ⟨rfl,hd2⟩
       have H2:=H1.below hd2 (Nat.le_refl _)
       have hz2:=hd2.size
       have B2 : But X.P w.heap.size w w2:=B1.trans (But.of_below (hd2.mono (by omega)))
       go_wp2_with fail
       refine (nowX_any X w2 s h H2 x NX.out).mono ?_
       rintro e w3 ⟨rfl,hd3⟩
       have H3:=H2.below hd3 (Nat.le_refl _)
       have hz3:=hd3.size
       have B3 : But X.P w.heap.size w w3:=B2.trans (But.of_below (hd3.mono (by omega)))
       go_wp2_with fail
       refine (nowX_any X w3 s h H3 x NX.out).mono ?_
       rintro e w4 ⟨rfl,hd4⟩
       have H4:=H3.below hd4 (Nat.le_refl _)
       have hz4:=hd4.size
       have B4 : But X.P w.heap.size w w4:=B3.trans (But.of_below (hd4.mono (by omega)))
       go_wp2_with fail
       refine (nowX_any X w4 s h H4 x NX.out).mono ?_
       rintro e w5 ⟨rfl,hd5⟩
       have H5:=H4.below hd5 (Nat.le_refl _)
       have hz5:=hd5.size
       have B5 : But X.P w.heap.size w w5:=B4.trans (But.of_below (hd5.mono (by omega)))
       go_wp2
       go_ret
       exact OutRL.of HR ⟨B5,H5,by simp,_,rfl,OwnL.nil _ _⟩
set_option maxRecDepth 20000 in
set_option maxHeartbeats 1600000 in
theorem rtyp_any (X : Px) (n : Nat) (A : GoodR X n) (w : World) (s : Sg) (h : Bool) (H : Rdr X w s h) (hn : mS X.toks.length s + 1 ≤ n + 1) :
    Calls Tryz.prog 43 #[X.p] w (OutR X w h (typV X.l (vs X.l n) s)):=by
  obtain ⟨W0,hW0,S0⟩:=Sd.first H
  go_enter Tryz.func43,Tryz.ntmps43
  cases hbd : s.2 with
  | true =>
   have c2:=S0.rdr.c2
   rw [hbd] at c2
   have E0:=Lib.hid hbd
   clear hbd
   have Tt1:=Tre.leaf w W0 0 [] 0 none 0
   have HR : Hid (typV X.l (vs X.l n) s = ((.mk 0 [] 0 []),s)):=Lib.hid (by simp [typV,E0.out,zT])
   obtain ⟨y0,y1,y2,y3,b0,b1,b2,b3,bf⟩:=S0.box.open
   have bf0:=bf 0
   have bf1:=bf 1
   have bf2:=bf 2
   have bf3:=bf 3
   clear bf
   go_wp2
   obtain ⟨Wf,hWf,hput,_,d0,d1,d2,d3⟩:=putN4 S0.box (.int .i64 0) (.string ⟨#[]⟩) (.int .i64 0) (.slice none 0 0)
   rw [hWf]
   exact bodyPost_ret (v:=.agg #[.int .i64 0,.string ⟨#[]⟩,.int .i64 0,.slice none 0 0]) (by simp [results,Tryz.results43,go_sem,d0,d1,d2,d3]) rfl (OutR.of HR (S0.done Tt1 hput))
  | false =>
   have c2:=S0.rdr.c2
   rw [hbd] at c2
   have E0:=Lib.hid hbd
   clear hbd
   cases hm2 : isV X.l s [42] with
   | true =>
    have hx2:=now_of hm2
    have hl2:=isV_at (by decide) hm2 S0.rdr.le
    have X2:=Lib.hid hx2
    have E2:=Lib.hid hm2
    clear hm2 hx2
    go_wp2_with fail
    refine (nowX_any X W0 s h S0.rdr [42] X2.out).mono ?_
    rintro e w3 ⟨rfl,hd3⟩
    have hb3 : But X.P W0.heap.size W0 w3:=But.of_below hd3
    have H3:=S0.rdr.below hd3 (Nat.le_refl _)
    clear hd3
    have S3:=S0.call hb3 H3
    have cA4:=S3.rdr.c1
    have fA4:=S3.rdr.fz 1
    have bA4:=S3.rdr.bnd
    have H4:=S3.rdr.step hl2.2
    have hb4:=but_set w3 X.P w3.heap.size 1 (.int .i64 ((s.1 : Int) + 1))
    obtain ⟨s4,hs4⟩ : ∃ z,stepV s = z:=⟨_,rfl⟩
    rw [hs4] at H4
    have u4 : Up s s4:=hs4 ▸ (su_step s).up
    have q4 : mS X.toks.length s4 + 3 ≤ mS X.toks.length s:=hs4 ▸ mS_step hl2.1 hl2.2
    have a4 : s.1 + 1 = s4.1:=hs4 ▸ rfl
    have a4a:=Nat.le_of_eq a4
    have a4b:=Nat.le_of_eq a4.symm
    clear a4
    have E4:=Lib.hid hs4
    clear hs4
    have S4:=S3.call hb4 H4
    have c5:=A.typ (w3.setCell ⟨X.P,1,none⟩ (.int .i64 ((s.1 : Int) + 1))) s4 h S4.rdr (by omega)
    have u5:=(upV X.l n).typ s4
    rcases hs5 : (vs X.l n).typ s4 with ⟨t5,s5⟩
    rw [hs5] at c5 u5
    have q5:=u5.mS (n:=X.toks.length)
    have a5:=u5.at_
    have E5:=Lib.hid hs5
    clear hs5
    go_wp2_with fail
    refine c5.mono ?_
    rintro e w5 ⟨hb5,H5,sl5,rfl,hk5⟩
    obtain ⟨ao5,n5,p5,rfl⟩:=hk5.slice
    have Tt5:=Tre.newD S4 hk5
    clear c5 hk5
    have S5:=S4.call hb5 H5
    have Tl6:=Own.one1 S5 Tt5
    have hb7:=but_alloc w5 X.P (.cells #[.int .i64 t5.kind,.string ⟨t5.text.toArray⟩,.int .i64 t5.num,.slice ao5 n5 p5] 24)
    have H7:=S5.rdr.alloc (.cells #[.int .i64 t5.kind,.string ⟨t5.text.toArray⟩,.int .i64 t5.num,.slice ao5 n5 p5] 24)
    have S7:=S5.call hb7 H7
    go_wp2_with fail
    refine (rnode_any 11 [] _ _ _ _).mono ?_
    rintro e w8 ⟨rfl,hd8⟩
    have hb8 : But X.P (w5.alloc (.cells #[.int .i64 t5.kind,.string ⟨t5.text.toArray⟩,.int .i64 t5.num,.slice ao5 n5 p5] 24)).heap.size (w5.alloc (.cells #[.int .i64 t5.kind,.string ⟨t5.text.toArray⟩,.int .i64 t5.num,.slice ao5 n5 p5] 24)) w8:=But.of_below hd8
    have H8:=S7.rdr.below hd8 (Nat.le_refl _)
    clear hd8
    have S8:=S7.call hb8 H8
    have Tl6_8:=Tl6.mv S7 hb8
    have Tt8:=Tl6_8.tre 11 [] 0
    have HR : Hid (typV X.l (vs X.l n) s = ((.mk 11 [] 0 [t5]),s5)):=Lib.hid (by simp [typV,bindV,E0.out,E2.out,E4.out,E5.out])
    obtain ⟨y0,y1,y2,y3,b0,b1,b2,b3,bf⟩:=S8.box.open
    have bf0:=bf 0
    have bf1:=bf 1
    have bf2:=bf 2
    have bf3:=bf 3
    clear bf
    go_wp2
    obtain ⟨Wf,hWf,hput,_,d0,d1,d2,d3⟩:=putN4 S8.box (.int .i64 11) (.string ⟨([] : List UInt8).toArray⟩) (.int .i64 0) (.slice (some ⟨w5.heap.size,0,none⟩) 1 1)
    rw [hWf]
    exact bodyPost_ret (v:=.agg #[.int .i64 11,.string ⟨([] : List UInt8).toArray⟩,.int .i64 0,.slice (some ⟨w5.heap.size,0,none⟩) 1 1]) (by simp [results,Tryz.results43,go_sem,d0,d1,d2,d3]) rfl (OutR.of HR (S8.done Tt8 hput))
   | false =>
    have E2:=Lib.hid hm2
    clear hm2
    cases hm9 : isV X.l s [91] with
    | true =>
     have hx9:=now_of hm9
     have hl9:=isV_at (by decide) hm9 S0.rdr.le
     have X9:=Lib.hid hx9
     have E9:=Lib.hid hm9
     clear hm9 hx9
     go_wp2_with fail
     refine (nowX_any X W0 s h S0.rdr [91] X9.out).mono ?_
     rintro e w10 ⟨rfl,hd10⟩
     have hb10 : But X.P W0.heap.size W0 w10:=But.of_below hd10
     have H10:=S0.rdr.below hd10 (Nat.le_refl _)
     clear hd10
     have S10:=S0.call hb10 H10
     have cA11:=S10.rdr.c1
     have fA11:=S10.rdr.fz 1
     have bA11:=S10.rdr.bnd
     have H11:=S10.rdr.step hl9.2
     have hb11:=but_set w10 X.P w10.heap.size 1 (.int .i64 ((s.1 : Int) + 1))
     obtain ⟨s11,hs11⟩ : ∃ z,stepV s = z:=⟨_,rfl⟩
     rw [hs11] at H11
     have u11 : Up s s11:=hs11 ▸ (su_step s).up
     have q11 : mS X.toks.length s11 + 3 ≤ mS X.toks.length s:=hs11 ▸ mS_step hl9.1 hl9.2
     have a11 : s.1 + 1 = s11.1:=hs11 ▸ rfl
     have a11a:=Nat.le_of_eq a11
     have a11b:=Nat.le_of_eq a11.symm
     clear a11
     have E11:=Lib.hid hs11
     clear hs11
     have S11:=S10.call hb11 H11
     go_wp2_with fail
     refine (rneed_any X (w10.setCell ⟨X.P,1,none⟩ (.int .i64 ((s.1 : Int) + 1))) s11 h S11.rdr [93] (by decide)).mono ?_
     rintro e w12 ⟨rfl,hb12,H12⟩
     obtain ⟨s12,hs12⟩ : ∃ z,needV X.l [93] s11 = z:=⟨_,rfl⟩
     rw [hs12] at H12
     have u12 : Up s11 s12:=hs12 ▸ (su_need X.l [93] s11).up
     have q12:=u12.mS (n:=X.toks.length)
     have a12:=u12.at_
     have E12:=Lib.hid hs12
     clear hs12
     have S12:=S11.call hb12 H12
     have c13:=A.typ w12 s12 h S12.rdr (by omega)
     have u13:=(upV X.l n).typ s12
     rcases hs13 : (vs X.l n).typ s12 with ⟨t13,s13⟩
     rw [hs13] at c13 u13
     have q13:=u13.mS (n:=X.toks.length)
     have a13:=u13.at_
     have E13:=Lib.hid hs13
     clear hs13
     go_wp2_with fail
     refine c13.mono ?_
     rintro e w13 ⟨hb13,H13,sl13,rfl,hk13⟩
     obtain ⟨ao13,n13,p13,rfl⟩:=hk13.slice
     have Tt13:=Tre.newD S12 hk13
     clear c13 hk13
     have S13:=S12.call hb13 H13
     have Tl14:=Own.one1 S13 Tt13
     have hb15:=but_alloc w13 X.P (.cells #[.int .i64 t13.kind,.string ⟨t13.text.toArray⟩,.int .i64 t13.num,.slice ao13 n13 p13] 24)
     have H15:=S13.rdr.alloc (.cells #[.int .i64 t13.kind,.string ⟨t13.text.toArray⟩,.int .i64 t13.num,.slice ao13 n13 p13] 24)
     have S15:=S13.call hb15 H15
     go_wp2_with fail
     refine (rnode_any 12 [] _ _ _ _).mono ?_
     rintro e w16 ⟨rfl,hd16⟩
     have hb16 : But X.P (w13.alloc (.cells #[.int .i64 t13.kind,.string ⟨t13.text.toArray⟩,.int .i64 t13.num,.slice ao13 n13 p13] 24)).heap.size (w13.alloc (.cells #[.int .i64 t13.kind,.string ⟨t13.text.toArray⟩,.int .i64 t13.num,.slice ao13 n13 p13] 24)) w16:=But.of_below hd16
     have H16:=S15.rdr.below hd16 (Nat.le_refl _)
     clear hd16
     have S16:=S15.call hb16 H16
     have Tl14_16:=Tl14.mv S15 hb16
     have Tt16:=Tl14_16.tre 12 [] 0
     have HR : Hid (typV X.l (vs X.l n) s = ((.mk 12 [] 0 [t13]),s13)):=Lib.hid (by simp [typV,bindV,E0.out,E2.out,E9.out,E11.out,E12.out,E13.out])
     obtain ⟨y0,y1,y2,y3,b0,b1,b2,b3,bf⟩:=S16.box.open
     have bf0:=bf 0
     have bf1:=bf 1
     have bf2:=bf 2
     have bf3:=bf 3
     clear bf
     go_wp2
     obtain ⟨Wf,hWf,hput,_,d0,d1,d2,d3⟩:=putN4 S16.box (.int .i64 12) (.string ⟨([] : List UInt8).toArray⟩) (.int .i64 0) (.slice (some ⟨w13.heap.size,0,none⟩) 1 1)
     rw [hWf]
     exact bodyPost_ret (v:=.agg #[.int .i64 12,.string ⟨([] : List UInt8).toArray⟩,.int .i64 0,.slice (some ⟨w13.heap.size,0,none⟩) 1 1]) (by simp [results,Tryz.results43,go_sem,d0,d1,d2,d3]) rfl (OutR.of HR (S16.done Tt16 hput))
    | false =>
     have E9:=Lib.hid hm9
     clear hm9
     cases hm17 : isV X.l s [102,117,110,99] with
     | true =>
      have hx17:=now_of hm17
      have hl17:=isV_at (by decide) hm17 S0.rdr.le
      have X17:=Lib.hid hx17
      have E17:=Lib.hid hm17
      clear hm17 hx17
      go_wp2_with fail
      refine (nowX_any X W0 s h S0.rdr [102,117,110,99] X17.out).mono ?_
      rintro e w18 ⟨rfl,hd18⟩
      have hb18 : But X.P W0.heap.size W0 w18:=But.of_below hd18
      have H18:=S0.rdr.below hd18 (Nat.le_refl _)
      clear hd18
      have S18:=S0.call hb18 H18
      have cA19:=S18.rdr.c1
      have fA19:=S18.rdr.fz 1
      have bA19:=S18.rdr.bnd
      have H19:=S18.rdr.step hl17.2
      have hb19:=but_set w18 X.P w18.heap.size 1 (.int .i64 ((s.1 : Int) + 1))
      obtain ⟨s19,hs19⟩ : ∃ z,stepV s = z:=⟨_,rfl⟩
      rw [hs19] at H19
      have u19 : Up s s19:=hs19 ▸ (su_step s).up
      have q19 : mS X.toks.length s19 + 3 ≤ mS X.toks.length s:=hs19 ▸ mS_step hl17.1 hl17.2
      have a19 : s.1 + 1 = s19.1:=hs19 ▸ rfl
      have a19a:=Nat.le_of_eq a19
      have a19b:=Nat.le_of_eq a19.symm
      clear a19
      have E19:=Lib.hid hs19
      clear hs19
      have S19:=S18.call hb19 H19
      go_wp2_with fail
      refine (rneed_any X (w18.setCell ⟨X.P,1,none⟩ (.int .i64 ((s.1 : Int) + 1))) s19 h S19.rdr [40] (by decide)).mono ?_
      rintro e w20 ⟨rfl,hb20,H20⟩
      obtain ⟨s20,hs20⟩ : ∃ z,needV X.l [40] s19 = z:=⟨_,rfl⟩
      rw [hs20] at H20
      have u20 : Up s19 s20:=hs20 ▸ (su_need X.l [40] s19).up
      have q20:=u20.mS (n:=X.toks.length)
      have a20:=u20.at_
      have E20:=Lib.hid hs20
      clear hs20
      have S20:=S19.call hb20 H20
      go_wp2_with fail
      refine (rnode_any 13 [] _ _ _ _).mono ?_
      rintro e w21 ⟨rfl,hd21⟩
      have hb21 : But X.P w20.heap.size w20 w21:=But.of_below hd21
      have H21:=S20.rdr.below hd21 (Nat.le_refl _)
      clear hd21
      have S21:=S20.call hb21 H21
      have Tt21:=Tre.leaf w w21 13 [] 0 none 0
      have Nn_22:=NBox.new (X:=X) (k:=13) (s:=[]) (num:=0) (OwnL.nil w21 _) S21.lt
      have hb23:=but_alloc w21 X.P (.cells #[.int .i64 13,.string ⟨([] : List UInt8).toArray⟩,.int .i64 0,.slice none 0 0] 24)
      have H23:=S21.rdr.alloc (.cells #[.int .i64 13,.string ⟨([] : List UInt8).toArray⟩,.int .i64 0,.slice none 0 0] 24)
      have S23:=S21.call hb23 H23
      cases hm24 : isV X.l s20 [41] with
      | true =>
       have hl24:=isV_at (by decide) hm24 S23.rdr.le
       have c24:=rtake_yes X (w21.alloc (.cells #[.int .i64 13,.string ⟨([] : List UInt8).toArray⟩,.int .i64 0,.slice none 0 0] 24)) s20 h S23.rdr [41] (by decide) hm24
       obtain ⟨s24,hs24⟩ : ∃ z,stepV s20 = z:=⟨_,rfl⟩
       rw [hs24] at c24
       have u24 : Up s20 s24:=hs24 ▸ (su_step s20).up
       have q24 : mS X.toks.length s24 + 3 ≤ mS X.toks.length s20:=hs24 ▸ mS_step hl24.1 hl24.2
       have a24 : s20.1 + 1 = s24.1:=hs24 ▸ rfl
       have a24a:=Nat.le_of_eq a24
       have a24b:=Nat.le_of_eq a24.symm
       clear a24
       have E24 : Hid (takeV X.l [41] s20 = (true,s24)):=Lib.hid (by simp [takeV,hm24,hs24])
       clear hm24 hs24 hl24
       go_wp2_with fail
       refine c24.mono ?_
       rintro e w24 ⟨rfl,hb24,H24⟩
       clear c24
       have S24:=S23.call hb24 H24
       have Nn_24:=Nn_22.mv S23 hb24
       obtain ⟨zu250,zu251,zu252,zu253,zu25f⟩:=Nn_24.cells
       have zu25g0:=zu25f 0
       have zu25g1:=zu25f 1
       have zu25g2:=zu25f 2
       have zu25g3:=zu25f 3
       clear zu25f
       have hpx26:=(Put.refl (w21.heap.size) w24).setCell 2 (.int .i64 0)
       have S26:=S24.put hpx26 Nn_24.lt
       have Nn_26:=Nn_24.setNum 0
       have cB:=rresults_any X n A (w24.setCell ⟨w21.heap.size,2,none⟩ (.int .i64 0)).drew s24 h S26.drew.rdr (by omega)
       have u27:=up_results (l:=X.l) (upV X.l n) s24
       rcases hs27 : resultsV X.l (vs X.l n) s24 with ⟨l27,s27⟩
       rw [hs27] at cB u27
       have q27:=u27.mS (n:=X.toks.length)
       have a27:=u27.at_
       have E27:=Lib.hid hs27
       clear hs27
       have sb27:=S26.lt
       obtain ⟨zq270,zq271,zq272,zq273,zq27f⟩:=Nn_26.cells
       have zq27g0:=zq27f 0
       have zq27g1:=zq27f 1
       have zq27g2:=zq27f 2
       have zq27g3:=zq27f 3
       clear zq27f
       go_wp2_with fail
       clear zq270 zq271 zq272 zq273 zq27g0 zq27g1 zq27g2 zq27g3
       generalize (Value.slice none 0 0) = V27 at *
       have lo27:=OwnL.lt Nn_26.own.own
       obtain ⟨zr270,zr271,zr272,zr273,zr27f⟩:=Nn_26.cells
       have zr27g0:=zr27f 0
       have zr27g1:=zr27f 1
       have zr27g2:=zr27f 2
       have zr27g3:=zr27f 3
       clear zr27f
       have ln27 : ([] : List Tr).length ≤ 500000:=by simp
       go_region_law (first
         | (go_simp; go_at_call 75; refine cB.mono ?_; rintro e w27 ⟨hb27,H27,ll27,v27,rfl,hk27⟩; obtain ⟨ao27,p27,rfl⟩:=hk27.slice
            have S27a:=S26.drew.call hb27 H27
            have N27a:=Nn_26.drew.mv S26.drew hb27
            have lz27:=hb27.size
            have ld27 : ((w24.setCell ⟨w21.heap.size,2,none⟩ (.int .i64 0))).drew.heap.size = ((w24.setCell ⟨w21.heap.size,2,none⟩ (.int .i64 0))).heap.size:=rfl
            have bd27:=H27.bnd
            have lm27:=Nn_26.ltz
            have hO27:=OwnQ.of (Q:=fun b => b ≠ w21.heap.size) hk27 (fun b hb _ => by omega)
            have N27b:=N27a
            have S27b:=S27a
            obtain ⟨y270,y271,y272,y273,y27f⟩:=N27a.cells
            have y27g:=y27f 3
            have ym27:=N27a.ltz
            have yn27 : w21.heap.size ≠ w27.heap.size:=Nat.ne_of_lt ym27
            have yo27 : w27.heap.size ≠ w21.heap.size:=fun e => yn27 e.symm
            clear y27f)
         | (refine step_join (by rfl) _ _ (by rfl) (by rfl) (by rfl) N27b.own hO27 ?_ ?_ ?_ ?_ ?_ ?_
            · first | omega | (simp; omega)
            · omega
            · first | omega | (simp; omega)
            · exact fun q hq => (lo27 q hq).2
            · first | omega | (simp; omega)
            intro ao27c c27c w27c hO27c hg27c
            generalize hL27 : ([] : List Tr).length + (l27 : List Tr).length = L27 at *
            have S27c:=S27b.grown hg27c (fun q hq => (lo27 q hq).1)
            have B27c:=N27b.grown hg27c
            obtain ⟨x270,x271,x272,x273,x27f⟩:=cells_of_blk B27c
            have x27g:=x27f 3
            clear x27f))
       all_goals
        have S27d:=S27c.put ((Put.refl (w21.heap.size) w27c).setCell 3 (.slice ao27c L27 c27c)) Nn_26.lt
        have N27d : NBox X w (w27c.setCell ⟨w21.heap.size,3,none⟩ (.slice ao27c L27 c27c)) (w21.heap.size) 13 [] 0 (.slice ao27c L27 c27c) (l27):=NBox.setKids (X:=X) B27c Nn_26.lt hO27c
        clear x270 x271 x272 x273 x27g
        generalize w27c.setCell ⟨w21.heap.size,3,none⟩ (.slice ao27c L27 c27c) = w27d at *
        obtain ⟨zv280,zv281,zv282,zv283,zv28f⟩:=N27d.cells
        have zv28g0:=zv28f 0
        have zv28g1:=zv28f 1
        have zv28g2:=zv28f 2
        have zv28g3:=zv28f 3
        clear zv28f
        have Tt28:=N27d.tre
        have HR : Hid (typV X.l (vs X.l n) s = ((.mk 13 [] 0 l27),s27)):=Lib.hid (by simp [typV,bindV,E0.out,E2.out,E9.out,E17.out,E19.out,E20.out,E24.out,E27.out])
        obtain ⟨y0,y1,y2,y3,b0,b1,b2,b3,bf⟩:=S27d.box.open
        have bf0:=bf 0
        have bf1:=bf 1
        have bf2:=bf 2
        have bf3:=bf 3
        clear bf
        go_wp2
        obtain ⟨Wf,hWf,hput,_,d0,d1,d2,d3⟩:=putN4 S27d.box (.int .i64 13) (.string ⟨([] : List UInt8).toArray⟩) (.int .i64 0) (.slice ao27c L27 c27c)
        rw [hWf]
        exact bodyPost_ret (v:=.agg #[.int .i64 13,.string ⟨([] : List UInt8).toArray⟩,.int .i64 0,.slice ao27c L27 c27c]) (by simp [results,Tryz.results43,go_sem,d0,d1,d2,d3]) rfl (OutR.of HR (S27d.done Tt28 hput))
      | false =>
       have c24:=rtake_no X (w21.alloc (.cells #[.int .i64 13,.string ⟨([] : List UInt8).toArray⟩,.int .i64 0,.slice none 0 0] 24)) s20 h S23.rdr [41] hm24
       have E24 : Hid (takeV X.l [41] s20 = (false,s20)):=Lib.hid (by simp [takeV,hm24])
       clear hm24
       go_wp2_with fail
       refine c24.mono ?_
       rintro e w24 ⟨rfl,hb24,H24⟩
       clear c24
       have S24:=S23.call hb24 H24
       have Nn_24:=Nn_22.mv S23 hb24
       have lmn:=Nn_24.ltz
       have lsn:=S24.lt
       have c29:=rtypes_any X n A w24 s20 h S24.rdr (by omega)
       have u29:=up_commas (l:=X.l) (upV X.l n).typ s20
       rcases hs29 : commasV X.l (vs X.l n).typ s20 with ⟨l29,s29⟩
       rw [hs29] at c29 u29
       have q29:=u29.mS (n:=X.toks.length)
       have a29:=u29.at_
       have E29:=Lib.hid hs29
       clear hs29
       go_wp2_with fail
       refine c29.mono ?_
       rintro e w29 ⟨hb29,H29,ll29,v29,rfl,hk29⟩
       obtain ⟨ao29,p29,rfl⟩:=hk29.slice
       have Tl29:=Own.newD S24 hk29
       have bd29:=H29.bnd
       clear c29
       have S29:=S24.call hb29 H29
       have Nn_29:=Nn_24.mv S24 hb29
       obtain ⟨zk290,zk291,zk292,zk293,zk29f⟩:=Nn_29.cells
       have zk29g0:=zk29f 0
       have zk29g1:=zk29f 1
       have zk29g2:=zk29f 2
       have zk29g3:=zk29f 3
       clear zk29f
       have lm29:=Nn_29.lt
       have hpx30:=(Put.refl (w21.heap.size) w29).setCell 3 (.slice ao29 l29.length p29)
       have S30:=S29.put hpx30 Nn_29.lt
       have Nn_30:=NBox.setKids (X:=X) Nn_29.blk Nn_29.lt (OwnQ.newD hk29 (by omega) (by omega))
       go_wp2_with fail
       refine (rneed_any X (w29.setCell ⟨w21.heap.size,3,none⟩ (.slice ao29 l29.length p29)) s29 h S30.rdr [41] (by decide)).mono ?_
       rintro e w31 ⟨rfl,hb31,H31⟩
       obtain ⟨s31,hs31⟩ : ∃ z,needV X.l [41] s29 = z:=⟨_,rfl⟩
       rw [hs31] at H31
       have u31 : Up s29 s31:=hs31 ▸ (su_need X.l [41] s29).up
       have q31:=u31.mS (n:=X.toks.length)
       have a31:=u31.at_
       have E31:=Lib.hid hs31
       clear hs31
       have S31:=S30.call hb31 H31
       have Nn_31:=Nn_30.mv S30 hb31
       obtain ⟨zu320,zu321,zu322,zu323,zu32f⟩:=Nn_31.cells
       have zu32g0:=zu32f 0
       have zu32g1:=zu32f 1
       have zu32g2:=zu32f 2
       have zu32g3:=zu32f 3
       clear zu32f
       have hpx33:=(Put.refl (w21.heap.size) w31).setCell 2 (.int .i64 (l29.length : Int))
       have S33:=S31.put hpx33 Nn_31.lt
       have Nn_33:=Nn_31.setNum (l29.length : Int)
       have cB:=rresults_any X n A (w31.setCell ⟨w21.heap.size,2,none⟩ (.int .i64 (l29.length : Int))).drew s31 h S33.drew.rdr (by omega)
       have u34:=up_results (l:=X.l) (upV X.l n) s31
       rcases hs34 : resultsV X.l (vs X.l n) s31 with ⟨l34,s34⟩
       rw [hs34] at cB u34
       have q34:=u34.mS (n:=X.toks.length)
       have a34:=u34.at_
       have E34:=Lib.hid hs34
       clear hs34
       have sb34:=S33.lt
       obtain ⟨zq340,zq341,zq342,zq343,zq34f⟩:=Nn_33.cells
       have zq34g0:=zq34f 0
       have zq34g1:=zq34f 1
       have zq34g2:=zq34f 2
       have zq34g3:=zq34f 3
       clear zq34f
       go_wp2_with fail
       clear zq340 zq341 zq342 zq343 zq34g0 zq34g1 zq34g2 zq34g3
       generalize (Value.slice ao29 l29.length p29) = V34 at *
       have lo34:=OwnL.lt Nn_33.own.own
       obtain ⟨zr340,zr341,zr342,zr343,zr34f⟩:=Nn_33.cells
       have zr34g0:=zr34f 0
       have zr34g1:=zr34f 1
       have zr34g2:=zr34f 2
       have zr34g3:=zr34f 3
       clear zr34f
       have ln34 : l29.length ≤ 500000:=by omega
       go_region_law (first
         | (go_simp; go_at_call 75; refine cB.mono ?_; rintro e w34 ⟨hb34,H34,ll34,v34,rfl,hk34⟩; obtain ⟨ao34,p34,rfl⟩:=hk34.slice
            have S34a:=S33.drew.call hb34 H34
            have N34a:=Nn_33.drew.mv S33.drew hb34
            have lz34:=hb34.size
            have ld34 : ((w31.setCell ⟨w21.heap.size,2,none⟩ (.int .i64 (l29.length : Int)))).drew.heap.size = ((w31.setCell ⟨w21.heap.size,2,none⟩ (.int .i64 (l29.length : Int)))).heap.size:=rfl
            have bd34:=H34.bnd
            have lm34:=Nn_33.ltz
            have hO34:=OwnQ.of (Q:=fun b => b ≠ w21.heap.size) hk34 (fun b hb _ => by omega)
            have N34b:=N34a
            have S34b:=S34a
            obtain ⟨y340,y341,y342,y343,y34f⟩:=N34a.cells
            have y34g:=y34f 3
            have ym34:=N34a.ltz
            have yn34 : w21.heap.size ≠ w34.heap.size:=Nat.ne_of_lt ym34
            have yo34 : w34.heap.size ≠ w21.heap.size:=fun e => yn34 e.symm
            clear y34f)
         | (refine step_join (by rfl) _ _ (by rfl) (by rfl) (by rfl) N34b.own hO34 ?_ ?_ ?_ ?_ ?_ ?_
            · first | omega | (simp; omega)
            · omega
            · first | omega | (simp; omega)
            · exact fun q hq => (lo34 q hq).2
            · first | omega | (simp; omega)
            intro ao34c c34c w34c hO34c hg34c
            generalize hL34 : (l29 : List Tr).length + (l34 : List Tr).length = L34 at *
            have S34c:=S34b.grown hg34c (fun q hq => (lo34 q hq).1)
            have B34c:=N34b.grown hg34c
            obtain ⟨x340,x341,x342,x343,x34f⟩:=cells_of_blk B34c
            have x34g:=x34f 3
            clear x34f))
       all_goals
        have S34d:=S34c.put ((Put.refl (w21.heap.size) w34c).setCell 3 (.slice ao34c L34 c34c)) Nn_33.lt
        have N34d : NBox X w (w34c.setCell ⟨w21.heap.size,3,none⟩ (.slice ao34c L34 c34c)) (w21.heap.size) 13 [] (l29.length : Int) (.slice ao34c L34 c34c) ((l29 ++ l34)):=NBox.setKids (X:=X) B34c Nn_33.lt hO34c
        clear x340 x341 x342 x343 x34g
        generalize w34c.setCell ⟨w21.heap.size,3,none⟩ (.slice ao34c L34 c34c) = w34d at *
        obtain ⟨zv350,zv351,zv352,zv353,zv35f⟩:=N34d.cells
        have zv35g0:=zv35f 0
        have zv35g1:=zv35f 1
        have zv35g2:=zv35f 2
        have zv35g3:=zv35f 3
        clear zv35f
        have Tt35:=N34d.tre
        have HR : Hid (typV X.l (vs X.l n) s = ((.mk 13 [] (l29.length : Int) (l29 ++ l34)),s34)):=Lib.hid (by simp [typV,bindV,E0.out,E2.out,E9.out,E17.out,E19.out,E20.out,E24.out,E29.out,E31.out,E34.out])
        obtain ⟨y0,y1,y2,y3,b0,b1,b2,b3,bf⟩:=S34d.box.open
        have bf0:=bf 0
        have bf1:=bf 1
        have bf2:=bf 2
        have bf3:=bf 3
        clear bf
        go_wp2
        obtain ⟨Wf,hWf,hput,_,d0,d1,d2,d3⟩:=putN4 S34d.box (.int .i64 13) (.string ⟨([] : List UInt8).toArray⟩) (.int .i64 (l29.length : Int)) (.slice ao34c L34 c34c)
        rw [hWf]
        exact bodyPost_ret (v:=.agg #[.int .i64 13,.string ⟨([] : List UInt8).toArray⟩,.int .i64 (l29.length : Int),.slice ao34c L34 c34c]) (by simp [results,Tryz.results43,go_sem,d0,d1,d2,d3]) rfl (OutR.of HR (S34d.done Tt35 hput))
     | false =>
      have E17:=Lib.hid hm17
      clear hm17
      obtain ⟨x36,hx36⟩ : ∃ z,nowV X.l s = z:=⟨_,rfl⟩
      have n36_0:=now_no (m:=[42]) hx36 E2.out
      have n36_1:=now_no (m:=[91]) hx36 E9.out
      have n36_2:=now_no (m:=[102,117,110,99]) hx36 E17.out
      have X36:=Lib.hid hx36
      clear hx36
      go_wp2_with fail
      refine (nowX_any X W0 s h S0.rdr x36 X36.out).mono ?_
      rintro e w37 ⟨rfl,hd37⟩
      have hb37 : But X.P W0.heap.size W0 w37:=But.of_below hd37
      have H37:=S0.rdr.below hd37 (Nat.le_refl _)
      clear hd37
      have S37:=S0.call hb37 H37
      have c38:=rname_any X w37 s h S37.rdr
      have u38:=(su_name X.l s).up
      rcases hs38 : nameV X.l s with ⟨x38,s38⟩
      rw [hs38] at c38 u38
      have q38:=u38.mS (n:=X.toks.length)
      have a38:=u38.at_
      have E38:=Lib.hid hs38
      clear hs38
      go_wp2_with fail
      refine c38.mono ?_
      rintro e w38 ⟨rfl,hb38,H38⟩
      clear c38
      have S38:=S37.call hb38 H38
      go_wp2_with fail
      refine (rnode_any 10 x38 _ _ _ _).mono ?_
      rintro e w39 ⟨rfl,hd39⟩
      have hb39 : But X.P w38.heap.size w38 w39:=But.of_below hd39
      have H39:=S38.rdr.below hd39 (Nat.le_refl _)
      clear hd39
      have S39:=S38.call hb39 H39
      have Tt39:=Tre.leaf w w39 10 x38 0 none 0
      have HR : Hid (typV X.l (vs X.l n) s = ((.mk 10 x38 0 []),s38)):=Lib.hid (by simp [typV,bindV,E0.out,E2.out,E9.out,E17.out,E38.out])
      obtain ⟨y0,y1,y2,y3,b0,b1,b2,b3,bf⟩:=S39.box.open
      have bf0:=bf 0
      have bf1:=bf 1
      have bf2:=bf 2
      have bf3:=bf 3
      clear bf
      go_wp2
      obtain ⟨Wf,hWf,hput,_,d0,d1,d2,d3⟩:=putN4 S39.box (.int .i64 10) (.string ⟨(x38 : List UInt8).toArray⟩) (.int .i64 0) (.slice none 0 0)
      rw [hWf]
      exact bodyPost_ret (v:=.agg #[.int .i64 10,.string ⟨(x38 : List UInt8).toArray⟩,.int .i64 0,.slice none 0 0]) (by simp [results,Tryz.results43,go_sem,d0,d1,d2,d3]) rfl (OutR.of HR (S39.done Tt39 hput))
end Go.Proofs.YtnkphlkjhgngkaaGreatDoor
