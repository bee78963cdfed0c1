/- The document's reader: primary. -/
import Derived.Test.YtnkphlkjhgngkaaGreatDoorRdGJt
namespace Go.Proofs.YtnkphlkjhgngkaaGreatDoor
open Go.RowKit
attribute [local go_sem ↓] Go.wp_at_zero Go.wp_at_succ
theorem OutR.drew {X : Px} {w W : World} {h : Bool} {t : Tr} {s : Sg} {e : Ending} (o : OutR X w h (t,s) e W) : OutR X w h (t,s) e W.drew:=by
 obtain ⟨h1,h2,sl,h3,h4⟩:=o
 exact ⟨h1.drew,h2.of_blocks rfl rfl (Nat.le_refl _),sl,h3,h4.fr (fun _ _ => rfl) (fun _ hb => hb)⟩
theorem Rdr.back {X : Px} {w : World} {s s' : Sg} {h : Bool} (H : Rdr X w s' h) (hl : s.1 ≤ s'.1) (hb : s.2 = false) (hb2 : s'.2 = false) : Rdr X (w.setCell ⟨X.P,1,none⟩ (.int .i64 (s.1 : Int))) s h :=
  H.set (o:=1) (by simp [hb,hb2]) (Nat.le_trans hl H.le)
set_option maxRecDepth 20000 in
set_option maxHeartbeats 8000000 in
theorem rprimary_any (X : Px) (n : Nat) (A : GoodR X n) (w : World) (s : Sg) (h : Bool) (H : Rdr X w s h) (hn : mS X.toks.length s + 0 ≤ n) :
    Calls Tryz.prog 179 #[X.p] w (OutR X w h (primV X.l (vs X.l n) h s)):=by
  obtain ⟨W0,hW0,S0⟩:=Sd.first H
  go_enter Tryz.func179,Tryz.ntmps179
  have c3:=S0.rdr.c3
  cases hm1 : (kindV X.l s == 2) with
  | true =>
   have hkk : kindRd X s = 2:=by have:=kindRd_eq (X:=X) (s:=s) 2 (by decide) (by decide) S0.rdr.le; rw [hm1] at this; simpa using this
   have hl1:=kindV_at (X:=X) (by decide) (by decide) hm1 S0.rdr.le
   have HK:=Lib.hid hkk
   have E1:=Lib.hid hm1
   clear hkk hm1
   go_wp2_with fail
   refine (kindX_any X W0 s h S0.rdr 2 HK.out).mono ?_
   rintro e w2 ⟨rfl,hd2⟩
   have hb2 : But X.P W0.heap.size W0 w2:=But.of_below hd2
   have H2:=S0.rdr.below hd2 (Nat.le_refl _)
   clear hd2
   have S2:=S0.call hb2 H2
   have cA3:=S2.rdr.c1
   have fA3:=S2.rdr.fz 1
   have bA3:=S2.rdr.bnd
   have H3:=S2.rdr.step hl1.2
   have hb3:=but_set w2 X.P w2.heap.size 1 (.int .i64 ((s.1 : Int) + 1))
   obtain ⟨s3,hs3⟩ : ∃ z,stepV s = z:=⟨_,rfl⟩
   rw [hs3] at H3
   have u3 : Up s s3:=hs3 ▸ (su_step s).up
   have q3 : mS X.toks.length s3 + 3 ≤ mS X.toks.length s:=hs3 ▸ mS_step hl1.1 hl1.2
   have a3 : s.1 + 1 = s3.1:=hs3 ▸ rfl
   have a3a:=Nat.le_of_eq a3
   have a3b:=Nat.le_of_eq a3.symm
   clear a3
   have E3:=Lib.hid hs3
   clear hs3
   have S3:=S2.call hb3 H3
   go_wp2_with fail
   generalize (w2.setCell ⟨X.P,1,none⟩ (.int .i64 ((s.1 : Int) + 1))) = wq at *
   have c0:=S3.rdr.c0
   have c1 : wq.cell? ⟨X.P,1,none⟩ = some (.int .i64 ((s.1 : Int) + 1)):=by have:=S3.rdr.c1; rw [this]; congr 2; omega
   obtain ⟨t0,t1,t2,t3⟩:=S3.rdr.tok s.1 _ (tk_in hl1.2)
   have HT : Hid (textA X.l s.1 = (tkA X.l s.1).2.1):=rfl
   have HN : Hid (numA X.l s.1 = (tkA X.l s.1).2.2.1):=rfl
   generalize tkA X.l s.1 = t at *
   have j1 : (0 : Int) ≤ (s.1 : Int):=by omega
   have j2 : (s.1 : Int) < (X.toks.length : Int):=by have:=hl1.2; omega
   have nP : X.P ≠ w.heap.size:=Nat.ne_of_lt S3.plt
   have nT : X.tb ≠ w.heap.size:=Nat.ne_of_lt S3.tlt
   have nP2 : w.heap.size ≠ X.P:=fun e => nP e.symm
   have nT2 : w.heap.size ≠ X.tb:=fun e => nT e.symm
   have plq:=S3.rdr.plt
   have tlq:=S3.rdr.tlt
   have jw : IntKind.i64.wrap ((s.1 : Int) + 1 - 1) = (s.1 : Int):=by rw [IntKind.wrap_i64]; omega
   have jv : IntKind.i64.wrap (s.1 : Int) = (s.1 : Int):=by rw [IntKind.wrap_i64]; omega
   obtain ⟨y0,y1,y2,y3,b0,b1,b2,b3,bf⟩:=S3.box.open
   have bf0:=bf 0
   have bf1:=bf 1
   have bf2:=bf 2
   have bf3:=bf 3
   clear bf
   have Tt:=Tre.leaf w wq 40 [] t.2.2.1 none 0
   have HR : Hid (primV X.l (vs X.l n) h s = (.mk 40 [] t.2.2.1 [],s3)):=Lib.hid (by simp [primV,E1.out,E3.out,HN.out])
   go_region_held3 (fun w' => w'.cell? ⟨X.P,0,none⟩ = some (.slice (some ⟨X.tb,0,none⟩) X.toks.length X.cp) ∧ w'.cell? ⟨X.P,1,none⟩ = some (.int .i64 ((s.1 : Int) + 1)) ∧ w'.cell? ⟨X.tb,s.1 * 4 + 2,none⟩ = some (.int .i64 t.2.2.1)) (go_keep) (fail)
   all_goals
    go_wp2
    obtain ⟨Wf,hWf,hput,_,d0,d1,d2,d3⟩:=putN4 S3.box (.int .i64 40) (.string ⟨#[]⟩) (.int .i64 t.2.2.1) (.slice none 0 0)
    rw [hWf]
    exact bodyPost_ret (v:=.agg #[.int .i64 40,.string ⟨#[]⟩,.int .i64 t.2.2.1,.slice none 0 0]) (by simp [results,Tryz.results179,go_sem,d0,d1,d2,d3]) rfl (OutR.of HR ((S3.done Tt hput).drew))
  | false =>
   have E1:=Lib.hid hm1
   clear hm1
   cases hm4 : (kindV X.l s == 3) with
   | true =>
    have hkk : kindRd X s = 3:=by have:=kindRd_eq (X:=X) (s:=s) 3 (by decide) (by decide) S0.rdr.le; rw [hm4] at this; simpa using this
    have hl4:=kindV_at (X:=X) (by decide) (by decide) hm4 S0.rdr.le
    have HK:=Lib.hid hkk
    have E4:=Lib.hid hm4
    clear hkk hm4
    go_wp2_with fail
    refine (kindX_any X W0 s h S0.rdr 3 HK.out).mono ?_
    rintro e w5 ⟨rfl,hd5⟩
    have hb5 : But X.P W0.heap.size W0 w5:=But.of_below hd5
    have H5:=S0.rdr.below hd5 (Nat.le_refl _)
    clear hd5
    have S5:=S0.call hb5 H5
    have cA6:=S5.rdr.c1
    have fA6:=S5.rdr.fz 1
    have bA6:=S5.rdr.bnd
    have H6:=S5.rdr.step hl4.2
    have hb6:=but_set w5 X.P w5.heap.size 1 (.int .i64 ((s.1 : Int) + 1))
    obtain ⟨s6,hs6⟩ : ∃ z,stepV s = z:=⟨_,rfl⟩
    rw [hs6] at H6
    have u6 : Up s s6:=hs6 ▸ (su_step s).up
    have q6 : mS X.toks.length s6 + 3 ≤ mS X.toks.length s:=hs6 ▸ mS_step hl4.1 hl4.2
    have a6 : s.1 + 1 = s6.1:=hs6 ▸ rfl
    have a6a:=Nat.le_of_eq a6
    have a6b:=Nat.le_of_eq a6.symm
    clear a6
    have E6:=Lib.hid hs6
    clear hs6
    have S6:=S5.call hb6 H6
    go_wp2_with fail
    generalize (w5.setCell ⟨X.P,1,none⟩ (.int .i64 ((s.1 : Int) + 1))) = wq at *
    have c0:=S6.rdr.c0
    have c1 : wq.cell? ⟨X.P,1,none⟩ = some (.int .i64 ((s.1 : Int) + 1)):=by have:=S6.rdr.c1; rw [this]; congr 2; omega
    obtain ⟨t0,t1,t2,t3⟩:=S6.rdr.tok s.1 _ (tk_in hl4.2)
    have HT : Hid (textA X.l s.1 = (tkA X.l s.1).2.1):=rfl
    have HN : Hid (numA X.l s.1 = (tkA X.l s.1).2.2.1):=rfl
    generalize tkA X.l s.1 = t at *
    have j1 : (0 : Int) ≤ (s.1 : Int):=by omega
    have j2 : (s.1 : Int) < (X.toks.length : Int):=by have:=hl4.2; omega
    have nP : X.P ≠ w.heap.size:=Nat.ne_of_lt S6.plt
    have nT : X.tb ≠ w.heap.size:=Nat.ne_of_lt S6.tlt
    have nP2 : w.heap.size ≠ X.P:=fun e => nP e.symm
    have nT2 : w.heap.size ≠ X.tb:=fun e => nT e.symm
    have plq:=S6.rdr.plt
    have tlq:=S6.rdr.tlt
    have jw : IntKind.i64.wrap ((s.1 : Int) + 1 - 1) = (s.1 : Int):=by rw [IntKind.wrap_i64]; omega
    have jv : IntKind.i64.wrap (s.1 : Int) = (s.1 : Int):=by rw [IntKind.wrap_i64]; omega
    obtain ⟨y0,y1,y2,y3,b0,b1,b2,b3,bf⟩:=S6.box.open
    have bf0:=bf 0
    have bf1:=bf 1
    have bf2:=bf 2
    have bf3:=bf 3
    clear bf
    have HR : Hid (primV X.l (vs X.l n) h s = (.mk 41 t.2.1 0 [],s6)):=Lib.hid (by simp [primV,E1.out,E4.out,E6.out,HT.out])
    go_region_held3 (fun w' => w'.cell? ⟨X.P,0,none⟩ = some (.slice (some ⟨X.tb,0,none⟩) X.toks.length X.cp) ∧ w'.cell? ⟨X.P,1,none⟩ = some (.int .i64 ((s.1 : Int) + 1)) ∧ w'.cell? ⟨X.tb,s.1 * 4 + 1,none⟩ = some (.string ⟨t.2.1.toArray⟩)) (go_keep) (first
      | (go_simp; go_at_call 23; refine (rnode_any 41 t.2.1 _ _ _ _).mono ?_; rintro e wn ⟨rfl,hdn⟩
         have Sn:=S6.drew.below hdn
         have k0:=(hdn.cell (p:=⟨X.P,0,none⟩) plq).trans c0
         have k1:=(hdn.cell (p:=⟨X.P,1,none⟩) plq).trans c1
         have k2:=(hdn.cell (p:=⟨X.tb,s.1 * 4 + 1,none⟩) tlq).trans t1
         have Tt:=Tre.leaf w wn 41 t.2.1 0 none 0
         obtain ⟨i0,i1,i2,i3,g0,g1,g2,g3,gf⟩:=Sn.box.open
         have gf0:=gf 0
         have gf1:=gf 1
         have gf2:=gf 2
         have gf3:=gf 3
         clear gf))
    all_goals
     go_wp2
     obtain ⟨Wf,hWf,hput,_,d0,d1,d2,d3⟩:=putN4 Sn.box (.int .i64 41) (.string ⟨t.2.1.toArray⟩) (.int .i64 0) (.slice none 0 0)
     rw [hWf]
     exact bodyPost_ret (v:=.agg #[.int .i64 41,.string ⟨t.2.1.toArray⟩,.int .i64 0,.slice none 0 0]) (by simp [results,Tryz.results179,go_sem,d0,d1,d2,d3]) rfl (OutR.of HR (Sn.done Tt hput))
   | false =>
    have E4:=Lib.hid hm4
    clear hm4
    cases hm7 : (kindV X.l s == 1) with
    | true =>
     have hkk : kindRd X s = 1:=by have:=kindRd_eq (X:=X) (s:=s) 1 (by decide) (by decide) S0.rdr.le; rw [hm7] at this; simpa using this
     have hl7:=kindV_at (X:=X) (by decide) (by decide) hm7 S0.rdr.le
     have HK:=Lib.hid hkk
     have E7:=Lib.hid hm7
     clear hkk hm7
     go_wp2_with fail
     refine (kindX_any X W0 s h S0.rdr 1 HK.out).mono ?_
     rintro e w8 ⟨rfl,hd8⟩
     have hb8 : But X.P W0.heap.size W0 w8:=But.of_below hd8
     have H8:=S0.rdr.below hd8 (Nat.le_refl _)
     clear hd8
     have S8:=S0.call hb8 H8
     have c9:=rname_any X w8 s h S8.rdr
     have u9:=(su_name X.l s).up
     rcases hs9 : nameV X.l s with ⟨x9,s9⟩
     rw [hs9] at c9 u9
     have q9:=u9.mS (n:=X.toks.length)
     have a9:=u9.at_
     have E9:=Lib.hid hs9
     clear hs9
     go_wp2_with fail
     refine c9.mono ?_
     rintro e w9 ⟨rfl,hb9,H9⟩
     clear c9
     have S9:=S8.call hb9 H9
     cases h with
     | true =>
      go_wp2_with fail
      refine (rnode_any 44 x9 _ _ _ _).mono ?_
      rintro e w10 ⟨rfl,hd10⟩
      have hb10 : But X.P w9.heap.size w9 w10:=But.of_below hd10
      have H10:=S9.rdr.below hd10 (Nat.le_refl _)
      clear hd10
      have S10:=S9.call hb10 H10
      have Tt10:=Tre.leaf w w10 44 x9 0 none 0
      have HR : Hid (primV X.l (vs X.l n) true s = ((.mk 44 x9 0 []),s9)):=Lib.hid (by simp [primV,bindV,E1.out,E4.out,E7.out,E9.out])
      obtain ⟨y0,y1,y2,y3,b0,b1,b2,b3,bf⟩:=S10.box.open
      have bf0:=bf 0
      have bf1:=bf 1
      have bf2:=bf 2
      have bf3:=bf 3
      clear bf
      go_wp2
      obtain ⟨Wf,hWf,hput,_,d0,d1,d2,d3⟩:=putN4 S10.box (.int .i64 44) (.string ⟨(x9 : List UInt8).toArray⟩) (.int .i64 0) (.slice none 0 0)
      rw [hWf]
      exact bodyPost_ret (v:=.agg #[.int .i64 44,.string ⟨(x9 : List UInt8).toArray⟩,.int .i64 0,.slice none 0 0]) (by simp [results,Tryz.results179,go_sem,d0,d1,d2,d3]) rfl (OutR.of HR (S10.done Tt10 hput))
     | false =>
      cases hm11 : isV X.l s9 [123] with
      | true =>
       have hl11:=isV_at (by decide) hm11 S9.rdr.le
       have c11:=rtake_yes X w9 s9 false S9.rdr [123] (by decide) hm11
       obtain ⟨s11,hs11⟩ : ∃ z,stepV s9 = z:=⟨_,rfl⟩
       rw [hs11] at c11
       have u11 : Up s9 s11:=hs11 ▸ (su_step s9).up
       have q11 : mS X.toks.length s11 + 3 ≤ mS X.toks.length s9:=hs11 ▸ mS_step hl11.1 hl11.2
       have a11 : s9.1 + 1 = s11.1:=hs11 ▸ rfl
       have a11a:=Nat.le_of_eq a11
       have a11b:=Nat.le_of_eq a11.symm
       clear a11
       have E11 : Hid (takeV X.l [123] s9 = (true,s11)):=Lib.hid (by simp [takeV,hm11,hs11])
       clear hm11 hs11 hl11
       go_wp2_with fail
       refine c11.mono ?_
       rintro e w11 ⟨rfl,hb11,H11⟩
       clear c11
       have S11:=S9.call hb11 H11
       have c12:=runtil_any X n A w11 s11 false S11.rdr [125] (by decide) rfl (by omega)
       have u12:=up_until (l:=X.l) (upV X.l n) [125] s11
       rcases hs12 : untilV X.l (vs X.l n) [125] s11 with ⟨l12,s12⟩
       rw [hs12] at c12 u12
       have q12:=u12.mS (n:=X.toks.length)
       have a12:=u12.at_
       have E12:=Lib.hid hs12
       clear hs12
       go_wp2_with fail
       refine c12.mono ?_
       rintro e w12 ⟨hb12,H12,ll12,v12,rfl,hk12⟩
       obtain ⟨ao12,p12,rfl⟩:=hk12.slice
       have Tl12:=Own.newD S11 hk12
       have bd12:=H12.bnd
       clear c12
       have S12:=S11.call hb12 H12
       go_wp2_with fail
       refine (rnode_any 45 x9 _ _ _ _).mono ?_
       rintro e w13 ⟨rfl,hd13⟩
       have hb13 : But X.P w12.heap.size w12 w13:=But.of_below hd13
       have H13:=S12.rdr.below hd13 (Nat.le_refl _)
       clear hd13
       have S13:=S12.call hb13 H13
       have Tl12_13:=Tl12.mv S12 hb13
       have Tt13:=Tl12_13.tre 45 x9 0
       have HR : Hid (primV X.l (vs X.l n) false s = ((.mk 45 x9 0 l12),s12)):=Lib.hid (by simp [primV,bindV,E1.out,E4.out,E7.out,E9.out,E11.out,E12.out])
       obtain ⟨y0,y1,y2,y3,b0,b1,b2,b3,bf⟩:=S13.box.open
       have bf0:=bf 0
       have bf1:=bf 1
       have bf2:=bf 2
       have bf3:=bf 3
       clear bf
       go_wp2
       obtain ⟨Wf,hWf,hput,_,d0,d1,d2,d3⟩:=putN4 S13.box (.int .i64 45) (.string ⟨(x9 : List UInt8).toArray⟩) (.int .i64 0) (.slice ao12 l12.length p12)
       rw [hWf]
       exact bodyPost_ret (v:=.agg #[.int .i64 45,.string ⟨(x9 : List UInt8).toArray⟩,.int .i64 0,.slice ao12 l12.length p12]) (by simp [results,Tryz.results179,go_sem,d0,d1,d2,d3]) rfl (OutR.of HR (S13.done Tt13 hput))
      | false =>
       have c11:=rtake_no X w9 s9 false S9.rdr [123] hm11
       have E11 : Hid (takeV X.l [123] s9 = (false,s9)):=Lib.hid (by simp [takeV,hm11])
       clear hm11
       go_wp2_with fail
       refine c11.mono ?_
       rintro e w11 ⟨rfl,hb11,H11⟩
       clear c11
       have S11:=S9.call hb11 H11
       go_wp2_with fail
       refine (rnode_any 44 x9 _ _ _ _).mono ?_
       rintro e w14 ⟨rfl,hd14⟩
       have hb14 : But X.P w11.heap.size w11 w14:=But.of_below hd14
       have H14:=S11.rdr.below hd14 (Nat.le_refl _)
       clear hd14
       have S14:=S11.call hb14 H14
       have Tt14:=Tre.leaf w w14 44 x9 0 none 0
       have HR : Hid (primV X.l (vs X.l n) false s = ((.mk 44 x9 0 []),s9)):=Lib.hid (by simp [primV,bindV,E1.out,E4.out,E7.out,E9.out,E11.out])
       obtain ⟨y0,y1,y2,y3,b0,b1,b2,b3,bf⟩:=S14.box.open
       have bf0:=bf 0
       have bf1:=bf 1
       have bf2:=bf 2
       have bf3:=bf 3
       clear bf
       go_wp2
       obtain ⟨Wf,hWf,hput,_,d0,d1,d2,d3⟩:=putN4 S14.box (.int .i64 44) (.string ⟨(x9 : List UInt8).toArray⟩) (.int .i64 0) (.slice none 0 0)
       rw [hWf]
       exact bodyPost_ret (v:=.agg #[.int .i64 44,.string ⟨(x9 : List UInt8).toArray⟩,.int .i64 0,.slice none 0 0]) (by simp [results,Tryz.results179,go_sem,d0,d1,d2,d3]) rfl (OutR.of HR (S14.done Tt14 hput))
    | false =>
     have E7:=Lib.hid hm7
     clear hm7
     obtain ⟨kk,hkk⟩ : ∃ z,kindRd X s = z:=⟨_,rfl⟩
     have kq2 : (kk == 2) = false:=by rw [← hkk,kindRd_eq 2 (by decide) (by decide) S0.rdr.le]; exact E1.out
     have kq3 : (kk == 3) = false:=by rw [← hkk,kindRd_eq 3 (by decide) (by decide) S0.rdr.le]; exact E4.out
     have kq1 : (kk == 1) = false:=by rw [← hkk,kindRd_eq 1 (by decide) (by decide) S0.rdr.le]; exact E7.out
     have HK:=Lib.hid hkk
     clear hkk
     go_wp2_with fail
     refine (kindX_any X W0 s h S0.rdr kk HK.out).mono ?_
     rintro e w16 ⟨rfl,hd16⟩
     have hb16 : But X.P W0.heap.size W0 w16:=But.of_below hd16
     have H16:=S0.rdr.below hd16 (Nat.le_refl _)
     clear hd16
     have S16:=S0.call hb16 H16
     cases hm17 : isV X.l s [116,114,117,101] with
     | true =>
      have hx17:=now_of hm17
      have hl17:=isV_at (by decide) hm17 S16.rdr.le
      have X17:=Lib.hid hx17
      have E17:=Lib.hid hm17
      clear hm17 hx17
      go_wp2_with fail
      refine (nowX_any X w16 s h S16.rdr [116,114,117,101] X17.out).mono ?_
      rintro e w18 ⟨rfl,hd18⟩
      have hb18 : But X.P w16.heap.size w16 w18:=But.of_below hd18
      have H18:=S16.rdr.below hd18 (Nat.le_refl _)
      clear hd18
      have S18:=S16.call hb18 H18
      have cA19:=S18.rdr.c1
      have fA19:=S18.rdr.fz 1
      have bA19:=S18.rdr.bnd
      have H19:=S18.rdr.step hl17.2
      have hb19:=but_set w18 X.P w18.heap.size 1 (.int .i64 ((s.1 : Int) + 1))
      obtain ⟨s19,hs19⟩ : ∃ z,stepV s = z:=⟨_,rfl⟩
      rw [hs19] at H19
      have u19 : Up s s19:=hs19 ▸ (su_step s).up
      have q19 : mS X.toks.length s19 + 3 ≤ mS X.toks.length s:=hs19 ▸ mS_step hl17.1 hl17.2
      have a19 : s.1 + 1 = s19.1:=hs19 ▸ rfl
      have a19a:=Nat.le_of_eq a19
      have a19b:=Nat.le_of_eq a19.symm
      clear a19
      have E19:=Lib.hid hs19
      clear hs19
      have S19:=S18.call hb19 H19
      have Tt20:=Tre.leaf w (w18.setCell ⟨X.P,1,none⟩ (.int .i64 ((s.1 : Int) + 1))) 42 [] 1 none 0
      have HR : Hid (primV X.l (vs X.l n) h s = ((.mk 42 [] 1 []),s19)):=Lib.hid (by simp [primV,E1.out,E4.out,E7.out,E17.out,E19.out])
      obtain ⟨y0,y1,y2,y3,b0,b1,b2,b3,bf⟩:=S19.box.open
      have bf0:=bf 0
      have bf1:=bf 1
      have bf2:=bf 2
      have bf3:=bf 3
      clear bf
      go_wp2
      obtain ⟨Wf,hWf,hput,_,d0,d1,d2,d3⟩:=putN4 S19.box (.int .i64 42) (.string ⟨#[]⟩) (.int .i64 1) (.slice none 0 0)
      rw [hWf]
      exact bodyPost_ret (v:=.agg #[.int .i64 42,.string ⟨#[]⟩,.int .i64 1,.slice none 0 0]) (by simp [results,Tryz.results179,go_sem,d0,d1,d2,d3]) rfl (OutR.of HR (S19.done Tt20 hput))
     | false =>
      have E17:=Lib.hid hm17
      clear hm17
      cases hm21 : isV X.l s [102,97,108,115,101] with
      | true =>
       have hx21:=now_of hm21
       have hl21:=isV_at (by decide) hm21 S16.rdr.le
       have X21:=Lib.hid hx21
       have E21:=Lib.hid hm21
       clear hm21 hx21
       go_wp2_with fail
       refine (nowX_any X w16 s h S16.rdr [102,97,108,115,101] X21.out).mono ?_
       rintro e w22 ⟨rfl,hd22⟩
       have hb22 : But X.P w16.heap.size w16 w22:=But.of_below hd22
       have H22:=S16.rdr.below hd22 (Nat.le_refl _)
       clear hd22
       have S22:=S16.call hb22 H22
       have cA23:=S22.rdr.c1
       have fA23:=S22.rdr.fz 1
       have bA23:=S22.rdr.bnd
       have H23:=S22.rdr.step hl21.2
       have hb23:=but_set w22 X.P w22.heap.size 1 (.int .i64 ((s.1 : Int) + 1))
       obtain ⟨s23,hs23⟩ : ∃ z,stepV s = z:=⟨_,rfl⟩
       rw [hs23] at H23
       have u23 : Up s s23:=hs23 ▸ (su_step s).up
       have q23 : mS X.toks.length s23 + 3 ≤ mS X.toks.length s:=hs23 ▸ mS_step hl21.1 hl21.2
       have a23 : s.1 + 1 = s23.1:=hs23 ▸ rfl
       have a23a:=Nat.le_of_eq a23
       have a23b:=Nat.le_of_eq a23.symm
       clear a23
       have E23:=Lib.hid hs23
       clear hs23
       have S23:=S22.call hb23 H23
       go_wp2_with fail
       refine (rnode_any 42 [] _ _ _ _).mono ?_
       rintro e w24 ⟨rfl,hd24⟩
       have hb24 : But X.P (w22.setCell ⟨X.P,1,none⟩ (.int .i64 ((s.1 : Int) + 1))).heap.size (w22.setCell ⟨X.P,1,none⟩ (.int .i64 ((s.1 : Int) + 1))) w24:=But.of_below hd24
       have H24:=S23.rdr.below hd24 (Nat.le_refl _)
       clear hd24
       have S24:=S23.call hb24 H24
       have Tt24:=Tre.leaf w w24 42 [] 0 none 0
       have HR : Hid (primV X.l (vs X.l n) h s = ((.mk 42 [] 0 []),s23)):=Lib.hid (by simp [primV,E1.out,E4.out,E7.out,E17.out,E21.out,E23.out])
       obtain ⟨y0,y1,y2,y3,b0,b1,b2,b3,bf⟩:=S24.box.open
       have bf0:=bf 0
       have bf1:=bf 1
       have bf2:=bf 2
       have bf3:=bf 3
       clear bf
       go_wp2
       obtain ⟨Wf,hWf,hput,_,d0,d1,d2,d3⟩:=putN4 S24.box (.int .i64 42) (.string ⟨([] : List UInt8).toArray⟩) (.int .i64 0) (.slice none 0 0)
       rw [hWf]
       exact bodyPost_ret (v:=.agg #[.int .i64 42,.string ⟨([] : List UInt8).toArray⟩,.int .i64 0,.slice none 0 0]) (by simp [results,Tryz.results179,go_sem,d0,d1,d2,d3]) rfl (OutR.of HR (S24.done Tt24 hput))
      | false =>
       have E21:=Lib.hid hm21
       clear hm21
       cases hm25 : isV X.l s [110,105,108] with
       | true =>
        have hx25:=now_of hm25
        have hl25:=isV_at (by decide) hm25 S16.rdr.le
        have X25:=Lib.hid hx25
        have E25:=Lib.hid hm25
        clear hm25 hx25
        go_wp2_with fail
        refine (nowX_any X w16 s h S16.rdr [110,105,108] X25.out).mono ?_
        rintro e w26 ⟨rfl,hd26⟩
        have hb26 : But X.P w16.heap.size w16 w26:=But.of_below hd26
        have H26:=S16.rdr.below hd26 (Nat.le_refl _)
        clear hd26
        have S26:=S16.call hb26 H26
        have cA27:=S26.rdr.c1
        have fA27:=S26.rdr.fz 1
        have bA27:=S26.rdr.bnd
        have H27:=S26.rdr.step hl25.2
        have hb27:=but_set w26 X.P w26.heap.size 1 (.int .i64 ((s.1 : Int) + 1))
        obtain ⟨s27,hs27⟩ : ∃ z,stepV s = z:=⟨_,rfl⟩
        rw [hs27] at H27
        have u27 : Up s s27:=hs27 ▸ (su_step s).up
        have q27 : mS X.toks.length s27 + 3 ≤ mS X.toks.length s:=hs27 ▸ mS_step hl25.1 hl25.2
        have a27 : s.1 + 1 = s27.1:=hs27 ▸ rfl
        have a27a:=Nat.le_of_eq a27
        have a27b:=Nat.le_of_eq a27.symm
        clear a27
        have E27:=Lib.hid hs27
        clear hs27
        have S27:=S26.call hb27 H27
        go_wp2_with fail
        refine (rnode_any 43 [] _ _ _ _).mono ?_
        rintro e w28 ⟨rfl,hd28⟩
        have hb28 : But X.P (w26.setCell ⟨X.P,1,none⟩ (.int .i64 ((s.1 : Int) + 1))).heap.size (w26.setCell ⟨X.P,1,none⟩ (.int .i64 ((s.1 : Int) + 1))) w28:=But.of_below hd28
        have H28:=S27.rdr.below hd28 (Nat.le_refl _)
        clear hd28
        have S28:=S27.call hb28 H28
        have Tt28:=Tre.leaf w w28 43 [] 0 none 0
        have HR : Hid (primV X.l (vs X.l n) h s = ((.mk 43 [] 0 []),s27)):=Lib.hid (by simp [primV,E1.out,E4.out,E7.out,E17.out,E21.out,E25.out,E27.out])
        obtain ⟨y0,y1,y2,y3,b0,b1,b2,b3,bf⟩:=S28.box.open
        have bf0:=bf 0
        have bf1:=bf 1
        have bf2:=bf 2
        have bf3:=bf 3
        clear bf
        go_wp2
        obtain ⟨Wf,hWf,hput,_,d0,d1,d2,d3⟩:=putN4 S28.box (.int .i64 43) (.string ⟨([] : List UInt8).toArray⟩) (.int .i64 0) (.slice none 0 0)
        rw [hWf]
        exact bodyPost_ret (v:=.agg #[.int .i64 43,.string ⟨([] : List UInt8).toArray⟩,.int .i64 0,.slice none 0 0]) (by simp [results,Tryz.results179,go_sem,d0,d1,d2,d3]) rfl (OutR.of HR (S28.done Tt28 hput))
       | false =>
        have E25:=Lib.hid hm25
        clear hm25
        cases hm29 : isV X.l s [40] with
        | true =>
         have hx29:=now_of hm29
         have hl29:=isV_at (by decide) hm29 S16.rdr.le
         have X29:=Lib.hid hx29
         have E29:=Lib.hid hm29
         clear hm29 hx29
         go_wp2_with fail
         refine (nowX_any X w16 s h S16.rdr [40] X29.out).mono ?_
         rintro e w30 ⟨rfl,hd30⟩
         have hb30 : But X.P w16.heap.size w16 w30:=But.of_below hd30
         have H30:=S16.rdr.below hd30 (Nat.le_refl _)
         clear hd30
         have S30:=S16.call hb30 H30
         have cA31:=S30.rdr.c1
         have fA31:=S30.rdr.fz 1
         have bA31:=S30.rdr.bnd
         have H31:=S30.rdr.step hl29.2
         have hb31:=but_set w30 X.P w30.heap.size 1 (.int .i64 ((s.1 : Int) + 1))
         obtain ⟨s31,hs31⟩ : ∃ z,stepV s = z:=⟨_,rfl⟩
         rw [hs31] at H31
         have u31 : Up s s31:=hs31 ▸ (su_step s).up
         have q31 : mS X.toks.length s31 + 3 ≤ mS X.toks.length s:=hs31 ▸ mS_step hl29.1 hl29.2
         have a31 : s.1 + 1 = s31.1:=hs31 ▸ rfl
         have a31a:=Nat.le_of_eq a31
         have a31b:=Nat.le_of_eq a31.symm
         clear a31
         have E31:=Lib.hid hs31
         clear hs31
         have S31:=S30.call hb31 H31
         have cA32:=S31.rdr.c3
         have fA32:=S31.rdr.fz 3
         have H32:=S31.rdr.head false
         have hb32:=but_set (w30.setCell ⟨X.P,1,none⟩ (.int .i64 ((s.1 : Int) + 1))) X.P (w30.setCell ⟨X.P,1,none⟩ (.int .i64 ((s.1 : Int) + 1))).heap.size 3 (.bool false)
         have S32:=S31.call hb32 H32
         have c33:=rexpr_any X n A ((w30.setCell ⟨X.P,1,none⟩ (.int .i64 ((s.1 : Int) + 1))).setCell ⟨X.P,3,none⟩ (.bool false)) s31 false S32.rdr (by omega)
         have u33:=up_expr (upV X.l n) false s31
         rcases hs33 : exprV (vs X.l n) false s31 with ⟨t33,s33⟩
         rw [hs33] at c33 u33
         have q33:=u33.mS (n:=X.toks.length)
         have a33:=u33.at_
         have E33:=Lib.hid hs33
         clear hs33
         go_wp2_with fail
         refine c33.mono ?_
         rintro e w33 ⟨hb33,H33,sl33,rfl,hk33⟩
         obtain ⟨ao33,n33,p33,rfl⟩:=hk33.slice
         have Tt33:=Tre.newD S32 hk33
         clear c33 hk33
         have S33:=S32.call hb33 H33
         have Dn_34:=Held.newD S33 Tt33
         have hb35:=but_alloc w33 X.P (.cells #[.int .i64 t33.kind,.string ⟨t33.text.toArray⟩,.int .i64 t33.num,.slice ao33 n33 p33] 24)
         have H35:=S33.rdr.alloc (.cells #[.int .i64 t33.kind,.string ⟨t33.text.toArray⟩,.int .i64 t33.num,.slice ao33 n33 p33] 24)
         have S35:=S33.call hb35 H35
         have cA36:=S35.rdr.c3
         have fA36:=S35.rdr.fz 3
         have H36:=S35.rdr.head h
         have hb36:=but_set (w33.alloc (.cells #[.int .i64 t33.kind,.string ⟨t33.text.toArray⟩,.int .i64 t33.num,.slice ao33 n33 p33] 24)) X.P (w33.alloc (.cells #[.int .i64 t33.kind,.string ⟨t33.text.toArray⟩,.int .i64 t33.num,.slice ao33 n33 p33] 24)).heap.size 3 (.bool h)
         have S36:=S35.call hb36 H36
         have Dn_36:=Dn_34.mv S35 hb36
         go_wp2_with fail
         refine (rneed_any X ((w33.alloc (.cells #[.int .i64 t33.kind,.string ⟨t33.text.toArray⟩,.int .i64 t33.num,.slice ao33 n33 p33] 24)).setCell ⟨X.P,3,none⟩ (.bool h)) s33 h S36.rdr [41] (by decide)).mono ?_
         rintro e w37 ⟨rfl,hb37,H37⟩
         obtain ⟨s37,hs37⟩ : ∃ z,needV X.l [41] s33 = z:=⟨_,rfl⟩
         rw [hs37] at H37
         have u37 : Up s33 s37:=hs37 ▸ (su_need X.l [41] s33).up
         have q37:=u37.mS (n:=X.toks.length)
         have a37:=u37.at_
         have E37:=Lib.hid hs37
         clear hs37
         have S37:=S36.call hb37 H37
         have Dn_37:=Dn_36.mv S36 hb37
         obtain ⟨zv380,zv381,zv382,zv383,zv38f⟩:=Dn_37.cells
         have zv38g0:=zv38f 0
         have zv38g1:=zv38f 1
         have zv38g2:=zv38f 2
         have zv38g3:=zv38f 3
         clear zv38f
         have Tt38:=Dn_37.out
         have HR : Hid (primV X.l (vs X.l n) h s = (t33,s37)):=Lib.hid (by simp [primV,bindV,E1.out,E4.out,E7.out,E17.out,E21.out,E25.out,E29.out,E31.out,E33.out,E37.out])
         obtain ⟨y0,y1,y2,y3,b0,b1,b2,b3,bf⟩:=S37.box.open
         have bf0:=bf 0
         have bf1:=bf 1
         have bf2:=bf 2
         have bf3:=bf 3
         clear bf
         go_wp2
         obtain ⟨Wf,hWf,hput,_,d0,d1,d2,d3⟩:=putN4 S37.box (.int .i64 t33.kind) (.string ⟨t33.text.toArray⟩) (.int .i64 t33.num) (.slice ao33 n33 p33)
         rw [hWf]
         exact bodyPost_ret (v:=.agg #[.int .i64 t33.kind,.string ⟨t33.text.toArray⟩,.int .i64 t33.num,.slice ao33 n33 p33]) (by simp [results,Tryz.results179,go_sem,d0,d1,d2,d3]) rfl (OutR.of HR (S37.done Tt38 hput))
        | false =>
         have E29:=Lib.hid hm29
         clear hm29
         cases hm39 : isV X.l s [91] with
         | true =>
          have hx39:=now_of hm39
          have hl39:=isV_at (by decide) hm39 S16.rdr.le
          have X39:=Lib.hid hx39
          have E39:=Lib.hid hm39
          clear hm39 hx39
          go_wp2_with fail
          refine (nowX_any X w16 s h S16.rdr [91] X39.out).mono ?_
          rintro e w40 ⟨rfl,hd40⟩
          have hb40 : But X.P w16.heap.size w16 w40:=But.of_below hd40
          have H40:=S16.rdr.below hd40 (Nat.le_refl _)
          clear hd40
          have S40:=S16.call hb40 H40
          have cA41:=S40.rdr.c1
          have fA41:=S40.rdr.fz 1
          have bA41:=S40.rdr.bnd
          have H41:=S40.rdr.step hl39.2
          have hb41:=but_set w40 X.P w40.heap.size 1 (.int .i64 ((s.1 : Int) + 1))
          obtain ⟨s41,hs41⟩ : ∃ z,stepV s = z:=⟨_,rfl⟩
          rw [hs41] at H41
          have u41 : Up s s41:=hs41 ▸ (su_step s).up
          have q41 : mS X.toks.length s41 + 3 ≤ mS X.toks.length s:=hs41 ▸ mS_step hl39.1 hl39.2
          have a41 : s.1 + 1 = s41.1:=hs41 ▸ rfl
          have a41a:=Nat.le_of_eq a41
          have a41b:=Nat.le_of_eq a41.symm
          clear a41
          have E41:=Lib.hid hs41
          clear hs41
          have S41:=S40.call hb41 H41
          go_wp2_with fail
          refine (rneed_any X (w40.setCell ⟨X.P,1,none⟩ (.int .i64 ((s.1 : Int) + 1))) s41 h S41.rdr [93] (by decide)).mono ?_
          rintro e w42 ⟨rfl,hb42,H42⟩
          obtain ⟨s42,hs42⟩ : ∃ z,needV X.l [93] s41 = z:=⟨_,rfl⟩
          rw [hs42] at H42
          have u42 : Up s41 s42:=hs42 ▸ (su_need X.l [93] s41).up
          have q42:=u42.mS (n:=X.toks.length)
          have a42:=u42.at_
          have E42:=Lib.hid hs42
          clear hs42
          have S42:=S41.call hb42 H42
          have c43:=A.typ w42 s42 h S42.rdr (by omega)
          have u43:=(upV X.l n).typ s42
          rcases hs43 : (vs X.l n).typ s42 with ⟨t43,s43⟩
          rw [hs43] at c43 u43
          have q43:=u43.mS (n:=X.toks.length)
          have a43:=u43.at_
          have E43:=Lib.hid hs43
          clear hs43
          go_wp2_with fail
          refine c43.mono ?_
          rintro e w43 ⟨hb43,H43,sl43,rfl,hk43⟩
          obtain ⟨ao43,n43,p43,rfl⟩:=hk43.slice
          have Tt43:=Tre.newD S42 hk43
          clear c43 hk43
          have S43:=S42.call hb43 H43
          have Tl44:=Own.one1 S43 Tt43
          have hb45:=but_alloc w43 X.P (.cells #[.int .i64 t43.kind,.string ⟨t43.text.toArray⟩,.int .i64 t43.num,.slice ao43 n43 p43] 24)
          have H45:=S43.rdr.alloc (.cells #[.int .i64 t43.kind,.string ⟨t43.text.toArray⟩,.int .i64 t43.num,.slice ao43 n43 p43] 24)
          have S45:=S43.call hb45 H45
          go_wp2_with fail
          refine (rnode_any 46 [] _ _ _ _).mono ?_
          rintro e w46 ⟨rfl,hd46⟩
          have hb46 : But X.P (w43.alloc (.cells #[.int .i64 t43.kind,.string ⟨t43.text.toArray⟩,.int .i64 t43.num,.slice ao43 n43 p43] 24)).heap.size (w43.alloc (.cells #[.int .i64 t43.kind,.string ⟨t43.text.toArray⟩,.int .i64 t43.num,.slice ao43 n43 p43] 24)) w46:=But.of_below hd46
          have H46:=S45.rdr.below hd46 (Nat.le_refl _)
          clear hd46
          have S46:=S45.call hb46 H46
          have Tl44_46:=Tl44.mv S45 hb46
          have Tt46:=Tl44_46.tre 46 [] 0
          have Nn_47:=NBox.new (X:=X) (k:=46) (s:=[]) (num:=0) Tl44_46 S46.lt
          have hb48:=but_alloc w46 X.P (.cells #[.int .i64 46,.string ⟨([] : List UInt8).toArray⟩,.int .i64 0,.slice (some ⟨w43.heap.size,0,none⟩) 1 1] 24)
          have H48:=S46.rdr.alloc (.cells #[.int .i64 46,.string ⟨([] : List UInt8).toArray⟩,.int .i64 0,.slice (some ⟨w43.heap.size,0,none⟩) 1 1] 24)
          have S48:=S46.call hb48 H48
          go_wp2_with fail
          refine (rneed_any X (w46.alloc (.cells #[.int .i64 46,.string ⟨([] : List UInt8).toArray⟩,.int .i64 0,.slice (some ⟨w43.heap.size,0,none⟩) 1 1] 24)) s43 h S48.rdr [123] (by decide)).mono ?_
          rintro e w49 ⟨rfl,hb49,H49⟩
          obtain ⟨s49,hs49⟩ : ∃ z,needV X.l [123] s43 = z:=⟨_,rfl⟩
          rw [hs49] at H49
          have u49 : Up s43 s49:=hs49 ▸ (su_need X.l [123] s43).up
          have q49:=u49.mS (n:=X.toks.length)
          have a49:=u49.at_
          have E49:=Lib.hid hs49
          clear hs49
          have S49:=S48.call hb49 H49
          have Nn_49:=Nn_47.mv S48 hb49
          have cA50:=S49.rdr.c3
          have fA50:=S49.rdr.fz 3
          have H50:=S49.rdr.head false
          have hb50:=but_set w49 X.P w49.heap.size 3 (.bool false)
          have S50:=S49.call hb50 H50
          have Nn_50:=Nn_49.mv S49 hb50
          have cB:=runtil_any X n A (w49.setCell ⟨X.P,3,none⟩ (.bool false)).drew s49 false S50.drew.rdr [125] (by decide) rfl (by omega)
          have u51:=up_until (l:=X.l) (upV X.l n) [125] s49
          rcases hs51 : untilV X.l (vs X.l n) [125] s49 with ⟨l51,s51⟩
          rw [hs51] at cB u51
          have q51:=u51.mS (n:=X.toks.length)
          have a51:=u51.at_
          have E51:=Lib.hid hs51
          clear hs51
          have sb51:=S50.lt
          obtain ⟨zq510,zq511,zq512,zq513,zq51f⟩:=Nn_50.cells
          have zq51g0:=zq51f 0
          have zq51g1:=zq51f 1
          have zq51g2:=zq51f 2
          have zq51g3:=zq51f 3
          clear zq51f
          go_wp2_with fail
          clear zq510 zq511 zq512 zq513 zq51g0 zq51g1 zq51g2 zq51g3
          generalize (Value.slice (some ⟨w43.heap.size,0,none⟩) 1 1) = V51 at *
          have lo51:=OwnL.lt Nn_50.own.own
          obtain ⟨zr510,zr511,zr512,zr513,zr51f⟩:=Nn_50.cells
          have zr51g0:=zr51f 0
          have zr51g1:=zr51f 1
          have zr51g2:=zr51f 2
          have zr51g3:=zr51f 3
          clear zr51f
          have ln51 : ([t43] : List Tr).length ≤ 500000:=by simp
          go_region_law (first
            | (go_simp; go_at_call 181; refine cB.mono ?_; rintro e w51 ⟨hb51,H51,ll51,v51,rfl,hk51⟩; obtain ⟨ao51,p51,rfl⟩:=hk51.slice
               have S51a:=S50.drew.call hb51 H51
               have N51a:=Nn_50.drew.mv S50.drew hb51
               have lz51:=hb51.size
               have ld51 : ((w49.setCell ⟨X.P,3,none⟩ (.bool false))).drew.heap.size = ((w49.setCell ⟨X.P,3,none⟩ (.bool false))).heap.size:=rfl
               have bd51:=H51.bnd
               have lm51:=Nn_50.ltz
               have hO51:=OwnQ.of (Q:=fun b => b ≠ w46.heap.size) hk51 (fun b hb _ => by omega)
               have N51b:=N51a
               have S51b:=S51a
               obtain ⟨y510,y511,y512,y513,y51f⟩:=N51a.cells
               have y51g:=y51f 3
               have ym51:=N51a.ltz
               have yn51 : w46.heap.size ≠ w51.heap.size:=Nat.ne_of_lt ym51
               have yo51 : w51.heap.size ≠ w46.heap.size:=fun e => yn51 e.symm
               clear y51f)
            | (refine step_join (by rfl) _ _ (by rfl) (by rfl) (by rfl) N51b.own hO51 ?_ ?_ ?_ ?_ ?_ ?_
               · first | omega | (simp <;> omega)
               · omega
               · first | omega | (simp <;> omega)
               · exact fun q hq => (lo51 q hq).2
               · first | omega | (simp <;> omega)
               intro ao51c c51c w51c hO51c hg51c
               generalize hL51 : ([t43] : List Tr).length + (l51 : List Tr).length = L51 at *
               have S51c:=S51b.grown hg51c (fun q hq => (lo51 q hq).1)
               have B51c:=N51b.grown hg51c
               obtain ⟨x510,x511,x512,x513,x51f⟩:=cells_of_blk B51c
               have x51g:=x51f 3
               clear x51f))
          all_goals
           have S51d:=S51c.put ((Put.refl (w46.heap.size) w51c).setCell 3 (.slice ao51c L51 c51c)) Nn_50.lt
           have N51d : NBox X w (w51c.setCell ⟨w46.heap.size,3,none⟩ (.slice ao51c L51 c51c)) (w46.heap.size) 46 [] 0 (.slice ao51c L51 c51c) (([t43] ++ l51)):=NBox.setKids (X:=X) B51c Nn_50.lt hO51c
           clear x510 x511 x512 x513 x51g
           generalize w51c.setCell ⟨w46.heap.size,3,none⟩ (.slice ao51c L51 c51c) = w51d at *
           have cA52:=S51d.rdr.c3
           have fA52:=S51d.rdr.fz 3
           have H52:=S51d.rdr.head h
           have hb52:=but_set w51d X.P w51d.heap.size 3 (.bool h)
           have S52:=S51d.call hb52 H52
           have Nn_52:=N51d.mv S51d hb52
           obtain ⟨zv530,zv531,zv532,zv533,zv53f⟩:=Nn_52.cells
           have zv53g0:=zv53f 0
           have zv53g1:=zv53f 1
           have zv53g2:=zv53f 2
           have zv53g3:=zv53f 3
           clear zv53f
           have Tt53:=Nn_52.tre
           have HR : Hid (primV X.l (vs X.l n) h s = ((.mk 46 [] 0 ([t43] ++ l51)),s51)):=Lib.hid (by simp [primV,bindV,E1.out,E4.out,E7.out,E17.out,E21.out,E25.out,E29.out,E39.out,E41.out,E42.out,E43.out,E49.out,E51.out])
           obtain ⟨y0,y1,y2,y3,b0,b1,b2,b3,bf⟩:=S52.box.open
           have bf0:=bf 0
           have bf1:=bf 1
           have bf2:=bf 2
           have bf3:=bf 3
           clear bf
           go_wp2
           obtain ⟨Wf,hWf,hput,_,d0,d1,d2,d3⟩:=putN4 S52.box (.int .i64 46) (.string ⟨([] : List UInt8).toArray⟩) (.int .i64 0) (.slice ao51c L51 c51c)
           rw [hWf]
           exact bodyPost_ret (v:=.agg #[.int .i64 46,.string ⟨([] : List UInt8).toArray⟩,.int .i64 0,.slice ao51c L51 c51c]) (by simp [results,Tryz.results179,go_sem,d0,d1,d2,d3]) rfl (OutR.of HR (S52.done Tt53 hput))
         | false =>
          have E39:=Lib.hid hm39
          clear hm39
          cases hm54 : isV X.l s [102,117,110,99] with
          | true =>
           have hx54:=now_of hm54
           have hl54:=isV_at (by decide) hm54 S16.rdr.le
           have X54:=Lib.hid hx54
           have E54:=Lib.hid hm54
           clear hm54 hx54
           go_wp2_with fail
           refine (nowX_any X w16 s h S16.rdr [102,117,110,99] X54.out).mono ?_
           rintro e w55 ⟨rfl,hd55⟩
           have hb55 : But X.P w16.heap.size w16 w55:=But.of_below hd55
           have H55:=S16.rdr.below hd55 (Nat.le_refl _)
           clear hd55
           have S55:=S16.call hb55 H55
           have cA56:=S55.rdr.c1
           have fA56:=S55.rdr.fz 1
           have bA56:=S55.rdr.bnd
           have H56:=S55.rdr.step hl54.2
           have hb56:=but_set w55 X.P w55.heap.size 1 (.int .i64 ((s.1 : Int) + 1))
           obtain ⟨s56,hs56⟩ : ∃ z,stepV s = z:=⟨_,rfl⟩
           rw [hs56] at H56
           have u56 : Up s s56:=hs56 ▸ (su_step s).up
           have q56 : mS X.toks.length s56 + 3 ≤ mS X.toks.length s:=hs56 ▸ mS_step hl54.1 hl54.2
           have a56 : s.1 + 1 = s56.1:=hs56 ▸ rfl
           have a56a:=Nat.le_of_eq a56
           have a56b:=Nat.le_of_eq a56.symm
           clear a56
           have E56:=Lib.hid hs56
           clear hs56
           have S56:=S55.call hb56 H56
           have c57:=rsig_any X n A (w55.setCell ⟨X.P,1,none⟩ (.int .i64 ((s.1 : Int) + 1))) s56 h S56.rdr (by omega)
           have u57:=(su_sig (l:=X.l) (upV X.l n) s56).up
           rcases hs57 : sigV X.l (vs X.l n) s56 with ⟨t57,s57⟩
           rw [hs57] at c57 u57
           have q57:=u57.mS (n:=X.toks.length)
           have a57:=u57.at_
           have E57:=Lib.hid hs57
           clear hs57
           go_wp2_with fail
           refine c57.mono ?_
           rintro e w57 ⟨hb57,H57,sl57,rfl,hk57⟩
           obtain ⟨ao57,n57,p57,rfl⟩:=hk57.slice
           have Tt57:=Tre.newD S56 hk57
           clear c57 hk57
           have S57:=S56.call hb57 H57
           have Dc_58:=Held.newD S57 Tt57
           have hb59:=but_alloc w57 X.P (.cells #[.int .i64 t57.kind,.string ⟨t57.text.toArray⟩,.int .i64 t57.num,.slice ao57 n57 p57] 24)
           have H59:=S57.rdr.alloc (.cells #[.int .i64 t57.kind,.string ⟨t57.text.toArray⟩,.int .i64 t57.num,.slice ao57 n57 p57] 24)
           have S59:=S57.call hb59 H59
           have cB:=A.blk (w57.alloc (.cells #[.int .i64 t57.kind,.string ⟨t57.text.toArray⟩,.int .i64 t57.num,.slice ao57 n57 p57] 24)).drew s57 h S59.drew.rdr (by omega)
           have u60:=((upV X.l n).blk s57).up
           rcases hs60 : (vs X.l n).blk s57 with ⟨t60,s60⟩
           rw [hs60] at cB u60
           have q60:=u60.mS (n:=X.toks.length)
           have a60:=u60.at_
           have E60:=Lib.hid hs60
           clear hs60
           have sb60:=S59.lt
           obtain ⟨zq600,zq601,zq602,zq603,zq60f⟩:=Dc_58.cells
           have zq60g0:=zq60f 0
           have zq60g1:=zq60f 1
           have zq60g2:=zq60f 2
           have zq60g3:=zq60f 3
           clear zq60f
           go_wp2_with fail
           go_region_law (first
             | (go_simp; go_at_call 44; refine cB.mono ?_; rintro e w60 ⟨hb60,H60,sl60,rfl,hk60⟩; obtain ⟨ao60,n60,p60,rfl⟩:=hk60.slice
                have S60a:=S59.drew.call hb60 H60
                have D60a:=Dc_58.drew.mv S59.drew hb60
                have T60a:=Tre.newD S59.drew hk60
                have L60a:=Own.one2 S60a D60a.out T60a
                have S60b:=S60a.alloc (.cells #[.int .i64 t57.kind,.string ⟨t57.text.toArray⟩,.int .i64 t57.num,.slice ao57 n57 p57,.int .i64 t60.kind,.string ⟨t60.text.toArray⟩,.int .i64 t60.num,.slice ao60 n60 p60] 24)
                obtain ⟨y600,y601,y602,y603,y60f⟩:=D60a.cells
                clear y60f)
             | (go_simp; go_at_call 23; refine (rnode_any 47 [] _ _ _ _).mono ?_; rintro e w60e ⟨rfl,hd60⟩
                have S60e:=S60b.below hd60
                have L60e:=L60a.below hd60
                obtain ⟨r600,r601,r602,r603,j600,j601,j602,j603,jf60⟩:=S60e.box.open
                have jf60_0:=jf60 0
                have jf60_1:=jf60 1
                have jf60_2:=jf60 2
                have jf60_3:=jf60 3
                clear jf60))
           all_goals
            have Tt60:=L60e.tre 47 [] 0
            have HR : Hid (primV X.l (vs X.l n) h s = ((.mk 47 [] 0 [t57,t60]),s60)):=Lib.hid (by simp [primV,bindV,E1.out,E4.out,E7.out,E17.out,E21.out,E25.out,E29.out,E39.out,E54.out,E56.out,E57.out,E60.out])
            go_wp2
            obtain ⟨Wf,hWf,hput,_,d0,d1,d2,d3⟩:=putN4 S60e.box (.int .i64 47) (.string ⟨([] : List UInt8).toArray⟩) (.int .i64 0) (.slice (some ⟨w60.heap.size,0,none⟩) 2 2)
            rw [hWf]
            exact bodyPost_ret (v:=.agg #[.int .i64 47,.string ⟨([] : List UInt8).toArray⟩,.int .i64 0,.slice (some ⟨w60.heap.size,0,none⟩) 2 2]) (by simp [results,Tryz.results179,go_sem,d0,d1,d2,d3]) rfl (OutR.of HR (S60e.done Tt60 hput))
          | false =>
           have E54:=Lib.hid hm54
           clear hm54
           obtain ⟨x61,hx61⟩ : ∃ z,nowV X.l s = z:=⟨_,rfl⟩
           have n61_0:=now_no (m:=[116,114,117,101]) hx61 E17.out
           have n61_1:=now_no (m:=[102,97,108,115,101]) hx61 E21.out
           have n61_2:=now_no (m:=[110,105,108]) hx61 E25.out
           have n61_3:=now_no (m:=[40]) hx61 E29.out
           have n61_4:=now_no (m:=[91]) hx61 E39.out
           have n61_5:=now_no (m:=[102,117,110,99]) hx61 E54.out
           have X61:=Lib.hid hx61
           clear hx61
           go_wp2_with fail
           refine (nowX_any X w16 s h S16.rdr x61 X61.out).mono ?_
           rintro e w62 ⟨rfl,hd62⟩
           have hb62 : But X.P w16.heap.size w16 w62:=But.of_below hd62
           have H62:=S16.rdr.below hd62 (Nat.le_refl _)
           clear hd62
           have S62:=S16.call hb62 H62
           by_cases hxe : x61 = []
           case pos =>
            subst hxe
            have cA63:=S62.rdr.c2
            have fA63:=S62.rdr.fz 2
            have H63:=S62.rdr.bad
            have hb63:=but_set w62 X.P w62.heap.size 2 (.bool true)
            have S63:=S62.call hb63 H63
            have Tt64:=Tre.leaf w (w62.setCell ⟨X.P,2,none⟩ (.bool true)) 0 [] 0 none 0
            have HR : Hid (primV X.l (vs X.l n) h s = ((.mk 0 [] 0 []),(badV s))):=Lib.hid (by simp [primV,E1.out,E4.out,E7.out,E17.out,E21.out,E25.out,E29.out,E39.out,E54.out,zT])
            obtain ⟨y0,y1,y2,y3,b0,b1,b2,b3,bf⟩:=S63.box.open
            have bf0:=bf 0
            have bf1:=bf 1
            have bf2:=bf 2
            have bf3:=bf 3
            clear bf
            go_wp2
            obtain ⟨Wf,hWf,hput,_,d0,d1,d2,d3⟩:=putN4 S63.box (.int .i64 0) (.string ⟨#[]⟩) (.int .i64 0) (.slice none 0 0)
            rw [hWf]
            exact bodyPost_ret (v:=.agg #[.int .i64 0,.string ⟨#[]⟩,.int .i64 0,.slice none 0 0]) (by simp [results,Tryz.results179,go_sem,d0,d1,d2,d3]) rfl (OutR.of HR (S63.done Tt64 hput))
           case neg =>
            have xne : (x61 == []) = false:=by simpa using hxe
            have hxn : nowV X.l s ≠ []:=by rw [X61.out]; exact hxe
            have hl:=now_at hxn S62.rdr.le
            clear hxn
            have cA66:=S62.rdr.c1
            have fA66:=S62.rdr.fz 1
            have bA66:=S62.rdr.bnd
            have H66:=S62.rdr.step hl.2
            have hb66:=but_set w62 X.P w62.heap.size 1 (.int .i64 ((s.1 : Int) + 1))
            obtain ⟨s66,hs66⟩ : ∃ z,stepV s = z:=⟨_,rfl⟩
            rw [hs66] at H66
            have u66 : Up s s66:=hs66 ▸ (su_step s).up
            have q66 : mS X.toks.length s66 + 3 ≤ mS X.toks.length s:=hs66 ▸ mS_step hl.1 hl.2
            have a66 : s.1 + 1 = s66.1:=hs66 ▸ rfl
            have a66a:=Nat.le_of_eq a66
            have a66b:=Nat.le_of_eq a66.symm
            clear a66
            have E66:=Lib.hid hs66
            clear hs66
            have S66:=S62.call hb66 H66
            have cB:=S66.rdr.c1
            have fB:=S66.rdr.fz 1
            have cB2 : (w62.setCell ⟨X.P,1,none⟩ (.int .i64 ((s.1 : Int) + 1))).cell? ⟨X.P,1,none⟩ = some (.int .i64 ((s.1 : Int) + 1)):=by rw [cB]; congr 2; omega
            clear cB
            have H67 : Rdr X ((w62.setCell ⟨X.P,1,none⟩ (.int .i64 ((s.1 : Int) + 1))).setCell ⟨X.P,1,none⟩ (.int .i64 (s.1 : Int))) s h:=S66.rdr.back (by omega) hl.1 (E66.out ▸ hl.1)
            have hb67:=but_set (w62.setCell ⟨X.P,1,none⟩ (.int .i64 ((s.1 : Int) + 1))) X.P (w62.setCell ⟨X.P,1,none⟩ (.int .i64 ((s.1 : Int) + 1))).heap.size 1 (.int .i64 (s.1 : Int))
            have S67:=S66.call hb67 H67
            have cA68:=S67.rdr.c2
            have fA68:=S67.rdr.fz 2
            have H68:=S67.rdr.bad
            have hb68:=but_set ((w62.setCell ⟨X.P,1,none⟩ (.int .i64 ((s.1 : Int) + 1))).setCell ⟨X.P,1,none⟩ (.int .i64 (s.1 : Int))) X.P ((w62.setCell ⟨X.P,1,none⟩ (.int .i64 ((s.1 : Int) + 1))).setCell ⟨X.P,1,none⟩ (.int .i64 (s.1 : Int))).heap.size 2 (.bool true)
            have S68:=S67.call hb68 H68
            have Tt69:=Tre.leaf w (((w62.setCell ⟨X.P,1,none⟩ (.int .i64 ((s.1 : Int) + 1))).setCell ⟨X.P,1,none⟩ (.int .i64 (s.1 : Int))).setCell ⟨X.P,2,none⟩ (.bool true)) 0 [] 0 none 0
            have HR : Hid (primV X.l (vs X.l n) h s = ((.mk 0 [] 0 []),(badV s))):=Lib.hid (by simp [primV,E1.out,E4.out,E7.out,E17.out,E21.out,E25.out,E29.out,E39.out,E54.out,zT])
            obtain ⟨y0,y1,y2,y3,b0,b1,b2,b3,bf⟩:=S68.box.open
            have bf0:=bf 0
            have bf1:=bf 1
            have bf2:=bf 2
            have bf3:=bf 3
            clear bf
            go_wp2
            obtain ⟨Wf,hWf,hput,_,d0,d1,d2,d3⟩:=putN4 S68.box (.int .i64 0) (.string ⟨#[]⟩) (.int .i64 0) (.slice none 0 0)
            rw [hWf]
            exact bodyPost_ret (v:=.agg #[.int .i64 0,.string ⟨#[]⟩,.int .i64 0,.slice none 0 0]) (by simp [results,Tryz.results179,go_sem,d0,d1,d2,d3]) rfl (OutR.of HR (S68.done Tt69 hput))
end Go.Proofs.YtnkphlkjhgngkaaGreatDoor
