/- The document's reader: unary. -/
import Derived.Test.YtnkphlkjhgngkaaGreatDoorRdJJt
import Derived.Test.YtnkphlkjhgngkaaGreatDoorRdNJt
import Derived.Test.YtnkphlkjhgngkaaGreatDoorRdOJt
import Derived.Test.YtnkphlkjhgngkaaGreatDoorParUJt
import Derived.Test.YtnkphlkjhgngkaaGreatDoorLevAJt
namespace Go.Proofs.YtnkphlkjhgngkaaGreatDoor
open Go.RowKit
attribute [local go_sem ↓] Go.wp_at_zero Go.wp_at_succ
theorem prefix_no {x : List UInt8} (h0 : (x == [45]) = false) (h1 : (x == [33]) = false) (h2 : (x == [38]) = false) (h3 : (x == [42]) = false) : prefixL x = false:=by
 unfold prefixL
 simp [h0,h1,h2,h3]
theorem postV_bad {l : List Tk} {p : Vs} {f : Nat} {t : Tr} {k : Sg} (hf : 0 < f) (hb : k.2 = true) : postV l p f t k = (t,k):=by
 match f,hf with
 | f + 1,_ => simp [postV,hb]
theorem postV_stop {l : List Tk} {p : Vs} {f : Nat} {t : Tr} {k : Sg} (hf : 0 < f) (hb : k.2 = false) (h1 : isV l k [46] = false) (h2 : isV l k [91] = false) (h3 : isV l k [40] = false) : postV l p f t k = (t,k):=by
 match f,hf with
 | f + 1,_ => simp [postV,hb,h1,h2,h3]
theorem postV_sel {l : List Tk} {p : Vs} {f : Nat} {t : Tr} {k : Sg} (hf : 0 < f) (hb : k.2 = false) (h1 : isV l k [46] = true) : postV l p f t k = bindV (nameV l (stepV k)) fun x s => postV l p (f - 1) (.mk 48 x 0 [t]) s:=by
 match f,hf with
 | f + 1,_ => simp [postV,hb,h1]
theorem postV_part {l : List Tk} {p : Vs} {f : Nat} {t : Tr} {k : Sg} (hf : 0 < f) (hb : k.2 = false) (h1 : isV l k [46] = false) (h2 : isV l k [91] = true) : postV l p f t k = bindV (indexV l p t (stepV k)) fun n s => postV l p (f - 1) n s:=by
 match f,hf with
 | f + 1,_ => simp [postV,hb,h1,h2]
theorem postV_call {l : List Tk} {p : Vs} {f : Nat} {t : Tr} {k : Sg} (hf : 0 < f) (hb : k.2 = false) (h1 : isV l k [46] = false) (h2 : isV l k [91] = false) (h3 : isV l k [40] = true) : postV l p f t k = bindV (untilV l p [41] (stepV k)) fun ks s => postV l p (f - 1) (.mk 51 [] 0 (t :: ks)) s:=by
 match f,hf with
 | f + 1,_ => simp [postV,hb,h1,h2,h3]
section
variable {X : Px} {w W W' : World} {m : Nat} {s : Sg} {h : Bool} {v : Value} {ts : List Tr} {k num : Int} {x : List UInt8}
theorem Sd.putD (S : Sd X w W s h) (hm : w.heap.size < m) {v0 v1 v2 v3 : Value} : Sd X w ((((W.setCell ⟨m,0,none⟩ v0).setCell ⟨m,1,none⟩ v1).setCell ⟨m,2,none⟩ v2).setCell ⟨m,3,none⟩ v3) s h :=
  S.put (((((Put.refl m W).setCell 0 v0).setCell 1 v1).setCell 2 v2).setCell 3 v3) hm
theorem OwnG.mvD (T : OwnG (fun b => w.heap.size + 1 ≤ b ∧ b ≠ m) W (w.heap.size + 1) v ts) (S : Sd X w W s h) (hb : But X.P W.heap.size W W') : OwnG (fun b => w.heap.size + 1 ≤ b ∧ b ≠ m) W' (w.heap.size + 1) v ts :=
  T.later hb.size (fun b h1 h2 => hb.block b h2 (by have:=S.plt; omega))
theorem OwnG.toQ (T : OwnG (fun b => w.heap.size + 1 ≤ b ∧ b ≠ m) W (w.heap.size + 1) v ts) : OwnQ (fun b => b ≠ m) W (w.heap.size + 1) v ts:=by
 obtain ⟨sls,h1,h2,h3⟩:=T
 exact ⟨sls,h1,h2.fr (Fr.refl _ _) (fun b hb => ⟨⟨⟨hb.1.1.1,hb.1.2⟩,hb.2⟩,hb.1.1.2⟩),fun k hk => (h3 k hk).2⟩
theorem NBox.held {ao : Option Addr} {nn c : Nat} (T : NBox X w W m k x num (.slice ao nn c) ts) : Held X w W m (.mk k x num ts) ao nn c:=by
 refine ⟨T.blk,T.lt,?_⟩
 have hl:=OwnL.lt T.own.own
 obtain ⟨sls,h1,h2,h3⟩:=T.own
 have G : OwnG (fun b => w.heap.size + 1 ≤ b ∧ b ≠ m) W (w.heap.size + 1) (.slice ao nn c) ts:=⟨sls,h1,h2.fr (Fr.refl _ _) (fun b hb => ⟨⟨⟨hb.1.1.1,hb.2⟩,hb.1.1.2⟩,hb.1.2⟩),fun q hq => ⟨(hl q hq).1,h3 q hq⟩⟩
 exact G.boxKT k x num
end
set_option maxRecDepth 20000 in
set_option maxHeartbeats 8000000 in
theorem runary_any (X : Px) (n : Nat) (A : GoodR X n) (w : World) (s : Sg) (h : Bool) (H : Rdr X w s h) (hn : mS X.toks.length s + 1 ≤ n + 1) :
    Calls Tryz.prog 176 #[X.p] w (OutR X w h (unaV X.l (vs X.l n) h s)):=by
  obtain ⟨W0,hW0,S0⟩:=Sd.first H
  go_enter Tryz.func176,Tryz.ntmps176
  cases hm1 : isV X.l s [45] with
  | true =>
   have hx1:=now_of hm1
   have hl1:=isV_at (by decide) hm1 S0.rdr.le
   have X1:=Lib.hid hx1
   have E1:=Lib.hid hm1
   clear hm1 hx1
   go_wp2_with fail
   refine (nowX_any X W0 s h S0.rdr [45] X1.out).mono ?_
   rintro e w2 ⟨rfl,hd2⟩
   have hb2 : But X.P W0.heap.size W0 w2:=But.of_below hd2
   have H2:=S0.rdr.below hd2 (Nat.le_refl _)
   clear hd2
   have S2:=S0.call hb2 H2
   have EST1 : Hid (nowV X.l s = [45]):=Lib.hid (now_of E1.out)
   have EST2 : Hid (prefixL [45] = true):=Lib.hid (by decide)
   have cA3:=S2.rdr.c1
   have fA3:=S2.rdr.fz 1
   have bA3:=S2.rdr.bnd
   have H3:=S2.rdr.step hl1.2
   have hb3:=but_set w2 X.P w2.heap.size 1 (.int .i64 ((s.1 : Int) + 1))
   obtain ⟨s3,hs3⟩ : ∃ z,stepV s = z:=⟨_,rfl⟩
   rw [hs3] at H3
   have u3 : Up s s3:=hs3 ▸ (su_step s).up
   have q3 : mS X.toks.length s3 + 3 ≤ mS X.toks.length s:=hs3 ▸ mS_step hl1.1 hl1.2
   have a3 : s.1 + 1 = s3.1:=hs3 ▸ rfl
   have a3a:=Nat.le_of_eq a3
   have a3b:=Nat.le_of_eq a3.symm
   clear a3
   have E3:=Lib.hid hs3
   clear hs3
   have S3:=S2.call hb3 H3
   have c4:=A.una (w2.setCell ⟨X.P,1,none⟩ (.int .i64 ((s.1 : Int) + 1))) s3 h S3.rdr (by omega)
   have u4:=(upV X.l n).una h s3
   rcases hs4 : (vs X.l n).una h s3 with ⟨t4,s4⟩
   rw [hs4] at c4 u4
   replace u4 : Up s3 s4:=u4
   have q4:=u4.mS (n:=X.toks.length)
   have a4:=u4.at_
   have E4:=Lib.hid hs4
   clear hs4
   go_wp2_with fail
   refine c4.mono ?_
   rintro e w4 ⟨hb4,H4,sl4,rfl,hk4⟩
   obtain ⟨ao4,n4,p4,rfl⟩:=hk4.slice
   have Tt4:=Tre.newD S3 hk4
   clear c4 hk4
   have S4:=S3.call hb4 H4
   have Tl5:=Own.one1 S4 Tt4
   have hb6:=but_alloc w4 X.P (.cells #[.int .i64 t4.kind,.string ⟨t4.text.toArray⟩,.int .i64 t4.num,.slice ao4 n4 p4] 24)
   have H6:=S4.rdr.alloc (.cells #[.int .i64 t4.kind,.string ⟨t4.text.toArray⟩,.int .i64 t4.num,.slice ao4 n4 p4] 24)
   have S6:=S4.call hb6 H6
   go_wp2_with fail
   refine (rnode_any 52 [45] _ _ _ _).mono ?_
   rintro e w7 ⟨rfl,hd7⟩
   have hb7 : But X.P (w4.alloc (.cells #[.int .i64 t4.kind,.string ⟨t4.text.toArray⟩,.int .i64 t4.num,.slice ao4 n4 p4] 24)).heap.size (w4.alloc (.cells #[.int .i64 t4.kind,.string ⟨t4.text.toArray⟩,.int .i64 t4.num,.slice ao4 n4 p4] 24)) w7:=But.of_below hd7
   have H7:=S6.rdr.below hd7 (Nat.le_refl _)
   clear hd7
   have S7:=S6.call hb7 H7
   have Tl5_7:=Tl5.mv S6 hb7
   have Tt7:=Tl5_7.tre 52 [45] 0
   have HR : Hid (unaV X.l (vs X.l n) h s = ((.mk 52 [45] 0 [t4]),s4)):=Lib.hid (by simp [unaV,bindV,EST1.out,EST2.out,E3.out,E4.out])
   obtain ⟨y0,y1,y2,y3,b0,b1,b2,b3,bf⟩:=S7.box.open
   have bf0:=bf 0
   have bf1:=bf 1
   have bf2:=bf 2
   have bf3:=bf 3
   clear bf
   go_wp2
   obtain ⟨Wf,hWf,hput,_,d0,d1,d2,d3⟩:=putN4 S7.box (.int .i64 52) (.string ⟨([45] : List UInt8).toArray⟩) (.int .i64 0) (.slice (some ⟨w4.heap.size,0,none⟩) 1 1)
   rw [hWf]
   exact bodyPost_ret (v:=.agg #[.int .i64 52,.string ⟨([45] : List UInt8).toArray⟩,.int .i64 0,.slice (some ⟨w4.heap.size,0,none⟩) 1 1]) (by simp [results,Tryz.results176,go_sem,d0,d1,d2,d3]) rfl (OutR.of HR (S7.done Tt7 hput))
  | false =>
   have E1:=Lib.hid hm1
   clear hm1
   cases hm8 : isV X.l s [33] with
   | true =>
    have hx8:=now_of hm8
    have hl8:=isV_at (by decide) hm8 S0.rdr.le
    have X8:=Lib.hid hx8
    have E8:=Lib.hid hm8
    clear hm8 hx8
    go_wp2_with fail
    refine (nowX_any X W0 s h S0.rdr [33] X8.out).mono ?_
    rintro e w9 ⟨rfl,hd9⟩
    have hb9 : But X.P W0.heap.size W0 w9:=But.of_below hd9
    have H9:=S0.rdr.below hd9 (Nat.le_refl _)
    clear hd9
    have S9:=S0.call hb9 H9
    have EST1 : Hid (nowV X.l s = [33]):=Lib.hid (now_of E8.out)
    have EST2 : Hid (prefixL [33] = true):=Lib.hid (by decide)
    have cA10:=S9.rdr.c1
    have fA10:=S9.rdr.fz 1
    have bA10:=S9.rdr.bnd
    have H10:=S9.rdr.step hl8.2
    have hb10:=but_set w9 X.P w9.heap.size 1 (.int .i64 ((s.1 : Int) + 1))
    obtain ⟨s10,hs10⟩ : ∃ z,stepV s = z:=⟨_,rfl⟩
    rw [hs10] at H10
    have u10 : Up s s10:=hs10 ▸ (su_step s).up
    have q10 : mS X.toks.length s10 + 3 ≤ mS X.toks.length s:=hs10 ▸ mS_step hl8.1 hl8.2
    have a10 : s.1 + 1 = s10.1:=hs10 ▸ rfl
    have a10a:=Nat.le_of_eq a10
    have a10b:=Nat.le_of_eq a10.symm
    clear a10
    have E10:=Lib.hid hs10
    clear hs10
    have S10:=S9.call hb10 H10
    have c11:=A.una (w9.setCell ⟨X.P,1,none⟩ (.int .i64 ((s.1 : Int) + 1))) s10 h S10.rdr (by omega)
    have u11:=(upV X.l n).una h s10
    rcases hs11 : (vs X.l n).una h s10 with ⟨t11,s11⟩
    rw [hs11] at c11 u11
    replace u11 : Up s10 s11:=u11
    have q11:=u11.mS (n:=X.toks.length)
    have a11:=u11.at_
    have E11:=Lib.hid hs11
    clear hs11
    go_wp2_with fail
    refine c11.mono ?_
    rintro e w11 ⟨hb11,H11,sl11,rfl,hk11⟩
    obtain ⟨ao11,n11,p11,rfl⟩:=hk11.slice
    have Tt11:=Tre.newD S10 hk11
    clear c11 hk11
    have S11:=S10.call hb11 H11
    have Tl12:=Own.one1 S11 Tt11
    have hb13:=but_alloc w11 X.P (.cells #[.int .i64 t11.kind,.string ⟨t11.text.toArray⟩,.int .i64 t11.num,.slice ao11 n11 p11] 24)
    have H13:=S11.rdr.alloc (.cells #[.int .i64 t11.kind,.string ⟨t11.text.toArray⟩,.int .i64 t11.num,.slice ao11 n11 p11] 24)
    have S13:=S11.call hb13 H13
    go_wp2_with fail
    refine (rnode_any 52 [33] _ _ _ _).mono ?_
    rintro e w14 ⟨rfl,hd14⟩
    have hb14 : But X.P (w11.alloc (.cells #[.int .i64 t11.kind,.string ⟨t11.text.toArray⟩,.int .i64 t11.num,.slice ao11 n11 p11] 24)).heap.size (w11.alloc (.cells #[.int .i64 t11.kind,.string ⟨t11.text.toArray⟩,.int .i64 t11.num,.slice ao11 n11 p11] 24)) w14:=But.of_below hd14
    have H14:=S13.rdr.below hd14 (Nat.le_refl _)
    clear hd14
    have S14:=S13.call hb14 H14
    have Tl12_14:=Tl12.mv S13 hb14
    have Tt14:=Tl12_14.tre 52 [33] 0
    have HR : Hid (unaV X.l (vs X.l n) h s = ((.mk 52 [33] 0 [t11]),s11)):=Lib.hid (by simp [unaV,bindV,EST1.out,EST2.out,E10.out,E11.out])
    obtain ⟨y0,y1,y2,y3,b0,b1,b2,b3,bf⟩:=S14.box.open
    have bf0:=bf 0
    have bf1:=bf 1
    have bf2:=bf 2
    have bf3:=bf 3
    clear bf
    go_wp2
    obtain ⟨Wf,hWf,hput,_,d0,d1,d2,d3⟩:=putN4 S14.box (.int .i64 52) (.string ⟨([33] : List UInt8).toArray⟩) (.int .i64 0) (.slice (some ⟨w11.heap.size,0,none⟩) 1 1)
    rw [hWf]
    exact bodyPost_ret (v:=.agg #[.int .i64 52,.string ⟨([33] : List UInt8).toArray⟩,.int .i64 0,.slice (some ⟨w11.heap.size,0,none⟩) 1 1]) (by simp [results,Tryz.results176,go_sem,d0,d1,d2,d3]) rfl (OutR.of HR (S14.done Tt14 hput))
   | false =>
    have E8:=Lib.hid hm8
    clear hm8
    cases hm15 : isV X.l s [38] with
    | true =>
     have hx15:=now_of hm15
     have hl15:=isV_at (by decide) hm15 S0.rdr.le
     have X15:=Lib.hid hx15
     have E15:=Lib.hid hm15
     clear hm15 hx15
     go_wp2_with fail
     refine (nowX_any X W0 s h S0.rdr [38] X15.out).mono ?_
     rintro e w16 ⟨rfl,hd16⟩
     have hb16 : But X.P W0.heap.size W0 w16:=But.of_below hd16
     have H16:=S0.rdr.below hd16 (Nat.le_refl _)
     clear hd16
     have S16:=S0.call hb16 H16
     have EST1 : Hid (nowV X.l s = [38]):=Lib.hid (now_of E15.out)
     have EST2 : Hid (prefixL [38] = true):=Lib.hid (by decide)
     have cA17:=S16.rdr.c1
     have fA17:=S16.rdr.fz 1
     have bA17:=S16.rdr.bnd
     have H17:=S16.rdr.step hl15.2
     have hb17:=but_set w16 X.P w16.heap.size 1 (.int .i64 ((s.1 : Int) + 1))
     obtain ⟨s17,hs17⟩ : ∃ z,stepV s = z:=⟨_,rfl⟩
     rw [hs17] at H17
     have u17 : Up s s17:=hs17 ▸ (su_step s).up
     have q17 : mS X.toks.length s17 + 3 ≤ mS X.toks.length s:=hs17 ▸ mS_step hl15.1 hl15.2
     have a17 : s.1 + 1 = s17.1:=hs17 ▸ rfl
     have a17a:=Nat.le_of_eq a17
     have a17b:=Nat.le_of_eq a17.symm
     clear a17
     have E17:=Lib.hid hs17
     clear hs17
     have S17:=S16.call hb17 H17
     have c18:=A.una (w16.setCell ⟨X.P,1,none⟩ (.int .i64 ((s.1 : Int) + 1))) s17 h S17.rdr (by omega)
     have u18:=(upV X.l n).una h s17
     rcases hs18 : (vs X.l n).una h s17 with ⟨t18,s18⟩
     rw [hs18] at c18 u18
     replace u18 : Up s17 s18:=u18
     have q18:=u18.mS (n:=X.toks.length)
     have a18:=u18.at_
     have E18:=Lib.hid hs18
     clear hs18
     go_wp2_with fail
     refine c18.mono ?_
     rintro e w18 ⟨hb18,H18,sl18,rfl,hk18⟩
     obtain ⟨ao18,n18,p18,rfl⟩:=hk18.slice
     have Tt18:=Tre.newD S17 hk18
     clear c18 hk18
     have S18:=S17.call hb18 H18
     have Tl19:=Own.one1 S18 Tt18
     have hb20:=but_alloc w18 X.P (.cells #[.int .i64 t18.kind,.string ⟨t18.text.toArray⟩,.int .i64 t18.num,.slice ao18 n18 p18] 24)
     have H20:=S18.rdr.alloc (.cells #[.int .i64 t18.kind,.string ⟨t18.text.toArray⟩,.int .i64 t18.num,.slice ao18 n18 p18] 24)
     have S20:=S18.call hb20 H20
     go_wp2_with fail
     refine (rnode_any 52 [38] _ _ _ _).mono ?_
     rintro e w21 ⟨rfl,hd21⟩
     have hb21 : But X.P (w18.alloc (.cells #[.int .i64 t18.kind,.string ⟨t18.text.toArray⟩,.int .i64 t18.num,.slice ao18 n18 p18] 24)).heap.size (w18.alloc (.cells #[.int .i64 t18.kind,.string ⟨t18.text.toArray⟩,.int .i64 t18.num,.slice ao18 n18 p18] 24)) w21:=But.of_below hd21
     have H21:=S20.rdr.below hd21 (Nat.le_refl _)
     clear hd21
     have S21:=S20.call hb21 H21
     have Tl19_21:=Tl19.mv S20 hb21
     have Tt21:=Tl19_21.tre 52 [38] 0
     have HR : Hid (unaV X.l (vs X.l n) h s = ((.mk 52 [38] 0 [t18]),s18)):=Lib.hid (by simp [unaV,bindV,EST1.out,EST2.out,E17.out,E18.out])
     obtain ⟨y0,y1,y2,y3,b0,b1,b2,b3,bf⟩:=S21.box.open
     have bf0:=bf 0
     have bf1:=bf 1
     have bf2:=bf 2
     have bf3:=bf 3
     clear bf
     go_wp2
     obtain ⟨Wf,hWf,hput,_,d0,d1,d2,d3⟩:=putN4 S21.box (.int .i64 52) (.string ⟨([38] : List UInt8).toArray⟩) (.int .i64 0) (.slice (some ⟨w18.heap.size,0,none⟩) 1 1)
     rw [hWf]
     exact bodyPost_ret (v:=.agg #[.int .i64 52,.string ⟨([38] : List UInt8).toArray⟩,.int .i64 0,.slice (some ⟨w18.heap.size,0,none⟩) 1 1]) (by simp [results,Tryz.results176,go_sem,d0,d1,d2,d3]) rfl (OutR.of HR (S21.done Tt21 hput))
    | false =>
     have E15:=Lib.hid hm15
     clear hm15
     cases hm22 : isV X.l s [42] with
     | true =>
      have hx22:=now_of hm22
      have hl22:=isV_at (by decide) hm22 S0.rdr.le
      have X22:=Lib.hid hx22
      have E22:=Lib.hid hm22
      clear hm22 hx22
      go_wp2_with fail
      refine (nowX_any X W0 s h S0.rdr [42] X22.out).mono ?_
      rintro e w23 ⟨rfl,hd23⟩
      have hb23 : But X.P W0.heap.size W0 w23:=But.of_below hd23
      have H23:=S0.rdr.below hd23 (Nat.le_refl _)
      clear hd23
      have S23:=S0.call hb23 H23
      have EST1 : Hid (nowV X.l s = [42]):=Lib.hid (now_of E22.out)
      have EST2 : Hid (prefixL [42] = true):=Lib.hid (by decide)
      have cA24:=S23.rdr.c1
      have fA24:=S23.rdr.fz 1
      have bA24:=S23.rdr.bnd
      have H24:=S23.rdr.step hl22.2
      have hb24:=but_set w23 X.P w23.heap.size 1 (.int .i64 ((s.1 : Int) + 1))
      obtain ⟨s24,hs24⟩ : ∃ z,stepV s = z:=⟨_,rfl⟩
      rw [hs24] at H24
      have u24 : Up s s24:=hs24 ▸ (su_step s).up
      have q24 : mS X.toks.length s24 + 3 ≤ mS X.toks.length s:=hs24 ▸ mS_step hl22.1 hl22.2
      have a24 : s.1 + 1 = s24.1:=hs24 ▸ rfl
      have a24a:=Nat.le_of_eq a24
      have a24b:=Nat.le_of_eq a24.symm
      clear a24
      have E24:=Lib.hid hs24
      clear hs24
      have S24:=S23.call hb24 H24
      have c25:=A.una (w23.setCell ⟨X.P,1,none⟩ (.int .i64 ((s.1 : Int) + 1))) s24 h S24.rdr (by omega)
      have u25:=(upV X.l n).una h s24
      rcases hs25 : (vs X.l n).una h s24 with ⟨t25,s25⟩
      rw [hs25] at c25 u25
      replace u25 : Up s24 s25:=u25
      have q25:=u25.mS (n:=X.toks.length)
      have a25:=u25.at_
      have E25:=Lib.hid hs25
      clear hs25
      go_wp2_with fail
      refine c25.mono ?_
      rintro e w25 ⟨hb25,H25,sl25,rfl,hk25⟩
      obtain ⟨ao25,n25,p25,rfl⟩:=hk25.slice
      have Tt25:=Tre.newD S24 hk25
      clear c25 hk25
      have S25:=S24.call hb25 H25
      have Tl26:=Own.one1 S25 Tt25
      have hb27:=but_alloc w25 X.P (.cells #[.int .i64 t25.kind,.string ⟨t25.text.toArray⟩,.int .i64 t25.num,.slice ao25 n25 p25] 24)
      have H27:=S25.rdr.alloc (.cells #[.int .i64 t25.kind,.string ⟨t25.text.toArray⟩,.int .i64 t25.num,.slice ao25 n25 p25] 24)
      have S27:=S25.call hb27 H27
      go_wp2_with fail
      refine (rnode_any 52 [42] _ _ _ _).mono ?_
      rintro e w28 ⟨rfl,hd28⟩
      have hb28 : But X.P (w25.alloc (.cells #[.int .i64 t25.kind,.string ⟨t25.text.toArray⟩,.int .i64 t25.num,.slice ao25 n25 p25] 24)).heap.size (w25.alloc (.cells #[.int .i64 t25.kind,.string ⟨t25.text.toArray⟩,.int .i64 t25.num,.slice ao25 n25 p25] 24)) w28:=But.of_below hd28
      have H28:=S27.rdr.below hd28 (Nat.le_refl _)
      clear hd28
      have S28:=S27.call hb28 H28
      have Tl26_28:=Tl26.mv S27 hb28
      have Tt28:=Tl26_28.tre 52 [42] 0
      have HR : Hid (unaV X.l (vs X.l n) h s = ((.mk 52 [42] 0 [t25]),s25)):=Lib.hid (by simp [unaV,bindV,EST1.out,EST2.out,E24.out,E25.out])
      obtain ⟨y0,y1,y2,y3,b0,b1,b2,b3,bf⟩:=S28.box.open
      have bf0:=bf 0
      have bf1:=bf 1
      have bf2:=bf 2
      have bf3:=bf 3
      clear bf
      go_wp2
      obtain ⟨Wf,hWf,hput,_,d0,d1,d2,d3⟩:=putN4 S28.box (.int .i64 52) (.string ⟨([42] : List UInt8).toArray⟩) (.int .i64 0) (.slice (some ⟨w25.heap.size,0,none⟩) 1 1)
      rw [hWf]
      exact bodyPost_ret (v:=.agg #[.int .i64 52,.string ⟨([42] : List UInt8).toArray⟩,.int .i64 0,.slice (some ⟨w25.heap.size,0,none⟩) 1 1]) (by simp [results,Tryz.results176,go_sem,d0,d1,d2,d3]) rfl (OutR.of HR (S28.done Tt28 hput))
     | false =>
      have E22:=Lib.hid hm22
      clear hm22
      obtain ⟨x29,hx29⟩ : ∃ z,nowV X.l s = z:=⟨_,rfl⟩
      have n29_0:=now_no (m:=[45]) hx29 E1.out
      have n29_1:=now_no (m:=[33]) hx29 E8.out
      have n29_2:=now_no (m:=[38]) hx29 E15.out
      have n29_3:=now_no (m:=[42]) hx29 E22.out
      have X29:=Lib.hid hx29
      clear hx29
      go_wp2_with fail
      refine (nowX_any X W0 s h S0.rdr x29 X29.out).mono ?_
      rintro e w30 ⟨rfl,hd30⟩
      have hb30 : But X.P W0.heap.size W0 w30:=But.of_below hd30
      have H30:=S0.rdr.below hd30 (Nat.le_refl _)
      clear hd30
      have S30:=S0.call hb30 H30
      have EPx : Hid (prefixL (nowV X.l s) = false):=Lib.hid (by rw [X29.out]; exact prefix_no n29_0 n29_1 n29_2 n29_3)
      have c31:=rprimary_any X n A w30 s h S30.rdr (by omega)
      have u31:=up_prim (l:=X.l) (upV X.l n) h s
      rcases hs31 : primV X.l (vs X.l n) h s with ⟨t31,s31⟩
      rw [hs31] at c31 u31
      replace u31 : Up s s31:=u31
      have q31:=u31.mS (n:=X.toks.length)
      have a31:=u31.at_
      have E31:=Lib.hid hs31
      clear hs31
      go_wp2_with fail
      refine c31.mono ?_
      rintro e w31 ⟨hb31,H31,sl31,rfl,hk31⟩
      obtain ⟨ao31,n31,p31,rfl⟩:=hk31.slice
      have Tt31:=Tre.newD S30 hk31
      clear c31 hk31
      have S31:=S30.call hb31 H31
      have HS : Hid (unaV X.l (vs X.l n) h s = postV X.l (vs X.l n) (X.l.length + 1) t31 s31):=Lib.hid (by simp [unaV,bindV,EPx.out,E31.out])
      have Dn_32:=Held.newD S31 Tt31
      have hb33:=but_alloc w31 X.P (.cells #[.int .i64 t31.kind,.string ⟨t31.text.toArray⟩,.int .i64 t31.num,.slice ao31 n31 p31] 24)
      have H33:=S31.rdr.alloc (.cells #[.int .i64 t31.kind,.string ⟨t31.text.toArray⟩,.int .i64 t31.num,.slice ao31 n31 p31] 24)
      have S33:=S31.call hb33 H33
      go_wp2_with fail
      generalize hmm : w31.heap.size = m at *
      clear hmm
      go_loopw [5] (fun _ wr => ∃ (k : Sg) (fu : Nat) (t : Tr) (ao : Option Addr) (nn c : Nat),Sd X w wr k h ∧ Held X w wr m t ao nn c ∧ Up s k ∧ Hid (X.l.length - k.1 < fu ∧ unaV X.l (vs X.l n) h s = postV X.l (vs X.l n) fu t k)) (fun _ wr => X.l.length - posR X wr)
      case atStart => exact ⟨s31,X.l.length + 1,t31,ao31,n31,p31,S33,Dn_32,u31,by omega,HS.out⟩
      case round =>
       obtain ⟨k,fu,t,ao,nn,c,Sk,Tk,hUk,HF⟩:=hrel
       have qk:=hUk.mS (n:=X.toks.length)
       clear HS S33 Dn_32
       have hf0 : Hid (0 < fu):=Lib.hid (by have:=HF.out.1; omega)
       have hPm : X.P ≠ m:=by have:=Sk.plt; have:=Tk.lt; omega
       have hmP : m ≠ X.P:=fun e => hPm e.symm
       cases hbd : k.2 with
       | true =>
        have c2:=Sk.rdr.c2
        rw [hbd] at c2
        have HB:=Lib.hid hbd
        clear hbd
        obtain ⟨zv340,zv341,zv342,zv343,zv34f⟩:=Tk.cells
        have zv34g0:=zv34f 0
        have zv34g1:=zv34f 1
        have zv34g2:=zv34f 2
        have zv34g3:=zv34f 3
        clear zv34f
        have Tt34:=Tk.out
        have HR : Hid (unaV X.l (vs X.l n) h s = (t,k)):=Lib.hid (HF.out.2.trans (postV_bad hf0.out HB.out))
        obtain ⟨y0,y1,y2,y3,b0,b1,b2,b3,bf⟩:=Sk.box.open
        have bf0:=bf 0
        have bf1:=bf 1
        have bf2:=bf 2
        have bf3:=bf 3
        clear bf
        go_wp2
        obtain ⟨Wf,hWf,hput,_,d0,d1,d2,d3⟩:=putN4 Sk.box (.int .i64 t.kind) (.string ⟨t.text.toArray⟩) (.int .i64 t.num) (.slice ao nn c)
        rw [hWf]
        exact bodyPost_ret (v:=.agg #[.int .i64 t.kind,.string ⟨t.text.toArray⟩,.int .i64 t.num,.slice ao nn c]) (by simp [results,Tryz.results176,go_sem,d0,d1,d2,d3]) rfl (OutR.of HR (Sk.done Tt34 hput))
       | false =>
        have c2:=Sk.rdr.c2
        rw [hbd] at c2
        have HB:=Lib.hid hbd
        clear hbd
        have c3k:=Sk.rdr.c3
        cases hm : isV X.l k [46] with
        | true =>
         have hl35:=isV_at (by decide) hm Sk.rdr.le
         have c35:=rtake_yes X wr k h Sk.rdr [46] (by decide) hm
         have HM:=Lib.hid hm
         clear hm
         obtain ⟨s35,hs35⟩ : ∃ z,stepV k = z:=⟨_,rfl⟩
         rw [hs35] at c35
         have u35 : Up k s35:=hs35 ▸ (su_step k).up
         have q35 : mS X.toks.length s35 + 3 ≤ mS X.toks.length k:=hs35 ▸ mS_step hl35.1 hl35.2
         have a35 : k.1 + 1 = s35.1:=hs35 ▸ rfl
         have a35a:=Nat.le_of_eq a35
         have a35b:=Nat.le_of_eq a35.symm
         clear a35
         have E35:=Lib.hid hs35
         clear hs35 hl35
         go_wp2_with fail
         refine c35.mono ?_
         rintro e w35 ⟨rfl,hb35,H35⟩
         clear c35
         have S35:=Sk.call hb35 H35
         have Dn_35:=Tk.mv Sk hb35
         have HE:=Lib.hid (HF.out.2.trans (postV_sel hf0.out HB.out HM.out))
         have cN:=rname_any X w35.drew s35 h S35.drew.rdr
         have S2a:=S35.alloc (.cells #[.int .i64 t.kind,.string ⟨t.text.toArray⟩,.int .i64 t.num,.slice ao nn c] 24)
         have T2a:=Dn_35.alloc (.cells #[.int .i64 t.kind,.string ⟨t.text.toArray⟩,.int .i64 t.num,.slice ao nn c] 24)
         have O2:=Dn_35.listed
         have cM:=rname_any X (w35.alloc (.cells #[.int .i64 t.kind,.string ⟨t.text.toArray⟩,.int .i64 t.num,.slice ao nn c] 24)).drew s35 h S2a.drew.rdr
         have uN:=(su_name X.l s35).up
         rcases hsN : nameV X.l s35 with ⟨x,j⟩
         rw [hsN] at cN cM uN
         have EN:=Lib.hid hsN
         clear hsN
         have aN:=uN.at_
         obtain ⟨q0,q1,q2,q3,_⟩:=Dn_35.cells
         go_wp2_with fail
         have bz2:=Dn_35.ltz
         have bn2 : m ≠ w35.heap.size:=Nat.ne_of_lt bz2
         have bo2 : w35.heap.size ≠ m:=fun e => bn2 e.symm
         go_region_with (first
           | (go_at_call 40; refine cN.mono ?_; rintro e w5 ⟨rfl,hb5,H5⟩
              have S5:=S35.drew.call hb5 H5
              have T5:=Dn_35.drew.mv S35.drew hb5
              have bz5:=T5.ltz
              have bn5 : m ≠ w5.heap.size:=Nat.ne_of_lt bz5
              have bo5 : w5.heap.size ≠ m:=fun e => bn5 e.symm
              obtain ⟨x0,x1,x2,x3,_⟩:=T5.cells)
           | (go_at_call 40; refine cM.mono ?_; rintro e w5 ⟨rfl,hb5,H5⟩
              have S5:=S2a.drew.call hb5 H5
              have T5:=T2a.drew.mv S2a.drew hb5
              have O5:=O2.drew.mvD S2a.drew hb5
              have bz5:=T5.ltz
              have bn5 : m ≠ w5.heap.size:=Nat.ne_of_lt bz5
              have bo5 : w5.heap.size ≠ m:=fun e => bn5 e.symm
              obtain ⟨x0,x1,x2,x3,_⟩:=T5.cells)
           | (go_at_call 23; refine (rnode_any _ _ _ _ _ _).mono ?_; rintro e w6 ⟨rfl,hb6⟩
              have S6:=(S5.alloc _).below hb6
              have T6:=(T5.alloc _).below hb6
              have O6:=T5.listed.below hb6
              obtain ⟨r0,r1,r2,r3,rf⟩:=T6.cells
              have rf0:=rf 0
              have rf1:=rf 1
              have rf2:=rf 2
              have rf3:=rf 3
              clear rf)
           | (go_at_call 23; refine (rnode_any _ _ _ _ _ _).mono ?_; rintro e w6 ⟨rfl,hb6⟩
              have S6:=S5.below hb6
              have T6:=T5.below hb6
              have O6:=O5.below hb6
              obtain ⟨r0,r1,r2,r3,rf⟩:=T6.cells
              have rf0:=rf 0
              have rf1:=rf 1
              have rf2:=rf 2
              have rf3:=rf 3
              clear rf))
         all_goals
          have hXl:=X.length
          have hjl:=H5.le
          have HX : Hid (X.l.length - j.1 < fu - 1 ∧ unaV X.l (vs X.l n) h s = postV X.l (vs X.l n) (fu - 1) (.mk 48 x 0 [t]) j):=⟨by have:=HF.out.1; omega,HE.out.trans (by rw [E35.out,EN.out]; rfl)⟩
          clear hXl
          have c3z:=S6.rdr.c3
          have f3z:=S6.rdr.fz 3
          go_wp2
          go_roundw
          case rel => exact ⟨j,fu - 1,_,_,_,_,(S6.putD T6.lt).call (but_set _ X.P _ 3 (.bool h)) ((S6.putD T6.lt).rdr.head h),(Held.put (X:=X) T6.box T6.lt (O6.boxKT 48 x 0) rfl rfl rfl rfl).mv (S6.putD T6.lt) (but_set _ X.P _ 3 (.bool h)),hUk.trans (u35.trans uN),HX⟩
          case measure => rw [((S6.putD T6.lt).rdr.head h).pos,Sk.rdr.pos,X.length]; omega
        | false =>
         have c36:=rtake_no X wr k h Sk.rdr [46] hm
         have HM1:=Lib.hid hm
         clear hm
         go_wp2_with fail
         refine c36.mono ?_
         rintro e w36 ⟨rfl,hb36,H36⟩
         clear c36
         have S36:=Sk.call hb36 H36
         have Dn_36:=Tk.mv Sk hb36
         cases hm2 : isV X.l k [91] with
         | true =>
          have hl37:=isV_at (by decide) hm2 S36.rdr.le
          have c37:=rtake_yes X w36 k h S36.rdr [91] (by decide) hm2
          have HM:=Lib.hid hm2
          clear hm2
          obtain ⟨s37,hs37⟩ : ∃ z,stepV k = z:=⟨_,rfl⟩
          rw [hs37] at c37
          have u37 : Up k s37:=hs37 ▸ (su_step k).up
          have q37 : mS X.toks.length s37 + 3 ≤ mS X.toks.length k:=hs37 ▸ mS_step hl37.1 hl37.2
          have a37 : k.1 + 1 = s37.1:=hs37 ▸ rfl
          have a37a:=Nat.le_of_eq a37
          have a37b:=Nat.le_of_eq a37.symm
          clear a37
          have E37:=Lib.hid hs37
          clear hs37 hl37
          go_wp2_with fail
          refine c37.mono ?_
          rintro e w37 ⟨rfl,hb37,H37⟩
          clear c37
          have S37:=S36.call hb37 H37
          have Dn_37:=Dn_36.mv S36 hb37
          have HE:=Lib.hid (HF.out.2.trans (postV_part hf0.out HB.out HM1.out HM.out))
          have cA38:=S37.rdr.c3
          have fA38:=S37.rdr.fz 3
          have H38:=S37.rdr.head false
          have hb38:=but_set w37 X.P w37.heap.size 3 (.bool false)
          have S38:=S37.call hb38 H38
          have Dn_38:=Dn_37.mv S37 hb38
          obtain ⟨q0,q1,q2,q3,_⟩:=Dn_38.cells
          have mz:=Dn_38.ltz
          have zl:=S38.lt
          have zp:=S38.plt
          have hZ : ∀ b,((w.heap.size + 1 ≤ b ∧ b < (w37.setCell ⟨X.P,3,none⟩ (.bool false)).heap.size) ∧ b ≠ m) → b < (w37.setCell ⟨X.P,3,none⟩ (.bool false)).heap.size ∧ b ≠ X.P:=fun b hb => ⟨hb.1.2,by omega⟩
          have cI:=rindex_any X n A (fun b => (w.heap.size + 1 ≤ b ∧ b < (w37.setCell ⟨X.P,3,none⟩ (.bool false)).heap.size) ∧ b ≠ m) (w37.setCell ⟨X.P,3,none⟩ (.bool false)) s37 t ao nn c S38.rdr hZ Dn_38.tre (by omega)
          have uI:=up_index (l:=X.l) (upV X.l n) t s37
          rcases hsI : indexV X.l (vs X.l n) t s37 with ⟨u,j⟩
          rw [hsI] at cI uI
          have EN:=Lib.hid hsI
          clear hsI
          have aN:=uI.at_
          go_wp2_with fail
          refine cI.mono ?_
          rintro e w5 ⟨hb5,H5,sl5,rfl,hk5⟩
          obtain ⟨ao5,n5,c5,rfl⟩:=hk5.slice
          have z5:=hb5.size
          have S5:=S38.call hb5 H5
          have T5:=Dn_38.mv S38 hb5
          obtain ⟨r0,r1,r2,r3,rf⟩:=T5.cells
          have rf0:=rf 0
          have rf1:=rf 1
          have rf2:=rf 2
          have rf3:=rf 3
          clear rf cI
          have hXl:=X.length
          have hjl:=H5.le
          have HX : Hid (X.l.length - j.1 < fu - 1 ∧ unaV X.l (vs X.l n) h s = postV X.l (vs X.l n) (fu - 1) u j):=⟨by have:=HF.out.1; omega,HE.out.trans (by rw [E37.out,EN.out]; rfl)⟩
          clear hXl
          have c3z:=S5.rdr.c3
          have f3z:=S5.rdr.fz 3
          go_wp2
          go_roundw
          case rel => exact ⟨j,fu - 1,_,_,_,_,(S5.putD T5.lt).call (but_set _ X.P _ 3 (.bool h)) ((S5.putD T5.lt).rdr.head h),(Held.put (X:=X) T5.box T5.lt (hk5.fr (S':=fun b => (w.heap.size + 1 ≤ b ∧ b < w5.heap.size) ∧ b ≠ m) (Fr.refl _ _) (fun b hb => by rcases hb with hb | hb; exact ⟨⟨hb.1.1,by omega⟩,hb.2⟩; exact ⟨⟨by omega,hb.2⟩,by omega⟩)) rfl rfl rfl rfl).mv (S5.putD T5.lt) (but_set _ X.P _ 3 (.bool h)),hUk.trans (u37.trans uI),HX⟩
          case measure => rw [((S5.putD T5.lt).rdr.head h).pos,Sk.rdr.pos,X.length]; omega
         | false =>
          have c39:=rtake_no X w36 k h S36.rdr [91] hm2
          have HM2:=Lib.hid hm2
          clear hm2
          go_wp2_with fail
          refine c39.mono ?_
          rintro e w39 ⟨rfl,hb39,H39⟩
          clear c39
          have S39:=S36.call hb39 H39
          have Dn_39:=Dn_36.mv S36 hb39
          cases hm3 : isV X.l k [40] with
          | true =>
           have hl40:=isV_at (by decide) hm3 S39.rdr.le
           have c40:=rtake_yes X w39 k h S39.rdr [40] (by decide) hm3
           have HM:=Lib.hid hm3
           clear hm3
           obtain ⟨s40,hs40⟩ : ∃ z,stepV k = z:=⟨_,rfl⟩
           rw [hs40] at c40
           have u40 : Up k s40:=hs40 ▸ (su_step k).up
           have q40 : mS X.toks.length s40 + 3 ≤ mS X.toks.length k:=hs40 ▸ mS_step hl40.1 hl40.2
           have a40 : k.1 + 1 = s40.1:=hs40 ▸ rfl
           have a40a:=Nat.le_of_eq a40
           have a40b:=Nat.le_of_eq a40.symm
           clear a40
           have E40:=Lib.hid hs40
           clear hs40 hl40
           go_wp2_with fail
           refine c40.mono ?_
           rintro e w40 ⟨rfl,hb40,H40⟩
           clear c40
           have S40:=S39.call hb40 H40
           have Dn_40:=Dn_39.mv S39 hb40
           have HE:=Lib.hid (HF.out.2.trans (postV_call hf0.out HB.out HM1.out HM2.out HM.out))
           have cA41:=S40.rdr.c3
           have fA41:=S40.rdr.fz 3
           have H41:=S40.rdr.head false
           have hb41:=but_set w40 X.P w40.heap.size 3 (.bool false)
           have S41:=S40.call hb41 H41
           have Dn_41:=Dn_40.mv S40 hb41
           obtain ⟨q0,q1,q2,q3,_⟩:=Dn_41.cells
           have O2:=Dn_41.listed
           rw [World.size_setCell] at O2
           have S2a:=S41.alloc (.cells #[.int .i64 t.kind,.string ⟨t.text.toArray⟩,.int .i64 t.num,.slice ao nn c] 24)
           have T2a:=Dn_41.alloc (.cells #[.int .i64 t.kind,.string ⟨t.text.toArray⟩,.int .i64 t.num,.slice ao nn c] 24)
           go_wp2_with fail
           refine (rnode_any 51 [] _ _ _ _).mono ?_
           rintro e w6 ⟨rfl,hb6⟩
           have S6:=S2a.below hb6
           have T6:=T2a.below hb6
           have O6:=O2.below hb6
           obtain ⟨r0,r1,r2,r3,rf⟩:=T6.cells
           have rf0:=rf 0
           have rf1:=rf 1
           have rf2:=rf 2
           have rf3:=rf 3
           clear rf
           have N7:=NBox.put4 (X:=X) (k:=51) (x:=[]) (num:=0) T6.box T6.lt O6.toQ rfl rfl rfl rfl
           have S7:=S6.putD T6.lt (v0:=.int .i64 51) (v1:=.string ⟨([] : List UInt8).toArray⟩) (v2:=.int .i64 0) (v3:=.slice (some ⟨w40.heap.size,0,none⟩) 1 1)
           clear q0 q1 q2 q3
           go_wp2_with fail
           clear r0 r1 r2 r3 rf0 rf1 rf2 rf3
           generalize ((((w6.setCell ⟨m,0,none⟩ (.int .i64 51)).setCell ⟨m,1,none⟩ (.string ⟨([] : List UInt8).toArray⟩)).setCell ⟨m,2,none⟩ (.int .i64 0)).setCell ⟨m,3,none⟩ (.slice (some ⟨w40.heap.size,0,none⟩) 1 1)) = w7 at *
           have cB:=runtil_any X n A w7.drew s40 false S7.drew.rdr [41] (by decide) rfl (by omega)
           have u42:=up_until (l:=X.l) (upV X.l n) [41] s40
           rcases hs42 : untilV X.l (vs X.l n) [41] s40 with ⟨l42,s42⟩
           rw [hs42] at cB u42
           replace u42 : Up s40 s42:=u42
           have q42:=u42.mS (n:=X.toks.length)
           have a42:=u42.at_
           have E42:=Lib.hid hs42
           clear hs42
           have sb42:=S7.lt
           generalize (Value.slice (some ⟨w40.heap.size,0,none⟩) 1 1) = V42 at *
           have lo42:=OwnL.lt N7.own.own
           obtain ⟨zr420,zr421,zr422,zr423,zr42f⟩:=N7.cells
           have zr42g0:=zr42f 0
           have zr42g1:=zr42f 1
           have zr42g2:=zr42f 2
           have zr42g3:=zr42f 3
           clear zr42f
           have ln42 : ([t] : List Tr).length ≤ 500000:=by simp
           go_region_law (first
             | (go_simp; go_at_call 181; refine cB.mono ?_; rintro e w42 ⟨hb42,H42,ll42,v42,rfl,hk42⟩; obtain ⟨ao42,p42,rfl⟩:=hk42.slice
                have S42a:=S7.drew.call hb42 H42
                have N42a:=N7.drew.mv S7.drew hb42
                have lz42:=hb42.size
                have ld42 : (w7).drew.heap.size = (w7).heap.size:=rfl
                have bd42:=H42.bnd
                have lm42:=N7.ltz
                have hO42:=OwnQ.of (Q:=fun b => b ≠ m) hk42 (fun b hb _ => by omega)
                have N42b:=N42a
                have S42b:=S42a
                obtain ⟨y420,y421,y422,y423,y42f⟩:=N42a.cells
                have y42g:=y42f 3
                have ym42:=N42a.ltz
                have yn42 : m ≠ w42.heap.size:=Nat.ne_of_lt ym42
                have yo42 : w42.heap.size ≠ m:=fun e => yn42 e.symm
                clear y42f)
             | (refine step_join (by rfl) _ _ (by rfl) (by rfl) (by rfl) N42b.own hO42 ?_ ?_ ?_ ?_ ?_ ?_
                · first | omega | (simp <;> omega)
                · omega
                · first | omega | (simp <;> omega)
                · exact fun q hq => (lo42 q hq).2
                · first | omega | (simp <;> omega)
                intro ao42c c42c w42c hO42c hg42c
                generalize hL42 : ([t] : List Tr).length + (l42 : List Tr).length = L42 at *
                have S42c:=S42b.grown hg42c (fun q hq => (lo42 q hq).1)
                have B42c:=N42b.grown hg42c
                obtain ⟨x420,x421,x422,x423,x42f⟩:=cells_of_blk B42c
                have x42g:=x42f 3
                clear x42f))
           all_goals
            have S42d:=S42c.put ((Put.refl (m) w42c).setCell 3 (.slice ao42c L42 c42c)) N7.lt
            have N42d : NBox X w (w42c.setCell ⟨m,3,none⟩ (.slice ao42c L42 c42c)) (m) 51 [] 0 (.slice ao42c L42 c42c) (([t] ++ l42)):=NBox.setKids (X:=X) B42c N7.lt hO42c
            clear x420 x421 x422 x423 x42g
            generalize w42c.setCell ⟨m,3,none⟩ (.slice ao42c L42 c42c) = w42d at *
            have T8:=NBox.held N42d
            have hXl:=X.length
            have hjl:=S42d.rdr.le
            have HX : Hid (X.l.length - s42.1 < fu - 1 ∧ unaV X.l (vs X.l n) h s = postV X.l (vs X.l n) (fu - 1) (.mk 51 [] 0 ([t] ++ l42)) s42):=⟨by have:=HF.out.1; omega,HE.out.trans (by rw [E40.out,E42.out]; rfl)⟩
            clear hXl
            have cA43:=S42d.rdr.c3
            have fA43:=S42d.rdr.fz 3
            have H43:=S42d.rdr.head h
            have hb43:=but_set w42d X.P w42d.heap.size 3 (.bool h)
            have S43:=S42d.call hb43 H43
            have Dn_43:=T8.mv S42d hb43
            go_wp2
            go_roundw
            case rel => exact ⟨s42,fu - 1,_,_,_,_,S43,Dn_43,hUk.trans (u40.trans u42),HX⟩
            case measure => rw [S43.rdr.pos,Sk.rdr.pos,X.length]; omega
          | false =>
           have c44:=rtake_no X w39 k h S39.rdr [40] hm3
           have HM3:=Lib.hid hm3
           clear hm3
           go_wp2_with fail
           refine c44.mono ?_
           rintro e w44 ⟨rfl,hb44,H44⟩
           clear c44
           have S44:=S39.call hb44 H44
           have Dn_44:=Dn_39.mv S39 hb44
           obtain ⟨zv450,zv451,zv452,zv453,zv45f⟩:=Dn_44.cells
           have zv45g0:=zv45f 0
           have zv45g1:=zv45f 1
           have zv45g2:=zv45f 2
           have zv45g3:=zv45f 3
           clear zv45f
           have Tt45:=Dn_44.out
           have HR : Hid (unaV X.l (vs X.l n) h s = (t,k)):=Lib.hid (HF.out.2.trans (postV_stop hf0.out HB.out HM1.out HM2.out HM3.out))
           obtain ⟨y0,y1,y2,y3,b0,b1,b2,b3,bf⟩:=S44.box.open
           have bf0:=bf 0
           have bf1:=bf 1
           have bf2:=bf 2
           have bf3:=bf 3
           clear bf
           go_wp2
           obtain ⟨Wf,hWf,hput,_,d0,d1,d2,d3⟩:=putN4 S44.box (.int .i64 t.kind) (.string ⟨t.text.toArray⟩) (.int .i64 t.num) (.slice ao nn c)
           rw [hWf]
           exact bodyPost_ret (v:=.agg #[.int .i64 t.kind,.string ⟨t.text.toArray⟩,.int .i64 t.num,.slice ao nn c]) (by simp [results,Tryz.results176,go_sem,d0,d1,d2,d3]) rfl (OutR.of HR (S44.done Tt45 hput))
end Go.Proofs.YtnkphlkjhgngkaaGreatDoor

namespace Go.Proofs.YtnkphlkjhgngkaaGreatDoor
open Go.RowKit
theorem goodR (X : Px) : ∀ n,GoodR X n ∧ StmR X n
  | 0 => ⟨⟨fun _ _ _ _ h => absurd h (by omega),fun _ _ _ _ _ _ _ h => absurd h (by omega),fun _ _ _ _ h => absurd h (by omega),fun _ _ _ _ h => absurd h (by omega)⟩,fun _ _ _ h => absurd h (by omega)⟩
  | n + 1 => by
   obtain ⟨A,B⟩:=goodR X n
   have A1 : GoodR X (n + 1):=⟨fun w s h H hn => rtyp_any X n A w s h H hn,fun w s h least H h1 h6 hn => rclimb_any X n A w s h least H h1 h6 hn,fun w s h H hn => runary_any X n A w s h H hn,fun w s h H hn => rblock_any X n w s h H B hn⟩
   exact ⟨A1,fun w s H hn => rstmt_any X n A1 A B w s H hn⟩
end Go.Proofs.YtnkphlkjhgngkaaGreatDoor
