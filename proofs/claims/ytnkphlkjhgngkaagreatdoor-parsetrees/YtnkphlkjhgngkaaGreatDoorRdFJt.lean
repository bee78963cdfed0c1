/- The document's reader: sig. -/
import Derived.Test.YtnkphlkjhgngkaaGreatDoorRdEJt
namespace Go.Proofs.YtnkphlkjhgngkaaGreatDoor
open Go.RowKit
attribute [local go_sem ↓] Go.wp_at_zero Go.wp_at_succ
def moreN : Value → Nat
  | .bool true => 1
  | _ => 0
/-- The loop of a signature: with more to come, or not. -/
def sigL (l : List Tk) (p : Vs) (more : Bool) (fu : Nat) (acc : List Tr) (s : Sg) : List Tr × Sg :=
  if more then (if s.2 then (acc,s) else bindV (parV l p s) fun t s => commaV l (parV l p) fu (acc ++ [t]) s) else (acc,s)
theorem sigL_stop (l : List Tk) (p : Vs) (fu : Nat) (acc : List Tr) (s : Sg) : sigL l p false fu acc s = (acc,s):=rfl
theorem sigL_bad (l : List Tk) (p : Vs) (fu : Nat) (acc : List Tr) {s : Sg} (h : s.2 = true) : sigL l p true fu acc s = (acc,s):=by simp [sigL,h]
theorem sigL_more {l : List Tk} {p : Vs} {fu : Nat} {acc : List Tr} {s j : Sg} {t : Tr} (hf : 0 < fu) (h : s.2 = false) (hp : parV l p s = (t,j)) (hm : isV l j [44] = true) (hj : j.2 = false) :
    sigL l p true fu acc s = sigL l p true (fu - 1) (acc ++ [t]) (stepV j):=by
  match fu,hf with
  | f + 1,_ => simp [sigL,h,hp,bindV,commaV,takeV,hm,stepV,hj]
theorem sigL_last {l : List Tk} {p : Vs} {fu : Nat} {acc : List Tr} {s j : Sg} {t : Tr} (hf : 0 < fu) (h : s.2 = false) (hp : parV l p s = (t,j)) (hm : isV l j [44] = false) :
    sigL l p true fu acc s = sigL l p false fu (acc ++ [t]) j:=by
  match fu,hf with
  | f + 1,_ => simp [sigL,h,hp,bindV,commaV,takeV,hm]
set_option maxRecDepth 20000 in
set_option maxHeartbeats 4000000 in
theorem rsig_any (X : Px) (n : Nat) (A : GoodR X n) (w : World) (s : Sg) (h : Bool) (H : Rdr X w s h) (hn : mS X.toks.length s + 1 ≤ n) :
    Calls Tryz.prog 42 #[X.p] w (OutR X w h (sigV X.l (vs X.l n) s)):=by
  obtain ⟨W0,hW0,S0⟩:=Sd.first H
  go_enter Tryz.func42,Tryz.ntmps42
  go_wp2_with fail
  refine (rnode_any 7 [] _ _ _ _).mono ?_
  rintro e w1 ⟨rfl,hd1⟩
  have hb1 : But X.P W0.heap.size W0 w1:=But.of_below hd1
  have H1:=S0.rdr.below hd1 (Nat.le_refl _)
  clear hd1
  have S1:=S0.call hb1 H1
  have Tt1:=Tre.leaf w w1 7 [] 0 none 0
  have Nn_2:=NBox.new (X:=X) (k:=7) (s:=[]) (num:=0) (OwnL.nil w1 _) S1.lt
  have hb3:=but_alloc w1 X.P (.cells #[.int .i64 7,.string ⟨([] : List UInt8).toArray⟩,.int .i64 0,.slice none 0 0] 24)
  have H3:=S1.rdr.alloc (.cells #[.int .i64 7,.string ⟨([] : List UInt8).toArray⟩,.int .i64 0,.slice none 0 0] 24)
  have S3:=S1.call hb3 H3
  go_wp2_with fail
  refine (rneed_any X (w1.alloc (.cells #[.int .i64 7,.string ⟨([] : List UInt8).toArray⟩,.int .i64 0,.slice none 0 0] 24)) s h S3.rdr [40] (by decide)).mono ?_
  rintro e w4 ⟨rfl,hb4,H4⟩
  obtain ⟨s4,hs4⟩ : ∃ z,needV X.l [40] s = z:=⟨_,rfl⟩
  rw [hs4] at H4
  have u4 : Up s s4:=hs4 ▸ (su_need X.l [40] s).up
  have q4:=u4.mS (n:=X.toks.length)
  have a4:=u4.at_
  have E4:=Lib.hid hs4
  clear hs4
  have S4:=S3.call hb4 H4
  have Nn_4:=Nn_2.mv S3 hb4
  cases hm5 : isV X.l s4 [41] with
  | true =>
   have hl5:=isV_at (by decide) hm5 S4.rdr.le
   have c5:=rtake_yes X w4 s4 h S4.rdr [41] (by decide) hm5
   obtain ⟨s5,hs5⟩ : ∃ z,stepV s4 = z:=⟨_,rfl⟩
   rw [hs5] at c5
   have u5 : Up s4 s5:=hs5 ▸ (su_step s4).up
   have q5 : mS X.toks.length s5 + 3 ≤ mS X.toks.length s4:=hs5 ▸ mS_step hl5.1 hl5.2
   have a5 : s4.1 + 1 = s5.1:=hs5 ▸ rfl
   have a5a:=Nat.le_of_eq a5
   have a5b:=Nat.le_of_eq a5.symm
   clear a5
   have E5 : Hid (takeV X.l [41] s4 = (true,s5)):=Lib.hid (by simp [takeV,hm5,hs5])
   clear hm5 hs5 hl5
   go_wp2_with fail
   refine c5.mono ?_
   rintro e w5 ⟨rfl,hb5,H5⟩
   clear c5
   have S5:=S4.call hb5 H5
   have Nn_5:=Nn_4.mv S4 hb5
   obtain ⟨zu60,zu61,zu62,zu63,zu6f⟩:=Nn_5.cells
   have zu6g0:=zu6f 0
   have zu6g1:=zu6f 1
   have zu6g2:=zu6f 2
   have zu6g3:=zu6f 3
   clear zu6f
   have hpx7:=(Put.refl (w1.heap.size) w5).setCell 2 (.int .i64 0)
   have S7:=S5.put hpx7 Nn_5.lt
   have Nn_7:=Nn_5.setNum 0
   have cB:=rresults_any X n A (w5.setCell ⟨w1.heap.size,2,none⟩ (.int .i64 0)).drew s5 h S7.drew.rdr (by omega)
   have u8:=up_results (l:=X.l) (upV X.l n) s5
   rcases hs8 : resultsV X.l (vs X.l n) s5 with ⟨l8,s8⟩
   rw [hs8] at cB u8
   have q8:=u8.mS (n:=X.toks.length)
   have a8:=u8.at_
   have E8:=Lib.hid hs8
   clear hs8
   have sb8:=S7.lt
   obtain ⟨zq80,zq81,zq82,zq83,zq8f⟩:=Nn_7.cells
   have zq8g0:=zq8f 0
   have zq8g1:=zq8f 1
   have zq8g2:=zq8f 2
   have zq8g3:=zq8f 3
   clear zq8f
   go_wp2_with fail
   clear zq80 zq81 zq82 zq83 zq8g0 zq8g1 zq8g2 zq8g3
   generalize (Value.slice none 0 0) = V8 at *
   have lo8:=OwnL.lt Nn_7.own.own
   obtain ⟨zr80,zr81,zr82,zr83,zr8f⟩:=Nn_7.cells
   have zr8g0:=zr8f 0
   have zr8g1:=zr8f 1
   have zr8g2:=zr8f 2
   have zr8g3:=zr8f 3
   clear zr8f
   have ln8 : ([] : List Tr).length ≤ 500000:=by simp
   go_region_law (first
     | (go_simp; go_at_call 75; refine cB.mono ?_; rintro e w8 ⟨hb8,H8,ll8,v8,rfl,hk8⟩; obtain ⟨ao8,p8,rfl⟩:=hk8.slice
        have S8a:=S7.drew.call hb8 H8
        have N8a:=Nn_7.drew.mv S7.drew hb8
        have lz8:=hb8.size
        have ld8 : ((w5.setCell ⟨w1.heap.size,2,none⟩ (.int .i64 0))).drew.heap.size = ((w5.setCell ⟨w1.heap.size,2,none⟩ (.int .i64 0))).heap.size:=rfl
        have bd8:=H8.bnd
        have lm8:=Nn_7.ltz
        have hO8:=OwnQ.of (Q:=fun b => b ≠ w1.heap.size) hk8 (fun b hb _ => by omega)
        have N8b:=N8a
        have S8b:=S8a
        obtain ⟨y80,y81,y82,y83,y8f⟩:=N8a.cells
        have y8g:=y8f 3
        have ym8:=N8a.ltz
        have yn8 : w1.heap.size ≠ w8.heap.size:=Nat.ne_of_lt ym8
        have yo8 : w8.heap.size ≠ w1.heap.size:=fun e => yn8 e.symm
        clear y8f)
     | (refine step_join (by rfl) _ _ (by rfl) (by rfl) (by rfl) N8b.own hO8 ?_ ?_ ?_ ?_ ?_ ?_
        · first | omega | (simp; omega)
        · omega
        · first | omega | (simp; omega)
        · exact fun q hq => (lo8 q hq).2
        · first | omega | (simp; omega)
        intro ao8c c8c w8c hO8c hg8c
        generalize hL8 : ([] : List Tr).length + (l8 : List Tr).length = L8 at *
        have S8c:=S8b.grown hg8c (fun q hq => (lo8 q hq).1)
        have B8c:=N8b.grown hg8c
        obtain ⟨x80,x81,x82,x83,x8f⟩:=cells_of_blk B8c
        have x8g:=x8f 3
        clear x8f))
   all_goals
    have S8d:=S8c.put ((Put.refl (w1.heap.size) w8c).setCell 3 (.slice ao8c L8 c8c)) Nn_7.lt
    have N8d : NBox X w (w8c.setCell ⟨w1.heap.size,3,none⟩ (.slice ao8c L8 c8c)) (w1.heap.size) 7 [] 0 (.slice ao8c L8 c8c) (l8):=NBox.setKids (X:=X) B8c Nn_7.lt hO8c
    clear x80 x81 x82 x83 x8g
    generalize w8c.setCell ⟨w1.heap.size,3,none⟩ (.slice ao8c L8 c8c) = w8d at *
    obtain ⟨zv90,zv91,zv92,zv93,zv9f⟩:=N8d.cells
    have zv9g0:=zv9f 0
    have zv9g1:=zv9f 1
    have zv9g2:=zv9f 2
    have zv9g3:=zv9f 3
    clear zv9f
    have Tt9:=N8d.tre
    have HR : Hid (sigV X.l (vs X.l n) s = ((.mk 7 [] 0 l8),s8)):=Lib.hid (by simp [sigV,bindV,E4.out,E5.out,E8.out])
    obtain ⟨y0,y1,y2,y3,b0,b1,b2,b3,bf⟩:=S8d.box.open
    have bf0:=bf 0
    have bf1:=bf 1
    have bf2:=bf 2
    have bf3:=bf 3
    clear bf
    go_wp2
    obtain ⟨Wf,hWf,hput,_,d0,d1,d2,d3⟩:=putN4 S8d.box (.int .i64 7) (.string ⟨([] : List UInt8).toArray⟩) (.int .i64 0) (.slice ao8c L8 c8c)
    rw [hWf]
    exact bodyPost_ret (v:=.agg #[.int .i64 7,.string ⟨([] : List UInt8).toArray⟩,.int .i64 0,.slice ao8c L8 c8c]) (by simp [results,Tryz.results42,go_sem,d0,d1,d2,d3]) rfl (OutR.of HR (S8d.done Tt9 hput))
  | false =>
   have c5:=rtake_no X w4 s4 h S4.rdr [41] hm5
   have E5 : Hid (takeV X.l [41] s4 = (false,s4)):=Lib.hid (by simp [takeV,hm5])
   clear hm5
   go_wp2_with fail
   refine c5.mono ?_
   rintro e w5 ⟨rfl,hb5,H5⟩
   clear c5
   have S5:=S4.call hb5 H5
   have Nn_5:=Nn_4.mv S4 hb5
   generalize hmm : w1.heap.size = m at *
   clear hmm
   obtain ⟨R,hR⟩ : ∃ z,(if s4.2 then ([],s4) else commasV X.l (parV X.l (vs X.l n)) s4) = z:=⟨_,rfl⟩
   have ER:=Lib.hid hR
   have HL : Hid (sigL X.l (vs X.l n) true (X.l.length + 1) [] s4 = R):=Lib.hid (by rw [← hR]; rfl)
   clear hR
   have hlt:=Nn_5.lt
   have hU0:=Up.refl s4
   go_wp2_with fail
   go_loopw [4] (fun v wr => ∃ (more : Bool) (k : Sg) (fu : Nat) (acc : List Tr) (ao : Option Addr) (cv : Nat),v = .bool more ∧ NBox X w wr m 7 [] 0 (.slice ao acc.length cv) acc ∧ Sd X w wr k h ∧ (acc.length ≤ k.1 - s4.1 + 1 ∧ (more = true → acc.length ≤ k.1 - s4.1) ∧ Up s4 k) ∧ Hid (X.l.length - k.1 < fu ∧ sigL X.l (vs X.l n) more fu acc k = R)) (fun v wr => 2 * (X.l.length - posR X wr) + moreN v)
   case atStart => exact ⟨true,s4,X.l.length + 1,[],none,0,rfl,Nn_5,S5,⟨by simp,by simp,hU0⟩,by omega,HL.out⟩
   case round =>
    obtain ⟨more,k,fu,acc,ao,cv,rfl,NK,SK,⟨hik,him,hUk⟩,HF⟩:=hrel
    have qk:=hUk.mS (n:=X.toks.length)
    have ak:=hUk.at_
    have bk:=SK.rdr.bnd
    clear HL Nn_5 S5
    cases more with
    | false =>
     have HX : Hid (R = (acc,k)):=Lib.hid (HF.out.2.symm.trans (sigL_stop _ _ _ _ _))
     have EL : Hid (R = (acc,k)):=HX
     clear HF
     have c2:=SK.rdr.c2
     go_wp2_with fail
     refine (rneed_any X wr k h SK.rdr [41] (by decide)).mono ?_
     rintro e w10 ⟨rfl,hb10,H10⟩
     obtain ⟨s10,hs10⟩ : ∃ z,needV X.l [41] k = z:=⟨_,rfl⟩
     rw [hs10] at H10
     have u10 : Up k s10:=hs10 ▸ (su_need X.l [41] k).up
     have q10:=u10.mS (n:=X.toks.length)
     have a10:=u10.at_
     have E10:=Lib.hid hs10
     clear hs10
     have S10:=SK.call hb10 H10
     have Nn_10:=NK.mv SK hb10
     obtain ⟨zu110,zu111,zu112,zu113,zu11f⟩:=Nn_10.cells
     have zu11g0:=zu11f 0
     have zu11g1:=zu11f 1
     have zu11g2:=zu11f 2
     have zu11g3:=zu11f 3
     clear zu11f
     have hpx12:=(Put.refl (m) w10).setCell 2 (.int .i64 (acc.length : Int))
     have S12:=S10.put hpx12 Nn_10.lt
     have Nn_12:=Nn_10.setNum (acc.length : Int)
     have cB:=rresults_any X n A (w10.setCell ⟨m,2,none⟩ (.int .i64 (acc.length : Int))).drew s10 h S12.drew.rdr (by omega)
     have u13:=up_results (l:=X.l) (upV X.l n) s10
     rcases hs13 : resultsV X.l (vs X.l n) s10 with ⟨l13,s13⟩
     rw [hs13] at cB u13
     have q13:=u13.mS (n:=X.toks.length)
     have a13:=u13.at_
     have E13:=Lib.hid hs13
     clear hs13
     have sb13:=S12.lt
     obtain ⟨zq130,zq131,zq132,zq133,zq13f⟩:=Nn_12.cells
     have zq13g0:=zq13f 0
     have zq13g1:=zq13f 1
     have zq13g2:=zq13f 2
     have zq13g3:=zq13f 3
     clear zq13f
     go_wp2_with fail
     clear zq130 zq131 zq132 zq133 zq13g0 zq13g1 zq13g2 zq13g3
     generalize (Value.slice ao acc.length cv) = V13 at *
     have lo13:=OwnL.lt Nn_12.own.own
     obtain ⟨zr130,zr131,zr132,zr133,zr13f⟩:=Nn_12.cells
     have zr13g0:=zr13f 0
     have zr13g1:=zr13f 1
     have zr13g2:=zr13f 2
     have zr13g3:=zr13f 3
     clear zr13f
     have ln13 : acc.length ≤ 500000:=by omega
     go_region_law (first
       | (go_simp; go_at_call 75; refine cB.mono ?_; rintro e w13 ⟨hb13,H13,ll13,v13,rfl,hk13⟩; obtain ⟨ao13,p13,rfl⟩:=hk13.slice
          have S13a:=S12.drew.call hb13 H13
          have N13a:=Nn_12.drew.mv S12.drew hb13
          have lz13:=hb13.size
          have ld13 : ((w10.setCell ⟨m,2,none⟩ (.int .i64 (acc.length : Int)))).drew.heap.size = ((w10.setCell ⟨m,2,none⟩ (.int .i64 (acc.length : Int)))).heap.size:=rfl
          have bd13:=H13.bnd
          have lm13:=Nn_12.ltz
          have hO13:=OwnQ.of (Q:=fun b => b ≠ m) hk13 (fun b hb _ => by omega)
          have N13b:=N13a
          have S13b:=S13a
          obtain ⟨y130,y131,y132,y133,y13f⟩:=N13a.cells
          have y13g:=y13f 3
          have ym13:=N13a.ltz
          have yn13 : m ≠ w13.heap.size:=Nat.ne_of_lt ym13
          have yo13 : w13.heap.size ≠ m:=fun e => yn13 e.symm
          clear y13f)
       | (refine step_join (by rfl) _ _ (by rfl) (by rfl) (by rfl) N13b.own hO13 ?_ ?_ ?_ ?_ ?_ ?_
          · first | omega | (simp; omega)
          · omega
          · first | omega | (simp; omega)
          · exact fun q hq => (lo13 q hq).2
          · first | omega | (simp; omega)
          intro ao13c c13c w13c hO13c hg13c
          generalize hL13 : (acc : List Tr).length + (l13 : List Tr).length = L13 at *
          have S13c:=S13b.grown hg13c (fun q hq => (lo13 q hq).1)
          have B13c:=N13b.grown hg13c
          obtain ⟨x130,x131,x132,x133,x13f⟩:=cells_of_blk B13c
          have x13g:=x13f 3
          clear x13f))
     all_goals
      have S13d:=S13c.put ((Put.refl (m) w13c).setCell 3 (.slice ao13c L13 c13c)) Nn_12.lt
      have N13d : NBox X w (w13c.setCell ⟨m,3,none⟩ (.slice ao13c L13 c13c)) (m) 7 [] (acc.length : Int) (.slice ao13c L13 c13c) ((acc ++ l13)):=NBox.setKids (X:=X) B13c Nn_12.lt hO13c
      clear x130 x131 x132 x133 x13g
      generalize w13c.setCell ⟨m,3,none⟩ (.slice ao13c L13 c13c) = w13d at *
      obtain ⟨zv140,zv141,zv142,zv143,zv14f⟩:=N13d.cells
      have zv14g0:=zv14f 0
      have zv14g1:=zv14f 1
      have zv14g2:=zv14f 2
      have zv14g3:=zv14f 3
      clear zv14f
      have Tt14:=N13d.tre
      have HR : Hid (sigV X.l (vs X.l n) s = ((.mk 7 [] (acc.length : Int) (acc ++ l13)),s13)):=Lib.hid (by simp [sigV,bindV,E4.out,E5.out,ER.out,EL.out,E10.out,E13.out])
      obtain ⟨y0,y1,y2,y3,b0,b1,b2,b3,bf⟩:=S13d.box.open
      have bf0:=bf 0
      have bf1:=bf 1
      have bf2:=bf 2
      have bf3:=bf 3
      clear bf
      go_wp2
      obtain ⟨Wf,hWf,hput,_,d0,d1,d2,d3⟩:=putN4 S13d.box (.int .i64 7) (.string ⟨([] : List UInt8).toArray⟩) (.int .i64 (acc.length : Int)) (.slice ao13c L13 c13c)
      rw [hWf]
      exact bodyPost_ret (v:=.agg #[.int .i64 7,.string ⟨([] : List UInt8).toArray⟩,.int .i64 (acc.length : Int),.slice ao13c L13 c13c]) (by simp [results,Tryz.results42,go_sem,d0,d1,d2,d3]) rfl (OutR.of HR (S13d.done Tt14 hput))
    | true =>
     cases hbd : k.2 with
     | true =>
      have HB:=Lib.hid hbd
      have HX : Hid (R = (acc,k)):=Lib.hid (HF.out.2.symm.trans (sigL_bad _ _ _ _ hbd))
      clear hbd
      have EL : Hid (R = (acc,k)):=HX
      clear HF
      have c2:=SK.rdr.c2
      rw [HB.out] at c2
      go_wp2_with fail
      refine (rneed_any X wr k h SK.rdr [41] (by decide)).mono ?_
      rintro e w15 ⟨rfl,hb15,H15⟩
      obtain ⟨s15,hs15⟩ : ∃ z,needV X.l [41] k = z:=⟨_,rfl⟩
      rw [hs15] at H15
      have u15 : Up k s15:=hs15 ▸ (su_need X.l [41] k).up
      have q15:=u15.mS (n:=X.toks.length)
      have a15:=u15.at_
      have E15:=Lib.hid hs15
      clear hs15
      have S15:=SK.call hb15 H15
      have Nn_15:=NK.mv SK hb15
      obtain ⟨zu160,zu161,zu162,zu163,zu16f⟩:=Nn_15.cells
      have zu16g0:=zu16f 0
      have zu16g1:=zu16f 1
      have zu16g2:=zu16f 2
      have zu16g3:=zu16f 3
      clear zu16f
      have hpx17:=(Put.refl (m) w15).setCell 2 (.int .i64 (acc.length : Int))
      have S17:=S15.put hpx17 Nn_15.lt
      have Nn_17:=Nn_15.setNum (acc.length : Int)
      have cB:=rresults_any X n A (w15.setCell ⟨m,2,none⟩ (.int .i64 (acc.length : Int))).drew s15 h S17.drew.rdr (by omega)
      have u18:=up_results (l:=X.l) (upV X.l n) s15
      rcases hs18 : resultsV X.l (vs X.l n) s15 with ⟨l18,s18⟩
      rw [hs18] at cB u18
      have q18:=u18.mS (n:=X.toks.length)
      have a18:=u18.at_
      have E18:=Lib.hid hs18
      clear hs18
      have sb18:=S17.lt
      obtain ⟨zq180,zq181,zq182,zq183,zq18f⟩:=Nn_17.cells
      have zq18g0:=zq18f 0
      have zq18g1:=zq18f 1
      have zq18g2:=zq18f 2
      have zq18g3:=zq18f 3
      clear zq18f
      go_wp2_with fail
      clear zq180 zq181 zq182 zq183 zq18g0 zq18g1 zq18g2 zq18g3
      generalize (Value.slice ao acc.length cv) = V18 at *
      have lo18:=OwnL.lt Nn_17.own.own
      obtain ⟨zr180,zr181,zr182,zr183,zr18f⟩:=Nn_17.cells
      have zr18g0:=zr18f 0
      have zr18g1:=zr18f 1
      have zr18g2:=zr18f 2
      have zr18g3:=zr18f 3
      clear zr18f
      have ln18 : acc.length ≤ 500000:=by omega
      go_region_law (first
        | (go_simp; go_at_call 75; refine cB.mono ?_; rintro e w18 ⟨hb18,H18,ll18,v18,rfl,hk18⟩; obtain ⟨ao18,p18,rfl⟩:=hk18.slice
           have S18a:=S17.drew.call hb18 H18
           have N18a:=Nn_17.drew.mv S17.drew hb18
           have lz18:=hb18.size
           have ld18 : ((w15.setCell ⟨m,2,none⟩ (.int .i64 (acc.length : Int)))).drew.heap.size = ((w15.setCell ⟨m,2,none⟩ (.int .i64 (acc.length : Int)))).heap.size:=rfl
           have bd18:=H18.bnd
           have lm18:=Nn_17.ltz
           have hO18:=OwnQ.of (Q:=fun b => b ≠ m) hk18 (fun b hb _ => by omega)
           have N18b:=N18a
           have S18b:=S18a
           obtain ⟨y180,y181,y182,y183,y18f⟩:=N18a.cells
           have y18g:=y18f 3
           have ym18:=N18a.ltz
           have yn18 : m ≠ w18.heap.size:=Nat.ne_of_lt ym18
           have yo18 : w18.heap.size ≠ m:=fun e => yn18 e.symm
           clear y18f)
        | (refine step_join (by rfl) _ _ (by rfl) (by rfl) (by rfl) N18b.own hO18 ?_ ?_ ?_ ?_ ?_ ?_
           · first | omega | (simp; omega)
           · omega
           · first | omega | (simp; omega)
           · exact fun q hq => (lo18 q hq).2
           · first | omega | (simp; omega)
           intro ao18c c18c w18c hO18c hg18c
           generalize hL18 : (acc : List Tr).length + (l18 : List Tr).length = L18 at *
           have S18c:=S18b.grown hg18c (fun q hq => (lo18 q hq).1)
           have B18c:=N18b.grown hg18c
           obtain ⟨x180,x181,x182,x183,x18f⟩:=cells_of_blk B18c
           have x18g:=x18f 3
           clear x18f))
      all_goals
       have S18d:=S18c.put ((Put.refl (m) w18c).setCell 3 (.slice ao18c L18 c18c)) Nn_17.lt
       have N18d : NBox X w (w18c.setCell ⟨m,3,none⟩ (.slice ao18c L18 c18c)) (m) 7 [] (acc.length : Int) (.slice ao18c L18 c18c) ((acc ++ l18)):=NBox.setKids (X:=X) B18c Nn_17.lt hO18c
       clear x180 x181 x182 x183 x18g
       generalize w18c.setCell ⟨m,3,none⟩ (.slice ao18c L18 c18c) = w18d at *
       obtain ⟨zv190,zv191,zv192,zv193,zv19f⟩:=N18d.cells
       have zv19g0:=zv19f 0
       have zv19g1:=zv19f 1
       have zv19g2:=zv19f 2
       have zv19g3:=zv19f 3
       clear zv19f
       have Tt19:=N18d.tre
       have HR : Hid (sigV X.l (vs X.l n) s = ((.mk 7 [] (acc.length : Int) (acc ++ l18)),s18)):=Lib.hid (by simp [sigV,bindV,E4.out,E5.out,ER.out,EL.out,E15.out,E18.out])
       obtain ⟨y0,y1,y2,y3,b0,b1,b2,b3,bf⟩:=S18d.box.open
       have bf0:=bf 0
       have bf1:=bf 1
       have bf2:=bf 2
       have bf3:=bf 3
       clear bf
       go_wp2
       obtain ⟨Wf,hWf,hput,_,d0,d1,d2,d3⟩:=putN4 S18d.box (.int .i64 7) (.string ⟨([] : List UInt8).toArray⟩) (.int .i64 (acc.length : Int)) (.slice ao18c L18 c18c)
       rw [hWf]
       exact bodyPost_ret (v:=.agg #[.int .i64 7,.string ⟨([] : List UInt8).toArray⟩,.int .i64 (acc.length : Int),.slice ao18c L18 c18c]) (by simp [results,Tryz.results42,go_sem,d0,d1,d2,d3]) rfl (OutR.of HR (S18d.done Tt19 hput))
     | false =>
      have HB:=Lib.hid hbd
      clear hbd
      have c2:=SK.rdr.c2
      rw [HB.out] at c2
      have him2:=him rfl
      clear him
      have c20:=rname_any X wr k h SK.rdr
      have u20:=(su_name X.l k).up
      rcases hs20 : nameV X.l k with ⟨x20,s20⟩
      rw [hs20] at c20 u20
      have q20:=u20.mS (n:=X.toks.length)
      have a20:=u20.at_
      have E20:=Lib.hid hs20
      clear hs20
      go_wp2_with fail
      refine c20.mono ?_
      rintro e w20 ⟨rfl,hb20,H20⟩
      clear c20
      have S20:=SK.call hb20 H20
      have Nn_20:=NK.mv SK hb20
      have cB:=A.typ w20.drew s20 h S20.drew.rdr (by omega)
      have u21:=(upV X.l n).typ s20
      rcases hs21 : (vs X.l n).typ s20 with ⟨t21,s21⟩
      rw [hs21] at cB u21
      have q21:=u21.mS (n:=X.toks.length)
      have a21:=u21.at_
      have E21:=Lib.hid hs21
      clear hs21
      have sb21:=S20.lt
      obtain ⟨zq210,zq211,zq212,zq213,zq21f⟩:=Nn_20.cells
      have zq21g0:=zq21f 0
      have zq21g1:=zq21f 1
      have zq21g2:=zq21f 2
      have zq21g3:=zq21f 3
      clear zq21f
      go_wp2_with fail
      clear zq210 zq211 zq212 zq213 zq21g0 zq21g1 zq21g2 zq21g3
      generalize (Value.slice ao acc.length cv) = V21 at *
      have lo21:=OwnL.lt Nn_20.own.own
      obtain ⟨zr210,zr211,zr212,zr213,zr21f⟩:=Nn_20.cells
      have zr21g0:=zr21f 0
      have zr21g1:=zr21f 1
      have zr21g2:=zr21f 2
      have zr21g3:=zr21f 3
      clear zr21f
      have ln21 : acc.length ≤ 500000:=by omega
      go_region_law (first
        | (go_simp; go_at_call 43; refine cB.mono ?_; rintro e w21 ⟨hb21,H21,sl21,rfl,hk21⟩; obtain ⟨ao21,n21,p21,rfl⟩:=hk21.slice
           have S21a:=S20.drew.call hb21 H21
           have N21a:=Nn_20.drew.mv S20.drew hb21
           have lz21:=hb21.size
           have ld21 : (w20).drew.heap.size = (w20).heap.size:=rfl
           have bd21:=H21.bnd
           have lm21:=Nn_20.ltz
           have hO21:=OwnQ.of (Q:=fun b => b ≠ m) (OwnL.one (B:=(w20).heap.size) lz21 hk21 (Nat.le_refl _) (Nat.le_refl _)) (fun b hb _ => by omega)
           have N21b:=N21a.alloc (.cells #[.int .i64 t21.kind,.string ⟨t21.text.toArray⟩,.int .i64 t21.num,.slice ao21 n21 p21] 24)
           have S21b:=S21a.alloc (.cells #[.int .i64 t21.kind,.string ⟨t21.text.toArray⟩,.int .i64 t21.num,.slice ao21 n21 p21] 24)
           obtain ⟨y210,y211,y212,y213,y21f⟩:=N21a.cells
           have y21g:=y21f 3
           have ym21:=N21a.ltz
           have yn21 : m ≠ w21.heap.size:=Nat.ne_of_lt ym21
           have yo21 : w21.heap.size ≠ m:=fun e => yn21 e.symm
           clear y21f)
        | (go_simp; go_at_call 23; refine (rnode_any 8 x20 _ _ _ _).mono ?_; rintro e w21e ⟨rfl,hd21⟩
           have hz21e:=hd21.size
           rw [World.size_alloc] at hz21e
           have S21e:=S21b.below hd21
           have N21e:=N21b.mv S21b (But.of_below hd21)
           have K21e:=OwnL.kt ((OwnL.one (B:=(w20).heap.size) lz21 hk21 (Nat.le_refl _) (Nat.le_refl _)).below hd21 (Nat.le_refl _)) 8 x20 0
           have hO21:=OwnQ.of (Q:=fun b => b ≠ m) (OwnL.one (B:=(w20).heap.size) (by omega) K21e (Nat.le_refl _) (Nat.le_refl _)) (fun b hb _ => by omega)
           have N21b:=N21e.alloc (.cells #[.int .i64 8,.string ⟨(x20 : List UInt8).toArray⟩,.int .i64 0,.slice (some ⟨w21.heap.size,0,none⟩) 1 1] 24)
           have S21b:=S21e.alloc (.cells #[.int .i64 8,.string ⟨(x20 : List UInt8).toArray⟩,.int .i64 0,.slice (some ⟨w21.heap.size,0,none⟩) 1 1] 24)
           obtain ⟨i210,i211,i212,i213,i21f⟩:=N21e.cells
           have i21g:=i21f 3
           have im21:=N21e.ltz
           have in21 : m ≠ w21e.heap.size:=Nat.ne_of_lt im21
           have io21 : w21e.heap.size ≠ m:=fun e => in21 e.symm
           clear i21f)
        | (refine step_join (by rfl) _ _ (by rfl) (by rfl) (by rfl) N21b.own hO21 ?_ ?_ ?_ ?_ ?_ ?_
           · first | omega | (simp; omega)
           · omega
           · first | omega | (simp; omega)
           · exact fun q hq => (lo21 q hq).2
           · first | omega | (simp; omega)
           intro ao21c c21c w21c hO21c hg21c
           generalize hL21 : (acc : List Tr).length + ([(.mk 8 x20 0 [t21])] : List Tr).length = L21 at *
           have S21c:=S21b.grown hg21c (fun q hq => (lo21 q hq).1)
           have B21c:=N21b.grown hg21c
           obtain ⟨x210,x211,x212,x213,x21f⟩:=cells_of_blk B21c
           have x21g:=x21f 3
           clear x21f))
      all_goals
       have S21d:=S21c.put ((Put.refl (m) w21c).setCell 3 (.slice ao21c L21 c21c)) Nn_20.lt
       have N21d : NBox X w (w21c.setCell ⟨m,3,none⟩ (.slice ao21c L21 c21c)) (m) 7 [] 0 (.slice ao21c L21 c21c) ((acc ++ [(.mk 8 x20 0 [t21])])):=NBox.setKids (X:=X) B21c Nn_20.lt hO21c
       clear x210 x211 x212 x213 x21g
       generalize w21c.setCell ⟨m,3,none⟩ (.slice ao21c L21 c21c) = w21d at *
       have EP : Hid (parV X.l (vs X.l n) k = (Tr.mk 8 x20 0 [t21],s21)):=Lib.hid (by simp [parV,bindV,E20.out,E21.out])
       have hUj : Up s4 s21:=hUk.trans (u20.trans u21)
       have hXl:=X.length
       have hlj:=S21d.rdr.le
       have hkj : k.1 ≤ s21.1:=(u20.trans u21).at_
       have hLn : (acc ++ [Tr.mk 8 x20 0 [t21]]).length = acc.length + 1:=by simp
       have hVL : L21 = (acc ++ [Tr.mk 8 x20 0 [t21]]).length:=by rw [hLn,← hL21]; rfl
       clear hXl
       cases hm : isV X.l s21 [44] with
       | true =>
        have hl:=isV_at (by decide) hm S21d.rdr.le
        have c:=rtake_yes X w21d s21 h S21d.rdr [44] (by decide) hm
        have HX : Hid (X.l.length - (stepV s21).1 < fu - 1 ∧ sigL X.l (vs X.l n) true (fu - 1) (acc ++ [Tr.mk 8 x20 0 [t21]]) (stepV s21) = R):=⟨by have:=HF.out.1; have:=X.length; simp only [stepV]; omega,(sigL_more (by have:=HF.out.1; omega) HB.out EP.out hm hl.1).symm.trans HF.out.2⟩
        clear hm HF
        go_wp2_with fail
        refine c.mono ?_
        rintro e wy ⟨rfl,hby,Hy⟩
        clear c
        have Sy:=S21d.call hby Hy
        have Ny:=N21d.mv S21d hby
        have hsj : (stepV s21).1 = s21.1 + 1:=rfl
        go_wp2
        go_roundw
        case rel => exact ⟨true,stepV s21,fu - 1,acc ++ [Tr.mk 8 x20 0 [t21]],ao21c,c21c,rfl,hVL ▸ Ny,Sy,⟨by omega,by omega,hUj.trans (su_step _).up⟩,HX⟩
        case measure => rw [Sy.rdr.pos,SK.rdr.pos,X.length,hsj]; simp only [moreN]; omega
       | false =>
        have c:=rtake_no X w21d s21 h S21d.rdr [44] hm
        have HX : Hid (X.l.length - s21.1 < fu ∧ sigL X.l (vs X.l n) false fu (acc ++ [Tr.mk 8 x20 0 [t21]]) s21 = R):=⟨by have:=HF.out.1; omega,(sigL_last (by have:=HF.out.1; omega) HB.out EP.out hm).symm.trans HF.out.2⟩
        clear hm HF
        go_wp2_with fail
        refine c.mono ?_
        rintro e wy ⟨rfl,hby,Hy⟩
        clear c
        have Sy:=S21d.call hby Hy
        have Ny:=N21d.mv S21d hby
        go_wp2
        go_roundw
        case rel => exact ⟨false,s21,fu,acc ++ [Tr.mk 8 x20 0 [t21]],ao21c,c21c,rfl,hVL ▸ Ny,Sy,⟨by omega,by simp,hUj⟩,HX⟩
        case measure => rw [Sy.rdr.pos,SK.rdr.pos]; simp only [moreN]; omega
end Go.Proofs.YtnkphlkjhgngkaaGreatDoor
