/- The document's reader: index. -/
import Derived.Test.YtnkphlkjhgngkaaGreatDoorRdGJt
import Derived.Test.YtnkphlkjhgngkaaGreatDoorParTJt
namespace Go.Proofs.YtnkphlkjhgngkaaGreatDoor
open Go.RowKit
attribute [local go_sem ↓] Go.wp_at_zero Go.wp_at_succ
/-- What a part of the reader leaves that answers a tree, some of which lay in blocks of Z before. -/
def OutRS (X : Px) (Z : Nat → Prop) (w : World) (h : Bool) (r : Tr × Sg) (e : Ending) (w' : World) : Prop:=match r with
  | (t,s) => But X.P w.heap.size w w' ∧ Rdr X w' s h ∧ ∃ sl,e = .returned (tv t sl) ∧ KT w' (fun b => Z b ∨ (w.heap.size ≤ b ∧ b < w'.heap.size)) t sl
section
variable {X : Px} {w wB W W' : World} {s : Sg} {h : Bool} {t : Tr} {sl V : Value} {o : Obj} {Z : Nat → Prop} {m : Nat} {num : Int} {ts : List Tr}
theorem OutRS.of {r r' : Tr × Sg} {e : Ending} (hr : Hid (r = r')) (o : OutRS X Z w h r' e W) : OutRS X Z w h r e W:=by
 have:=hr.out; subst this; exact o
theorem Sd.doneS (S : Sd X wB W s h) (hwB : w.alloc o = wB) (hZ : ∀ b,Z b → b < w.heap.size ∧ b ≠ X.P) {M : Nat} (T : KT W (fun b => ((Z b ∨ w.heap.size + 2 ≤ b) ∧ b ≠ M) ∧ b < W.heap.size) t sl) {Wf : World} (hput : Put wB.heap.size W Wf) : OutRS X Z w h (t,s) (.returned (tv t sl)) Wf:=by
 have hp:=S.plt
 have ht:=S.tlt
 have hz:=hput.size
 have zB : wB.heap.size = w.heap.size + 1:=by rw [← hwB]; simp
 exact ⟨But.boxed hwB (S.but.put hput (.inr (Nat.le_refl _))),S.rdr.put hput (by omega) (by omega),sl,rfl,
   KT.fr T (fun b hb => hput.block b (by rcases hb.1.1 with h1 | h1; have:=(hZ b h1).1; omega; omega)) (fun b hb => by rcases hb.1.1 with h1 | h1; exact .inl h1; exact .inr ⟨by omega,by omega⟩)⟩
theorem CBox.mv (T : CBox X w W m Z num V ts) (hR : (∀ b,Z b → b ≠ X.P) ∧ X.P < w.heap.size) (hb : But X.P W.heap.size W W') : CBox X w W' m Z num V ts :=
  T.later hb.size (fun b h1 h2 => hb.block b h2 (by have:=T.lt; have:=hR.2; rcases h1 with ⟨h1 | h1,_⟩ | h1; exact hR.1 b h1; omega; omega))
theorem CBox.setKids {V' : Value} {ts' : List Tr} (hblk : W.heap[m]? = some (.cells #[.int .i64 50,.string ⟨([] : List UInt8).toArray⟩,.int .i64 num,V] 24 (0,0))) (hlt : w.heap.size + 2 ≤ m) (hO : OwnG (fun b => (Z b ∨ w.heap.size + 2 ≤ b) ∧ b ≠ m) W (w.heap.size + 2) V' ts') : CBox X w (W.setCell ⟨m,3,none⟩ V') m Z num V' ts' :=
  ⟨(heap_setCell_same W m 3 _ hblk).trans rfl,hlt,hO.later (by simp) (fun b h1 _ => Below.heap_setCell _ _ _ _ h1.2)⟩
theorem CBox.setNum (T : CBox X w W m Z num V ts) (num' : Int) : CBox X w (W.setCell ⟨m,2,none⟩ (.int .i64 num')) m Z num' V ts :=
  ⟨(heap_setCell_same W m 2 _ T.blk).trans rfl,T.lt,T.own.later (by simp) (fun b h1 _ => Below.heap_setCell _ _ _ _ h1.2)⟩
end
set_option maxRecDepth 20000 in
set_option maxHeartbeats 8000000 in
theorem rindex_any (X : Px) (n : Nat) (A : GoodR X n) (Z : Nat → Prop) (w : World) (s : Sg) (wh : Tr) (aw : Option Addr) (nw cw : Nat) (H : Rdr X w s false) (hZ : ∀ b,Z b → b < w.heap.size ∧ b ≠ X.P) (hw : KT w Z wh (.slice aw nw cw)) (hn : mS X.toks.length s + 2 ≤ n) :
    Calls Tryz.prog 180 #[X.p,.agg #[.int .i64 wh.kind,.string ⟨wh.text.toArray⟩,.int .i64 wh.num,.slice aw nw cw]] w (OutRS X Z w false (indexV X.l (vs X.l n) wh s)):=by
  obtain ⟨wB,hwB⟩ : ∃ wB,w.alloc (.cells #[.int .i64 wh.kind,.string ⟨wh.text.toArray⟩,.int .i64 wh.num,.slice aw nw cw] 24) = wB:=⟨_,rfl⟩
  have HB : Rdr X wB s false:=hwB ▸ H.alloc _
  have zBe : Hid (wB.heap.size = w.heap.size + 1):=Lib.hid (by rw [← hwB]; simp)
  have zB1 : wB.heap.size ≤ w.heap.size + 1:=by have:=zBe.out; omega
  have zB2 : w.heap.size + 1 ≤ wB.heap.size:=by have:=zBe.out; omega
  have hwb : KT wB Z wh (.slice aw nw cw):=hwB ▸ hw.fr (fun b hb => Below.heap_alloc w _ b (hZ b hb).1) (fun _ hb => hb)
  have HPC : Hid (∀ W,But X.P wB.heap.size wB W → W.cell? ⟨w.heap.size,0,none⟩ = some (.int .i64 wh.kind) ∧ W.cell? ⟨w.heap.size,1,none⟩ = some (.string ⟨wh.text.toArray⟩) ∧ W.cell? ⟨w.heap.size,2,none⟩ = some (.int .i64 wh.num) ∧ W.cell? ⟨w.heap.size,3,none⟩ = some (.slice aw nw cw)):=Lib.hid (fun W hb => held4 (w:=w) (hwB ▸ hb) H.plt)
  obtain ⟨W0,hW0,S0⟩:=Sd.first HB
  have pl0:=H.plt
  have z01 : W0.heap.size ≤ w.heap.size + 2:=by rw [← hW0]; simp; omega
  have z02 : w.heap.size + 2 ≤ W0.heap.size:=by rw [← hW0]; simp; omega
  have hw0 : KT W0 Z wh (.slice aw nw cw):=hwb.fr (fun b hb => S0.but.block b (by have:=(hZ b hb).1; omega) (hZ b hb).2) (fun _ hb => hb)
  obtain ⟨p0,p1,p2,p3⟩:=HPC.out W0 S0.but
  go_enter Tryz.func180,Tryz.ntmps180
  go_wp2_with fail
  refine (rnode_any 50 [] _ _ _ _).mono ?_
  rintro e w1 ⟨rfl,hb1⟩
  have z1:=hb1.size
  rw [World.size_alloc] at z1
  have O0:=OwnG.made (w:=W0) (R:=fun b => (Z b ∨ w.heap.size + 2 ≤ b) ∧ b ≠ w1.heap.size) (ts:=[wh]) (sls:=[.slice aw nw cw]) (B:=w.heap.size + 2) (by omega) (by simp only [KL]; exact ⟨_,_,rfl,hw0.fr (Fr.refl _ _) (fun b hb => ⟨⟨.inl hb,by have:=(hZ b hb).1; omega⟩,by have:=(hZ b hb).1; omega⟩),rfl⟩) ⟨.inr (by omega),by omega⟩ rfl (by simp)
  have S1:=(S0.alloc _).below hb1
  have hR0 : (∀ b,Z b → b ≠ X.P) ∧ X.P < w.heap.size:=⟨fun b hb => (hZ b hb).2,pl0⟩
  have C2 : CBox X w (w1.alloc (.cells #[.int .i64 50,.string ⟨([] : List UInt8).toArray⟩,.int .i64 0,.slice (some ⟨W0.heap.size,0,none⟩) 1 1] 24)) w1.heap.size Z 0 (.slice (some ⟨W0.heap.size,0,none⟩) 1 1) [wh]:=⟨heap_alloc_new w1 _,by omega,(O0.later hb1.size (fun b _ h2 => hb1.block b h2)).later (by simp) (fun b _ h2 => Below.heap_alloc w1 _ b h2)⟩
  have S2:=S1.alloc (.cells #[.int .i64 50,.string ⟨([] : List UInt8).toArray⟩,.int .i64 0,.slice (some ⟨W0.heap.size,0,none⟩) 1 1] 24)
  clear O0 p0 p1 p2 p3
  go_wp2_with fail
  generalize (w1.alloc (.cells #[.int .i64 50,.string ⟨([] : List UInt8).toArray⟩,.int .i64 0,.slice (some ⟨W0.heap.size,0,none⟩) 1 1] 24)) = w2 at *
  generalize hmm : w1.heap.size = mm at *
  clear hmm
  cases hm11 : isV X.l s [58] with
  | true =>
   have hx11:=now_of hm11
   have hl11:=isV_at (by decide) hm11 S2.rdr.le
   have X11:=Lib.hid hx11
   have E11:=Lib.hid hm11
   clear hm11 hx11
   go_wp2_with fail
   refine (nowX_any X w2 s false S2.rdr [58] X11.out).mono ?_
   rintro e w12 ⟨rfl,hd12⟩
   have hb12 : But X.P w2.heap.size w2 w12:=But.of_below hd12
   have H12:=S2.rdr.below hd12 (Nat.le_refl _)
   clear hd12
   have S12:=S2.call hb12 H12
   have C12:=C2.mv hR0 hb12
   go_wp2_with fail
   refine (rneed_any X w12 s false S12.rdr [58] (by decide)).mono ?_
   rintro e w13 ⟨rfl,hb13,H13⟩
   obtain ⟨s13,hs13⟩ : ∃ z,needV X.l [58] s = z:=⟨_,rfl⟩
   rw [hs13] at H13
   have u13 : Up s s13:=hs13 ▸ (su_need X.l [58] s).up
   have q13:=u13.mS (n:=X.toks.length)
   have a13:=u13.at_
   have E13:=Lib.hid hs13
   clear hs13
   have S13:=S12.call hb13 H13
   have C13:=C12.mv hR0 hb13
   cases hm14 : isV X.l s13 [93] with
   | true =>
    have hl14:=isV_at (by decide) hm14 S13.rdr.le
    have c14:=rtake_yes X w13 s13 false S13.rdr [93] (by decide) hm14
    obtain ⟨s14,hs14⟩ : ∃ z,stepV s13 = z:=⟨_,rfl⟩
    rw [hs14] at c14
    have u14 : Up s13 s14:=hs14 ▸ (su_step s13).up
    have q14 : mS X.toks.length s14 + 3 ≤ mS X.toks.length s13:=hs14 ▸ mS_step hl14.1 hl14.2
    have a14 : s13.1 + 1 = s14.1:=hs14 ▸ rfl
    have a14a:=Nat.le_of_eq a14
    have a14b:=Nat.le_of_eq a14.symm
    clear a14
    have E14 : Hid (takeV X.l [93] s13 = (true,s14)):=Lib.hid (by simp [takeV,hm14,hs14])
    clear hm14 hs14 hl14
    go_wp2_with fail
    refine c14.mono ?_
    rintro e w14 ⟨rfl,hb14,H14⟩
    clear c14
    have S14:=S13.call hb14 H14
    have C14:=C13.mv hR0 hb14
    obtain ⟨zv150,zv151,zv152,zv153,zv15f⟩:=cells_of_blk C14.blk
    have zv15g0:=zv15f 0
    have zv15g1:=zv15f 1
    have zv15g2:=zv15f 2
    have zv15g3:=zv15f 3
    clear zv15f
    have HR : Hid (indexV X.l (vs X.l n) wh s = ((.mk 50 [] 0 [wh]),s14)):=Lib.hid (by simp [indexV,bindV,E11.out,E13.out,E14.out,cutV])
    obtain ⟨y0,y1,y2,y3,b0,b1,b2,b3,bf⟩:=S14.box.open
    have bf0:=bf 0
    have bf1:=bf 1
    have bf2:=bf 2
    have bf3:=bf 3
    clear bf
    go_wp2
    obtain ⟨Wf,hWf,hput,_,d0,d1,d2,d3⟩:=putN4 S14.box (.int .i64 50) (.string ⟨([] : List UInt8).toArray⟩) (.int .i64 0) (.slice (some ⟨W0.heap.size,0,none⟩) 1 1)
    rw [hWf]
    exact bodyPost_ret (v:=.agg #[.int .i64 50,.string ⟨([] : List UInt8).toArray⟩,.int .i64 0,.slice (some ⟨W0.heap.size,0,none⟩) 1 1]) (by simp [results,Tryz.results180,go_sem,d0,d1,d2,d3]) rfl (OutRS.of HR (S14.doneS hwB hZ (C14.own.kt 50 [] 0) hput))
   | false =>
    have c14:=rtake_no X w13 s13 false S13.rdr [93] hm14
    have E14 : Hid (takeV X.l [93] s13 = (false,s13)):=Lib.hid (by simp [takeV,hm14])
    clear hm14
    go_wp2_with fail
    refine c14.mono ?_
    rintro e w14 ⟨rfl,hb14,H14⟩
    clear c14
    have S14:=S13.call hb14 H14
    have C14:=C13.mv hR0 hb14
    have cB:=rexpr_any X n A w14.drew s13 false S14.drew.rdr (by omega)
    have u16:=up_expr (upV X.l n) false s13
    rcases hs16 : exprV (vs X.l n) false s13 with ⟨t16,s16⟩
    rw [hs16] at cB u16
    have q16:=u16.mS (n:=X.toks.length)
    have a16:=u16.at_
    have E16:=Lib.hid hs16
    clear hs16
    obtain ⟨zq160,zq161,zq162,zq163,zq16f⟩:=cells_of_blk C14.blk
    have zq16g0:=zq16f 0
    have zq16g1:=zq16f 1
    have zq16g2:=zq16f 2
    have zq16g3:=zq16f 3
    clear zq16f
    go_wp2_with fail
    clear zq160 zq161 zq162 zq163 zq16g0 zq16g1 zq16g2 zq16g3
    generalize (Value.slice (some ⟨W0.heap.size,0,none⟩) 1 1) = V16 at *
    have lo16:=C14.own.lt
    have sb16:=S14.lt
    have m16:=lt_of_block C14.blk
    have ml16:=C14.lt
    have pz16:=S14.plt
    obtain ⟨zr160,zr161,zr162,zr163,zr16f⟩:=cells_of_blk C14.blk
    have zr16g0:=zr16f 0
    have zr16g1:=zr16f 1
    have zr16g2:=zr16f 2
    have zr16g3:=zr16f 3
    clear zr16f
    go_region_law (first
      | (go_simp; go_at_call 138; refine cB.mono ?_; rintro e w16 ⟨hb16,H16,sl16,rfl,hk16⟩; obtain ⟨ao16,n16,p16,rfl⟩:=hk16.slice
         have S16a:=S14.drew.call hb16 H16
         have C16a:=C14.drew.mv hR0 hb16
         have za16:=hb16.size
         have zd16 : w14.drew.heap.size = w14.heap.size:=rfl
         have bd16:=H16.bnd
         have O16a:=OwnG.made (w:=w16) (R:=fun b => ((Z b ∨ w.heap.size + 2 ≤ b) ∧ b ≠ mm) ∧ some b ≠ (V16).ownBlock) (ts:=[t16]) (sls:=[.slice ao16 n16 p16]) (B:=0) (Nat.zero_le _) (by simp only [KL]; exact ⟨_,_,rfl,hk16.fr (Fr.refl _ _) (fun b hb => ⟨⟨⟨.inr (by omega),by omega⟩,fun e => by have:=(lo16 b e.symm).2; omega⟩,hb.2⟩),rfl⟩) ⟨⟨.inr (by omega),by omega⟩,fun e => by have:=(lo16 _ e.symm).2; omega⟩ rfl (by simp)
         have C16b:=C16a.alloc (.cells #[.int .i64 t16.kind,.string ⟨t16.text.toArray⟩,.int .i64 t16.num,.slice ao16 n16 p16] 24)
         have S16b:=S16a.alloc (.cells #[.int .i64 t16.kind,.string ⟨t16.text.toArray⟩,.int .i64 t16.num,.slice ao16 n16 p16] 24)
         obtain ⟨y160,y161,y162,y163,y16f⟩:=cells_of_blk C16a.blk
         have y16g:=y16f 3
         have ym16:=lt_of_block C16a.blk
         have yn16 : mm ≠ w16.heap.size:=Nat.ne_of_lt ym16
         have yo16 : w16.heap.size ≠ mm:=fun e => yn16 e.symm
         clear y16f)
      | (refine step_joinG (by rfl) _ _ (by rfl) (by rfl) (by rfl) C16b.own O16a ?_ ?_ ?_ ?_
         · exact ⟨.inr (by simp; omega),by simp; omega⟩
         · simp; omega
         · simp
         intro ao16c c16c w16c hO16c hg16c
         generalize hL16 : ([wh] : List Tr).length + ([t16] : List Tr).length = L16 at *
         have S16c:=S16b.grown hg16c (fun q hq => by have:=(lo16 q hq).1; omega)
         have B16c:=C16b.grown hg16c
         obtain ⟨x160,x161,x162,x163,x16f⟩:=cells_of_blk B16c
         have x16g:=x16f 3
         clear x16f))
    all_goals
     have S16d:=S16c.put ((Put.refl mm w16c).setCell 3 (.slice ao16c L16 c16c)) (by omega)
     have C16d : CBox X w (w16c.setCell ⟨mm,3,none⟩ (.slice ao16c L16 c16c)) mm Z 0 (.slice ao16c L16 c16c) [wh,t16]:=CBox.setKids B16c C14.lt hO16c
     clear x160 x161 x162 x163 x16g B16c hO16c hg16c O16a S16b C16b
     generalize w16c.setCell ⟨mm,3,none⟩ (.slice ao16c L16 c16c) = w16d at *
     obtain ⟨zu170,zu171,zu172,zu173,zu17f⟩:=cells_of_blk C16d.blk
     have zu17g0:=zu17f 0
     have zu17g1:=zu17f 1
     have zu17g2:=zu17f 2
     have zu17g3:=zu17f 3
     clear zu17f
     have S17:=S16d.put ((Put.refl mm w16d).setCell 2 (.int .i64 2)) (by have:=C16d.lt; omega)
     have C17:=C16d.setNum 2
     go_wp2_with fail
     refine (rneed_any X (w16d.setCell ⟨mm,2,none⟩ (.int .i64 2)) s16 false S17.rdr [93] (by decide)).mono ?_
     rintro e w18 ⟨rfl,hb18,H18⟩
     obtain ⟨s18,hs18⟩ : ∃ z,needV X.l [93] s16 = z:=⟨_,rfl⟩
     rw [hs18] at H18
     have u18 : Up s16 s18:=hs18 ▸ (su_need X.l [93] s16).up
     have q18:=u18.mS (n:=X.toks.length)
     have a18:=u18.at_
     have E18:=Lib.hid hs18
     clear hs18
     have S18:=S17.call hb18 H18
     have C18:=C17.mv hR0 hb18
     obtain ⟨zv190,zv191,zv192,zv193,zv19f⟩:=cells_of_blk C18.blk
     have zv19g0:=zv19f 0
     have zv19g1:=zv19f 1
     have zv19g2:=zv19f 2
     have zv19g3:=zv19f 3
     clear zv19f
     have HR : Hid (indexV X.l (vs X.l n) wh s = ((.mk 50 [] 2 [wh,t16]),s18)):=Lib.hid (by simp [indexV,bindV,E11.out,E13.out,E14.out,E16.out,E18.out,cutV])
     obtain ⟨y0,y1,y2,y3,b0,b1,b2,b3,bf⟩:=S18.box.open
     have bf0:=bf 0
     have bf1:=bf 1
     have bf2:=bf 2
     have bf3:=bf 3
     clear bf
     go_wp2
     obtain ⟨Wf,hWf,hput,_,d0,d1,d2,d3⟩:=putN4 S18.box (.int .i64 50) (.string ⟨([] : List UInt8).toArray⟩) (.int .i64 2) (.slice ao16c L16 c16c)
     rw [hWf]
     exact bodyPost_ret (v:=.agg #[.int .i64 50,.string ⟨([] : List UInt8).toArray⟩,.int .i64 2,.slice ao16c L16 c16c]) (by simp [results,Tryz.results180,go_sem,d0,d1,d2,d3]) rfl (OutRS.of HR (S18.doneS hwB hZ (C18.own.kt 50 [] 2) hput))
  | false =>
   have E11:=Lib.hid hm11
   clear hm11
   obtain ⟨x20,hx20⟩ : ∃ z,nowV X.l s = z:=⟨_,rfl⟩
   have n20_0:=now_no (m:=[58]) hx20 E11.out
   have X20:=Lib.hid hx20
   clear hx20
   go_wp2_with fail
   refine (nowX_any X w2 s false S2.rdr x20 X20.out).mono ?_
   rintro e w21 ⟨rfl,hd21⟩
   have hb21 : But X.P w2.heap.size w2 w21:=But.of_below hd21
   have H21:=S2.rdr.below hd21 (Nat.le_refl _)
   clear hd21
   have S21:=S2.call hb21 H21
   have C21:=C2.mv hR0 hb21
   have cB:=rexpr_any X n A w21.drew s false S21.drew.rdr (by omega)
   have u22:=up_expr (upV X.l n) false s
   rcases hs22 : exprV (vs X.l n) false s with ⟨t22,s22⟩
   rw [hs22] at cB u22
   have q22:=u22.mS (n:=X.toks.length)
   have a22:=u22.at_
   have E22:=Lib.hid hs22
   clear hs22
   obtain ⟨zq220,zq221,zq222,zq223,zq22f⟩:=cells_of_blk C21.blk
   have zq22g0:=zq22f 0
   have zq22g1:=zq22f 1
   have zq22g2:=zq22f 2
   have zq22g3:=zq22f 3
   clear zq22f
   go_wp2_with fail
   clear zq220 zq221 zq222 zq223 zq22g0 zq22g1 zq22g2 zq22g3
   generalize (Value.slice (some ⟨W0.heap.size,0,none⟩) 1 1) = V22 at *
   have lo22:=C21.own.lt
   have sb22:=S21.lt
   have m22:=lt_of_block C21.blk
   have ml22:=C21.lt
   have pz22:=S21.plt
   obtain ⟨zr220,zr221,zr222,zr223,zr22f⟩:=cells_of_blk C21.blk
   have zr22g0:=zr22f 0
   have zr22g1:=zr22f 1
   have zr22g2:=zr22f 2
   have zr22g3:=zr22f 3
   clear zr22f
   go_region_law (first
     | (go_simp; go_at_call 138; refine cB.mono ?_; rintro e w22 ⟨hb22,H22,sl22,rfl,hk22⟩; obtain ⟨ao22,n22,p22,rfl⟩:=hk22.slice
        have S22a:=S21.drew.call hb22 H22
        have C22a:=C21.drew.mv hR0 hb22
        have za22:=hb22.size
        have zd22 : w21.drew.heap.size = w21.heap.size:=rfl
        have bd22:=H22.bnd
        have O22a:=OwnG.made (w:=w22) (R:=fun b => ((Z b ∨ w.heap.size + 2 ≤ b) ∧ b ≠ mm) ∧ some b ≠ (V22).ownBlock) (ts:=[t22]) (sls:=[.slice ao22 n22 p22]) (B:=0) (Nat.zero_le _) (by simp only [KL]; exact ⟨_,_,rfl,hk22.fr (Fr.refl _ _) (fun b hb => ⟨⟨⟨.inr (by omega),by omega⟩,fun e => by have:=(lo22 b e.symm).2; omega⟩,hb.2⟩),rfl⟩) ⟨⟨.inr (by omega),by omega⟩,fun e => by have:=(lo22 _ e.symm).2; omega⟩ rfl (by simp)
        have C22b:=C22a.alloc (.cells #[.int .i64 t22.kind,.string ⟨t22.text.toArray⟩,.int .i64 t22.num,.slice ao22 n22 p22] 24)
        have S22b:=S22a.alloc (.cells #[.int .i64 t22.kind,.string ⟨t22.text.toArray⟩,.int .i64 t22.num,.slice ao22 n22 p22] 24)
        obtain ⟨y220,y221,y222,y223,y22f⟩:=cells_of_blk C22a.blk
        have y22g:=y22f 3
        have ym22:=lt_of_block C22a.blk
        have yn22 : mm ≠ w22.heap.size:=Nat.ne_of_lt ym22
        have yo22 : w22.heap.size ≠ mm:=fun e => yn22 e.symm
        clear y22f)
     | (refine step_joinG (by rfl) _ _ (by rfl) (by rfl) (by rfl) C22b.own O22a ?_ ?_ ?_ ?_
        · exact ⟨.inr (by simp; omega),by simp; omega⟩
        · simp; omega
        · simp
        intro ao22c c22c w22c hO22c hg22c
        generalize hL22 : ([wh] : List Tr).length + ([t22] : List Tr).length = L22 at *
        have S22c:=S22b.grown hg22c (fun q hq => by have:=(lo22 q hq).1; omega)
        have B22c:=C22b.grown hg22c
        obtain ⟨x220,x221,x222,x223,x22f⟩:=cells_of_blk B22c
        have x22g:=x22f 3
        clear x22f))
   all_goals
    have S22d:=S22c.put ((Put.refl mm w22c).setCell 3 (.slice ao22c L22 c22c)) (by omega)
    have C22d : CBox X w (w22c.setCell ⟨mm,3,none⟩ (.slice ao22c L22 c22c)) mm Z 0 (.slice ao22c L22 c22c) [wh,t22]:=CBox.setKids B22c C21.lt hO22c
    clear x220 x221 x222 x223 x22g B22c hO22c hg22c O22a S22b C22b
    generalize w22c.setCell ⟨mm,3,none⟩ (.slice ao22c L22 c22c) = w22d at *
    obtain ⟨zu230,zu231,zu232,zu233,zu23f⟩:=cells_of_blk C22d.blk
    have zu23g0:=zu23f 0
    have zu23g1:=zu23f 1
    have zu23g2:=zu23f 2
    have zu23g3:=zu23f 3
    clear zu23f
    have S23:=S22d.put ((Put.refl mm w22d).setCell 2 (.int .i64 1)) (by have:=C22d.lt; omega)
    have C23:=C22d.setNum 1
    cases hm24 : isV X.l s22 [93] with
    | true =>
     have hl24:=isV_at (by decide) hm24 S23.rdr.le
     have c24:=rtake_yes X (w22d.setCell ⟨mm,2,none⟩ (.int .i64 1)) s22 false S23.rdr [93] (by decide) hm24
     obtain ⟨s24,hs24⟩ : ∃ z,stepV s22 = z:=⟨_,rfl⟩
     rw [hs24] at c24
     have u24 : Up s22 s24:=hs24 ▸ (su_step s22).up
     have q24 : mS X.toks.length s24 + 3 ≤ mS X.toks.length s22:=hs24 ▸ mS_step hl24.1 hl24.2
     have a24 : s22.1 + 1 = s24.1:=hs24 ▸ rfl
     have a24a:=Nat.le_of_eq a24
     have a24b:=Nat.le_of_eq a24.symm
     clear a24
     have E24 : Hid (takeV X.l [93] s22 = (true,s24)):=Lib.hid (by simp [takeV,hm24,hs24])
     clear hm24 hs24 hl24
     go_wp2_with fail
     refine c24.mono ?_
     rintro e w24 ⟨rfl,hb24,H24⟩
     clear c24
     have S24:=S23.call hb24 H24
     have C24:=C23.mv hR0 hb24
     obtain ⟨zn250,zn251,zn252,zn253,zn25f⟩:=cells_of_blk C24.blk
     have zn25g0:=zn25f 0
     have zn25g1:=zn25f 1
     have zn25g2:=zn25f 2
     have zn25g3:=zn25f 3
     clear zn25f
     go_wp2_with fail
     refine (rnode_any 49 [] _ _ _ _).mono ?_
     rintro e w25 ⟨rfl,hd25⟩
     have hb25 : But X.P w24.heap.size w24 w25:=But.of_below hd25
     have H25:=S24.rdr.below hd25 (Nat.le_refl _)
     clear hd25
     have S25:=S24.call hb25 H25
     have C25:=C24.mv hR0 hb25
     have HR : Hid (indexV X.l (vs X.l n) wh s = ((.mk 49 [] 0 [wh,t22]),s24)):=Lib.hid (by simp [indexV,bindV,E11.out,E22.out,E24.out])
     obtain ⟨y0,y1,y2,y3,b0,b1,b2,b3,bf⟩:=S25.box.open
     have bf0:=bf 0
     have bf1:=bf 1
     have bf2:=bf 2
     have bf3:=bf 3
     clear bf
     go_wp2
     obtain ⟨Wf,hWf,hput,_,d0,d1,d2,d3⟩:=putN4 S25.box (.int .i64 49) (.string ⟨([] : List UInt8).toArray⟩) (.int .i64 0) (.slice ao22c L22 c22c)
     rw [hWf]
     exact bodyPost_ret (v:=.agg #[.int .i64 49,.string ⟨([] : List UInt8).toArray⟩,.int .i64 0,.slice ao22c L22 c22c]) (by simp [results,Tryz.results180,go_sem,d0,d1,d2,d3]) rfl (OutRS.of HR (S25.doneS hwB hZ (C25.own.kt 49 [] 0) hput))
    | false =>
     have c24:=rtake_no X (w22d.setCell ⟨mm,2,none⟩ (.int .i64 1)) s22 false S23.rdr [93] hm24
     have E24 : Hid (takeV X.l [93] s22 = (false,s22)):=Lib.hid (by simp [takeV,hm24])
     clear hm24
     go_wp2_with fail
     refine c24.mono ?_
     rintro e w24 ⟨rfl,hb24,H24⟩
     clear c24
     have S24:=S23.call hb24 H24
     have C24:=C23.mv hR0 hb24
     go_wp2_with fail
     refine (rneed_any X w24 s22 false S24.rdr [58] (by decide)).mono ?_
     rintro e w26 ⟨rfl,hb26,H26⟩
     obtain ⟨s26,hs26⟩ : ∃ z,needV X.l [58] s22 = z:=⟨_,rfl⟩
     rw [hs26] at H26
     have u26 : Up s22 s26:=hs26 ▸ (su_need X.l [58] s22).up
     have q26:=u26.mS (n:=X.toks.length)
     have a26:=u26.at_
     have E26:=Lib.hid hs26
     clear hs26
     have S26:=S24.call hb26 H26
     have C26:=C24.mv hR0 hb26
     cases hm27 : isV X.l s26 [93] with
     | true =>
      have hl27:=isV_at (by decide) hm27 S26.rdr.le
      have c27:=rtake_yes X w26 s26 false S26.rdr [93] (by decide) hm27
      obtain ⟨s27,hs27⟩ : ∃ z,stepV s26 = z:=⟨_,rfl⟩
      rw [hs27] at c27
      have u27 : Up s26 s27:=hs27 ▸ (su_step s26).up
      have q27 : mS X.toks.length s27 + 3 ≤ mS X.toks.length s26:=hs27 ▸ mS_step hl27.1 hl27.2
      have a27 : s26.1 + 1 = s27.1:=hs27 ▸ rfl
      have a27a:=Nat.le_of_eq a27
      have a27b:=Nat.le_of_eq a27.symm
      clear a27
      have E27 : Hid (takeV X.l [93] s26 = (true,s27)):=Lib.hid (by simp [takeV,hm27,hs27])
      clear hm27 hs27 hl27
      go_wp2_with fail
      refine c27.mono ?_
      rintro e w27 ⟨rfl,hb27,H27⟩
      clear c27
      have S27:=S26.call hb27 H27
      have C27:=C26.mv hR0 hb27
      obtain ⟨zv280,zv281,zv282,zv283,zv28f⟩:=cells_of_blk C27.blk
      have zv28g0:=zv28f 0
      have zv28g1:=zv28f 1
      have zv28g2:=zv28f 2
      have zv28g3:=zv28f 3
      clear zv28f
      have HR : Hid (indexV X.l (vs X.l n) wh s = ((.mk 50 [] 1 [wh,t22]),s27)):=Lib.hid (by simp [indexV,bindV,E11.out,E22.out,E24.out,E26.out,E27.out,cutV])
      obtain ⟨y0,y1,y2,y3,b0,b1,b2,b3,bf⟩:=S27.box.open
      have bf0:=bf 0
      have bf1:=bf 1
      have bf2:=bf 2
      have bf3:=bf 3
      clear bf
      go_wp2
      obtain ⟨Wf,hWf,hput,_,d0,d1,d2,d3⟩:=putN4 S27.box (.int .i64 50) (.string ⟨([] : List UInt8).toArray⟩) (.int .i64 1) (.slice ao22c L22 c22c)
      rw [hWf]
      exact bodyPost_ret (v:=.agg #[.int .i64 50,.string ⟨([] : List UInt8).toArray⟩,.int .i64 1,.slice ao22c L22 c22c]) (by simp [results,Tryz.results180,go_sem,d0,d1,d2,d3]) rfl (OutRS.of HR (S27.doneS hwB hZ (C27.own.kt 50 [] 1) hput))
     | false =>
      have c27:=rtake_no X w26 s26 false S26.rdr [93] hm27
      have E27 : Hid (takeV X.l [93] s26 = (false,s26)):=Lib.hid (by simp [takeV,hm27])
      clear hm27
      go_wp2_with fail
      refine c27.mono ?_
      rintro e w27 ⟨rfl,hb27,H27⟩
      clear c27
      have S27:=S26.call hb27 H27
      have C27:=C26.mv hR0 hb27
      have cB:=rexpr_any X n A w27.drew s26 false S27.drew.rdr (by omega)
      have u29:=up_expr (upV X.l n) false s26
      rcases hs29 : exprV (vs X.l n) false s26 with ⟨t29,s29⟩
      rw [hs29] at cB u29
      have q29:=u29.mS (n:=X.toks.length)
      have a29:=u29.at_
      have E29:=Lib.hid hs29
      clear hs29
      obtain ⟨zq290,zq291,zq292,zq293,zq29f⟩:=cells_of_blk C27.blk
      have zq29g0:=zq29f 0
      have zq29g1:=zq29f 1
      have zq29g2:=zq29f 2
      have zq29g3:=zq29f 3
      clear zq29f
      go_wp2_with fail
      clear zq290 zq291 zq292 zq293 zq29g0 zq29g1 zq29g2 zq29g3
      generalize (Value.slice ao22c L22 c22c) = V29 at *
      have lo29:=C27.own.lt
      have sb29:=S27.lt
      have m29:=lt_of_block C27.blk
      have ml29:=C27.lt
      have pz29:=S27.plt
      obtain ⟨zr290,zr291,zr292,zr293,zr29f⟩:=cells_of_blk C27.blk
      have zr29g0:=zr29f 0
      have zr29g1:=zr29f 1
      have zr29g2:=zr29f 2
      have zr29g3:=zr29f 3
      clear zr29f
      go_region_law (first
        | (go_simp; go_at_call 138; refine cB.mono ?_; rintro e w29 ⟨hb29,H29,sl29,rfl,hk29⟩; obtain ⟨ao29,n29,p29,rfl⟩:=hk29.slice
           have S29a:=S27.drew.call hb29 H29
           have C29a:=C27.drew.mv hR0 hb29
           have za29:=hb29.size
           have zd29 : w27.drew.heap.size = w27.heap.size:=rfl
           have bd29:=H29.bnd
           have O29a:=OwnG.made (w:=w29) (R:=fun b => ((Z b ∨ w.heap.size + 2 ≤ b) ∧ b ≠ mm) ∧ some b ≠ (V29).ownBlock) (ts:=[t29]) (sls:=[.slice ao29 n29 p29]) (B:=0) (Nat.zero_le _) (by simp only [KL]; exact ⟨_,_,rfl,hk29.fr (Fr.refl _ _) (fun b hb => ⟨⟨⟨.inr (by omega),by omega⟩,fun e => by have:=(lo29 b e.symm).2; omega⟩,hb.2⟩),rfl⟩) ⟨⟨.inr (by omega),by omega⟩,fun e => by have:=(lo29 _ e.symm).2; omega⟩ rfl (by simp)
           have C29b:=C29a.alloc (.cells #[.int .i64 t29.kind,.string ⟨t29.text.toArray⟩,.int .i64 t29.num,.slice ao29 n29 p29] 24)
           have S29b:=S29a.alloc (.cells #[.int .i64 t29.kind,.string ⟨t29.text.toArray⟩,.int .i64 t29.num,.slice ao29 n29 p29] 24)
           obtain ⟨y290,y291,y292,y293,y29f⟩:=cells_of_blk C29a.blk
           have y29g:=y29f 3
           have ym29:=lt_of_block C29a.blk
           have yn29 : mm ≠ w29.heap.size:=Nat.ne_of_lt ym29
           have yo29 : w29.heap.size ≠ mm:=fun e => yn29 e.symm
           clear y29f)
        | (refine step_joinG (by rfl) _ _ (by rfl) (by rfl) (by rfl) C29b.own O29a ?_ ?_ ?_ ?_
           · exact ⟨.inr (by simp; omega),by simp; omega⟩
           · simp; omega
           · simp
           intro ao29c c29c w29c hO29c hg29c
           generalize hL29 : ([wh,t22] : List Tr).length + ([t29] : List Tr).length = L29 at *
           have S29c:=S29b.grown hg29c (fun q hq => by have:=(lo29 q hq).1; omega)
           have B29c:=C29b.grown hg29c
           obtain ⟨x290,x291,x292,x293,x29f⟩:=cells_of_blk B29c
           have x29g:=x29f 3
           clear x29f))
      all_goals
       have S29d:=S29c.put ((Put.refl mm w29c).setCell 3 (.slice ao29c L29 c29c)) (by omega)
       have C29d : CBox X w (w29c.setCell ⟨mm,3,none⟩ (.slice ao29c L29 c29c)) mm Z 1 (.slice ao29c L29 c29c) [wh,t22,t29]:=CBox.setKids B29c C27.lt hO29c
       clear x290 x291 x292 x293 x29g B29c hO29c hg29c O29a S29b C29b
       generalize w29c.setCell ⟨mm,3,none⟩ (.slice ao29c L29 c29c) = w29d at *
       obtain ⟨zu300,zu301,zu302,zu303,zu30f⟩:=cells_of_blk C29d.blk
       have zu30g0:=zu30f 0
       have zu30g1:=zu30f 1
       have zu30g2:=zu30f 2
       have zu30g3:=zu30f 3
       clear zu30f
       have S30:=S29d.put ((Put.refl mm w29d).setCell 2 (.int .i64 3)) (by have:=C29d.lt; omega)
       have C30:=C29d.setNum 3
       go_wp2_with fail
       refine (rneed_any X (w29d.setCell ⟨mm,2,none⟩ (.int .i64 3)) s29 false S30.rdr [93] (by decide)).mono ?_
       rintro e w31 ⟨rfl,hb31,H31⟩
       obtain ⟨s31,hs31⟩ : ∃ z,needV X.l [93] s29 = z:=⟨_,rfl⟩
       rw [hs31] at H31
       have u31 : Up s29 s31:=hs31 ▸ (su_need X.l [93] s29).up
       have q31:=u31.mS (n:=X.toks.length)
       have a31:=u31.at_
       have E31:=Lib.hid hs31
       clear hs31
       have S31:=S30.call hb31 H31
       have C31:=C30.mv hR0 hb31
       obtain ⟨zv320,zv321,zv322,zv323,zv32f⟩:=cells_of_blk C31.blk
       have zv32g0:=zv32f 0
       have zv32g1:=zv32f 1
       have zv32g2:=zv32f 2
       have zv32g3:=zv32f 3
       clear zv32f
       have HR : Hid (indexV X.l (vs X.l n) wh s = ((.mk 50 [] 3 [wh,t22,t29]),s31)):=Lib.hid (by simp [indexV,bindV,E11.out,E22.out,E24.out,E26.out,E27.out,E29.out,E31.out,cutV])
       obtain ⟨y0,y1,y2,y3,b0,b1,b2,b3,bf⟩:=S31.box.open
       have bf0:=bf 0
       have bf1:=bf 1
       have bf2:=bf 2
       have bf3:=bf 3
       clear bf
       go_wp2
       obtain ⟨Wf,hWf,hput,_,d0,d1,d2,d3⟩:=putN4 S31.box (.int .i64 50) (.string ⟨([] : List UInt8).toArray⟩) (.int .i64 3) (.slice ao29c L29 c29c)
       rw [hWf]
       exact bodyPost_ret (v:=.agg #[.int .i64 50,.string ⟨([] : List UInt8).toArray⟩,.int .i64 3,.slice ao29c L29 c29c]) (by simp [results,Tryz.results180,go_sem,d0,d1,d2,d3]) rfl (OutRS.of HR (S31.doneS hwB hZ (C31.own.kt 50 [] 3) hput))
end Go.Proofs.YtnkphlkjhgngkaaGreatDoor
