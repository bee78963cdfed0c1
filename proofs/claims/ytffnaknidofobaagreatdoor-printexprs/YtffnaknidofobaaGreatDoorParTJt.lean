/- The parser's elements and cuts. -/
import Derived.Test.YtffnaknidofobaaGreatDoorParRJt
namespace Go.Proofs.YtffnaknidofobaaGreatDoor
open Go.RowKit
attribute [local go_sem ↓] Go.wp_at_zero Go.wp_at_succ
section
variable {X : Px} {w wB W W' : World} {i j k : Nat} {h g : Bool} {t : Tr} {sl V : Value} {o : Obj} {Z : Nat → Prop} {m : Nat} {num : Int} {ts : List Tr}
theorem But.boxed (hwB : w.alloc o = wB) (hb : But X.P wB.heap.size wB W) : But X.P w.heap.size w W:=by
 subst hwB
 exact ((But.refl _ _ _).alloc (Nat.le_refl _) o).trans (hb.mono (by simp))
theorem St.doneS (S : St X wB W j h) (hwB : w.alloc o = wB) (hZ : ∀ b,Z b → b < w.heap.size ∧ b ≠ X.P) {M : Nat} (T : KT W (fun b => ((Z b ∨ w.heap.size + 2 ≤ b) ∧ b ≠ M) ∧ b < W.heap.size) t sl) {Wf : World} (hput : Put wB.heap.size W Wf) (hij : i < j) : OutS X Z w i h (.ok t j) (.returned (tv t sl)) Wf:=by
 have hp:=S.plt
 have ht:=S.tlt
 have hz:=hput.size
 have zB : wB.heap.size = w.heap.size + 1:=by rw [← hwB]; simp
 exact ⟨But.boxed hwB (S.but.put hput (.inr (Nat.le_refl _))),hij,S.par.put hput (by omega) (by omega),sl,rfl,
   KT.fr T (fun b hb => hput.block b (by rcases hb.1.1 with h1 | h1; have:=(hZ b h1).1; omega; omega)) (fun b hb => by rcases hb.1.1 with h1 | h1; exact .inl h1; exact .inr ⟨by omega,by omega⟩)⟩
theorem St.badS (S : St X wB W i h) (hwB : w.alloc o = wB) (hb : But X.P W.heap.size W W') (H : Par X W' j g) : OutS X Z w k h (.bad j) pan W' :=
  ⟨But.boxed hwB (S.but.trans (hb.mono (Nat.le_of_lt S.lt))),rfl,g,H⟩
/-- A cut in a box, its kids in an own list. -/
structure CBox (X : Px) (w W : World) (m : Nat) (Z : Nat → Prop) (num : Int) (V : Value) (ts : List Tr) : Prop where
  blk : W.heap[m]? = some (.cells #[.int .i64 50,.string ⟨([] : List UInt8).toArray⟩,.int .i64 num,V] 24 (0,0))
  lt : w.heap.size + 2 ≤ m
  own : OwnG (fun b => (Z b ∨ w.heap.size + 2 ≤ b) ∧ b ≠ m) W (w.heap.size + 2) V ts
theorem CBox.later (T : CBox X w W m Z num V ts) (hz : W.heap.size ≤ W'.heap.size) (hw : ∀ b,(((Z b ∨ w.heap.size + 2 ≤ b) ∧ b ≠ m) ∨ b = m) → b < W.heap.size → W'.heap[b]? = W.heap[b]?) : CBox X w W' m Z num V ts :=
  ⟨(hw m (.inr rfl) (lt_of_block T.blk)).trans T.blk,T.lt,T.own.later hz (fun b h1 h2 => hw b (.inl h1) h2)⟩
theorem CBox.call (T : CBox X w W m Z num V ts) (_ : St X wB W i h) (hR : (∀ b,((Z b ∨ w.heap.size + 2 ≤ b) ∧ b ≠ m) → b ≠ X.P) ∧ X.P < w.heap.size) (hb : But X.P W.heap.size W W') : CBox X w W' m Z num V ts :=
  T.later hb.size (fun b h1 h2 => hb.block b h2 (by rcases h1 with h1 | h1; exact hR.1 b h1; have:=T.lt; have:=hR.2; omega))
theorem CBox.below (T : CBox X w W m Z num V ts) (hb : Below W.heap.size W W') : CBox X w W' m Z num V ts:=T.later hb.size (fun b _ h2 => hb.block b h2)
theorem CBox.drew (T : CBox X w W m Z num V ts) : CBox X w W.drew m Z num V ts:=T.later (Nat.le_refl _) (fun _ _ _ => rfl)
theorem CBox.alloc (T : CBox X w W m Z num V ts) (o : Obj) : CBox X w (W.alloc o) m Z num V ts:=T.later (by simp) (fun b _ h2 => Below.heap_alloc W o b h2)
theorem CBox.grown (T : CBox X w W m Z num V ts) (hg : W.grownBy W' V.ownBlock) : W'.heap[m]? = some (.cells #[.int .i64 50,.string ⟨([] : List UInt8).toArray⟩,.int .i64 num,V] 24 (0,0)):=by
 obtain ⟨_,_,_,h3⟩:=T.own
 exact (hg.block m (lt_of_block T.blk) (fun e => (h3 m e.symm).2 rfl)).trans T.blk
end
set_option maxRecDepth 20000 in
set_option maxHeartbeats 8000000 in
theorem part_any (X : Px) (n : Nat) (A : Good X n) (Z : Nat → Prop) (w : World) (i : Nat) (wh : Tr) (aw : Option Addr) (nw cw : Nat) (H : Par X w i false) (hZ : ∀ b,Z b → b < w.heap.size ∧ b ≠ X.P) (hw : KT w Z wh (.slice aw nw cw)) (hn : 3 * (X.l.length - i) + 1 ≤ n) :
    Calls Tryz.prog 219 #[X.p,.agg #[.int .i64 wh.kind,.string ⟨wh.text.toArray⟩,.int .i64 wh.num,.slice aw nw cw]] w (OutS X Z w i false (partR X.l (ps X.l n) wh i)):=by
  obtain ⟨wB,hwB⟩ : ∃ wB,w.alloc (.cells #[.int .i64 wh.kind,.string ⟨wh.text.toArray⟩,.int .i64 wh.num,.slice aw nw cw] 24) = wB:=⟨_,rfl⟩
  have HB : Par X wB i false:=hwB ▸ H.alloc _
  have zBe : Hid (wB.heap.size = w.heap.size + 1):=by rw [← hwB]; simp [Hid]
  have zB1 : wB.heap.size ≤ w.heap.size + 1:=by have:=zBe.out; omega
  have zB2 : w.heap.size + 1 ≤ wB.heap.size:=by have:=zBe.out; omega
  have hwb : KT wB Z wh (.slice aw nw cw):=hwB ▸ hw.fr (fun b hb => Below.heap_alloc w _ b (hZ b hb).1) (fun _ hb => hb)
  have PC : ∀ W,But X.P wB.heap.size wB W → W.cell? ⟨w.heap.size,0,none⟩ = some (.int .i64 wh.kind) ∧ W.cell? ⟨w.heap.size,1,none⟩ = some (.string ⟨wh.text.toArray⟩) ∧ W.cell? ⟨w.heap.size,2,none⟩ = some (.int .i64 wh.num) ∧ W.cell? ⟨w.heap.size,3,none⟩ = some (.slice aw nw cw):=fun W hb => held4 (w:=w) (hwB ▸ hb) H.plt
  have HPC:=Lib.hid PC
  clear PC
  obtain ⟨W0,hW0,S0⟩:=St.first HB
  have lt0:=H.lt
  have pl0:=H.plt
  have z01 : W0.heap.size ≤ w.heap.size + 2:=by rw [← hW0]; simp; omega
  have z02 : w.heap.size + 2 ≤ W0.heap.size:=by rw [← hW0]; simp; omega
  have hw0 : KT W0 Z wh (.slice aw nw cw):=hwb.fr (fun b hb => S0.but.block b (by have:=(hZ b hb).1; omega) (hZ b hb).2) (fun _ hb => hb)
  obtain ⟨p0,p1,p2,p3⟩:=HPC.out W0 S0.but
  have bdi:=H.bnd
  go_enter Tryz.func219,Tryz.ntmps219
  go_wp2_with fail
  refine (node_any 50 [] _ _ _ _).mono ?_
  rintro e w1 ⟨rfl,hb1⟩
  have z1:=hb1.size
  rw [World.size_alloc] at z1
  have O0:=OwnG.made (w:=W0) (R:=fun b => (Z b ∨ w.heap.size + 2 ≤ b) ∧ b ≠ w1.heap.size) (ts:=[wh]) (sls:=[.slice aw nw cw]) (B:=w.heap.size + 2) (by omega) (by simp only [KL]; exact ⟨_,_,rfl,hw0.fr (Fr.refl _ _) (fun b hb => ⟨⟨.inl hb,by have:=(hZ b hb).1; omega⟩,by have:=(hZ b hb).1; omega⟩),rfl⟩) ⟨.inr (by omega),by omega⟩ rfl (by simp)
  have S1:=(S0.alloc _).below hb1
  have hR0 : (∀ b,((Z b ∨ w.heap.size + 2 ≤ b) ∧ b ≠ w1.heap.size) → b ≠ X.P) ∧ X.P < w.heap.size:=⟨fun b hb => by rcases hb.1 with hb | hb; exact (hZ b hb).2; omega,pl0⟩
  have C2 : CBox X w (w1.alloc (.cells #[.int .i64 50,.string ⟨([] : List UInt8).toArray⟩,.int .i64 0,.slice (some ⟨W0.heap.size,0,none⟩) 1 1] 24)) w1.heap.size Z 0 (.slice (some ⟨W0.heap.size,0,none⟩) 1 1) [wh]:=⟨heap_alloc_new w1 _,by omega,(O0.later hb1.size (fun b _ h2 => hb1.block b h2)).later (by simp) (fun b _ h2 => Below.heap_alloc w1 _ b h2)⟩
  have S2:=S1.alloc (.cells #[.int .i64 50,.string ⟨([] : List UInt8).toArray⟩,.int .i64 0,.slice (some ⟨W0.heap.size,0,none⟩) 1 1] 24)
  clear O0 p0 p1 p2 p3
  have cI:=is_any X _ i false S2.par [58]
  go_wp2_with fail
  generalize (w1.alloc (.cells #[.int .i64 50,.string ⟨([] : List UInt8).toArray⟩,.int .i64 0,.slice (some ⟨W0.heap.size,0,none⟩) 1 1] 24)) = w2 at *
  generalize hmm : w1.heap.size = mm at *
  cases hm3 : isM X.l i [58] with
  | true =>
   rw [hm3] at cI
   have Ecol:=Lib.hid hm3
   clear hm3
   refine cI.mono ?_
   rintro e w3 ⟨rfl,hb3⟩
   have S3:=S2.below hb3
   have C3:=C2.below hb3
   clear cI
   have k0:=S3.par.plt
   go_wp2_with fail
   refine (need_yes X w3 i false S3.par [58] (by decide) Ecol.out).mono ?_
   rintro e w8 ⟨rfl,hb8,H8⟩
   have S8:=S3.call hb8 H8
   have C8:=C3.call S3 hR0 hb8
   have lt8:=H8.lt
   have En8:=Lib.hid (needR_yes Ecol.out)
   have cI:=is_any X w8 (i + 1) false S8.par [93]
   cases hm9 : isM X.l (i + 1) [93] with
   | true =>
    rw [hm9] at cI
    have E9:=Lib.hid hm9
    clear hm9
    go_wp2_with fail
    refine cI.mono ?_
    rintro e w9 ⟨rfl,hb9⟩
    have S9:=S8.below hb9
    have C9:=C8.below hb9
    clear cI
    obtain ⟨q0,q1,q2,q3,_⟩:=cells_of_blk C9.blk
    have HR : Hid (partR X.l (ps X.l n) wh i = .ok (.mk 50 [] 0 [wh]) (i + 1)):=by simp [Hid,partR,cutR,Res.bind,Ecol.out,En8.out,E9.out]
    obtain ⟨u0,u1,u2,u3,b0,b1,b2,b3,bf⟩:=S9.box.open
    have bf0:=bf 0
    have bf1:=bf 1
    have bf2:=bf 2
    have bf3:=bf 3
    clear bf
    go_wp2
    obtain ⟨Wf,hWf,hput,_,d0,d1,d2,d3⟩:=putN4 S9.box (.int .i64 50) (.string ⟨([] : List UInt8).toArray⟩) (.int .i64 0) (.slice (some ⟨W0.heap.size,0,none⟩) 1 1)
    rw [hWf]
    exact bodyPost_ret (v:=.agg #[.int .i64 50,.string ⟨([] : List UInt8).toArray⟩,.int .i64 0,.slice (some ⟨W0.heap.size,0,none⟩) 1 1]) (by simp [results,Tryz.results219,go_sem,d0,d1,d2,d3]) rfl (OutS.of HR (S9.doneS hwB hZ (C9.own.kt 50 [] 0) hput (by omega)))
   | false =>
    rw [hm9] at cI
    have E9:=Lib.hid hm9
    clear hm9
    go_wp2_with fail
    refine cI.mono ?_
    rintro e w9 ⟨rfl,hb9⟩
    have S9:=S8.below hb9
    have C9:=C8.below hb9
    clear cI
    generalize (Value.slice (some ⟨W0.heap.size,0,none⟩) 1 1) = Vq at *
    have cB:=expression_any X n A w9.drew (i + 1) false S9.drew.par (by omega)
    obtain ⟨q0,q1,q2,q3,qf⟩:=cells_of_blk C9.blk
    have qf2:=qf 2
    have qf3:=qf 3
    clear qf
    have hwr2 : IntKind.i64.wrap 2 = 2:=by rw [IntKind.wrap_i64]; rfl
    have hwr3 : IntKind.i64.wrap 3 = 3:=by rw [IntKind.wrap_i64]; rfl
    have lo9:=C9.own.lt
    have l9:=S9.lt
    have m9:=lt_of_block C9.blk
    have b9:=S9.par.bnd
    have zr:=S9.plt
    go_wp2_with fail
    go_region_law (first
      | (go_simp; go_at_call 209; refine cB.mono ?_; rintro e wa ⟨hba,hra⟩; rcases Res.or (exprR (ps X.l n) false (i + 1)) with ⟨j,hp⟩ | ⟨r,j,hp⟩
         · (rw [hp] at hra; obtain ⟨rfl,ha,Ha⟩:=hra; have HR : Hid (partR X.l (ps X.l n) wh i = .bad j):=(by simp [Hid,partR,cutR,Res.bind,Ecol.out,En8.out,E9.out,hp]); exact ⟨rfl,OutS.of HR (S9.drew.badS hwB hba Ha)⟩)
         rw [hp] at hra
         obtain ⟨ija,Ha,sla,rfl,hka⟩:=hra
         obtain ⟨aoa,na,ca,rfl⟩:=hka.slice
         have Ea:=Lib.hid hp
         have Sa:=S9.drew.call hba Ha
         have Ca:=C9.drew.call S9.drew hR0 hba
         have za:=hba.size
         have zd : w9.drew.heap.size = w9.heap.size:=rfl
         have bda:=Ha.bnd
         have Ob:=OwnG.made (w:=wa) (R:=fun b => ((Z b ∨ w.heap.size + 2 ≤ b) ∧ b ≠ mm) ∧ some b ≠ (Vq).ownBlock) (ts:=[r]) (sls:=[.slice aoa na ca]) (B:=0) (Nat.zero_le _) (by simp only [KL]; exact ⟨_,_,rfl,hka.fr (Fr.refl _ _) (fun b hb => ⟨⟨⟨.inr (by omega),by omega⟩,fun e => by have:=(lo9 b e.symm).2; omega⟩,hb.2⟩),rfl⟩) ⟨⟨.inr (by omega),by omega⟩,fun e => by have:=(lo9 _ e.symm).2; omega⟩ rfl (by simp)
         have Cb:=Ca.alloc (.cells #[.int .i64 r.kind,.string ⟨r.text.toArray⟩,.int .i64 r.num,.slice aoa na ca] 24)
         have Sb:=Sa.alloc (.cells #[.int .i64 r.kind,.string ⟨r.text.toArray⟩,.int .i64 r.num,.slice aoa na ca] 24)
         obtain ⟨y0,y1,y2,y3,yf⟩:=cells_of_blk Ca.blk
         have yf2:=yf 2
         have yf3:=yf 3
         have ym:=lt_of_block Ca.blk
         have yn : mm ≠ wa.heap.size:=Nat.ne_of_lt ym
         have yn2 : wa.heap.size ≠ mm:=fun e => yn e.symm
         clear yf hp)
      | (refine step_joinG (by rfl) _ _ (by rfl) (by rfl) (by rfl) Cb.own Ob ?_ ?_ ?_ ?_
         · exact ⟨.inr (by simp; omega),by simp; omega⟩
         · simp; omega
         · simp
         intro aoc cc wc hOc hgc
         have Sc:=Sb.grown hgc (fun q hq => by have:=(lo9 q hq).1; omega)
         have Bc:=Cb.grown hgc
         obtain ⟨z0,z1,z2,z3,zf⟩:=cells_of_blk Bc
         have zf2:=zf 2
         have zf3:=zf 3
         have zmc:=lt_of_block Bc
         clear zf))
    all_goals
     have hpx:=((Put.refl mm wc).setCell 2 (.int .i64 2)).setCell 3 (.slice aoc 2 cc)
     have Sd:=Sc.put hpx (by have:=C9.lt; omega)
     have KTd:=(hOc.kt 50 [] 2).fr (w':=((wc.setCell ⟨mm,2,none⟩ (.int .i64 2)).setCell ⟨mm,3,none⟩ (.slice aoc 2 cc))) (S':=fun b => ((Z b ∨ w.heap.size + 2 ≤ b) ∧ b ≠ mm) ∧ b < ((wc.setCell ⟨mm,2,none⟩ (.int .i64 2)).setCell ⟨mm,3,none⟩ (.slice aoc 2 cc)).heap.size) (fun b hb => hpx.block b hb.1.2) (fun b hb => ⟨hb.1,by rw [hpx.size]; exact hb.2⟩)
     have zz : ((wc.setCell ⟨mm,2,none⟩ (.int .i64 2)).setCell ⟨mm,3,none⟩ (.slice aoc 2 cc)).heap[mm]? = some (.cells #[.int .i64 50,.string ⟨([] : List UInt8).toArray⟩,.int .i64 2,.slice aoc 2 cc] 24 (0,0)):=(heap_setCell_same _ mm 3 _ (heap_setCell_same wc mm 2 _ Bc)).trans rfl
     clear z0 z1 z2 z3 zf2 zf3 hgc hOc Bc y0 y1 y2 y3 yf2 yf3 q0 q1 q2 q3 qf2 qf3 Ob Cb
     generalize ((wc.setCell ⟨mm,2,none⟩ (.int .i64 2)).setCell ⟨mm,3,none⟩ (.slice aoc 2 cc)) = wd at *
     obtain ⟨z0,z1,z2,z3,_⟩:=cells_of_blk zz
     have HR : Hid (partR X.l (ps X.l n) wh i = .ok (.mk 50 [] 2 [wh,r]) j):=by simp [Hid,partR,cutR,Res.bind,Ecol.out,En8.out,E9.out,Ea.out]
     obtain ⟨u0,u1,u2,u3,b0,b1,b2,b3,bf⟩:=Sd.box.open
     have bf0:=bf 0
     have bf1:=bf 1
     have bf2:=bf 2
     have bf3:=bf 3
     clear bf
     go_wp2
     obtain ⟨Wf,hWf,hput,_,d0,d1,d2,d3⟩:=putN4 Sd.box (.int .i64 50) (.string ⟨([] : List UInt8).toArray⟩) (.int .i64 2) (.slice aoc 2 cc)
     rw [hWf]
     exact bodyPost_ret (v:=.agg #[.int .i64 50,.string ⟨([] : List UInt8).toArray⟩,.int .i64 2,.slice aoc 2 cc]) (by simp [results,Tryz.results219,go_sem,d0,d1,d2,d3]) rfl (OutS.of HR (Sd.doneS hwB hZ KTd hput (by omega)))
  | false =>
   rw [hm3] at cI
   have E3:=Lib.hid hm3
   clear hm3
   refine cI.mono ?_
   rintro e w3 ⟨rfl,hb3⟩
   have S3:=S2.below hb3
   have C3:=C2.below hb3
   clear cI
   go_wp2_with fail
   refine (expression_any X n A w3 i false S3.par (by omega)).mono ?_
   rintro e w4 ⟨hb4,hr4⟩
   have z4:=hb4.size
   cases hp4 : exprR (ps X.l n) false i with
   | bad j =>
    rw [hp4] at hr4
    obtain ⟨rfl,h4,H4⟩:=hr4
    have HR : Hid (partR X.l (ps X.l n) wh i = .bad j):=by simp [Hid,partR,Res.bind,E3.out,hp4]
    exact ⟨rfl,OutS.of HR (S3.badS hwB hb4 H4)⟩
   | ok b4 j =>
    rw [hp4] at hr4
    obtain ⟨ij4,H4,sl4,rfl,hk4⟩:=hr4
    obtain ⟨ao4,n4,c4,rfl⟩:=hk4.slice
    have E4:=Lib.hid hp4
    have S4:=S3.call hb4 H4
    have C4:=C3.call S3 hR0 hb4
    have lt4:=H4.lt
    have bd4:=H4.bnd
    have m3:=lt_of_block C3.blk
    have lo3:=C3.own.lt
    have pl4:=H4.plt
    have S5:=S4.alloc (.cells #[.int .i64 b4.kind,.string ⟨b4.text.toArray⟩,.int .i64 b4.num,.slice ao4 n4 c4] 24)
    have C5:=C4.alloc (.cells #[.int .i64 b4.kind,.string ⟨b4.text.toArray⟩,.int .i64 b4.num,.slice ao4 n4 c4] 24)
    have l3:=S3.lt
    clear hp4
    have cI:=is_any X _ j false S5.par [58]
    go_wp2_with fail
    cases hm5 : isM X.l j [58] with
    | false =>
     rw [hm5] at cI
     have E5:=Lib.hid hm5
     clear hm5
     refine cI.mono ?_
     rintro e w6 ⟨rfl,hb6⟩
     have S6:=S5.below hb6
     obtain ⟨p0,p1,p2,p3⟩:=HPC.out w6 S6.but
     obtain ⟨r0,r1,r2,r3⟩:=held4 (But.of_below (P:=X.P) hb6) pl4
     have z6:=hb6.size
     rw [World.size_alloc] at z6
     have kw : KT w6 Z wh (.slice aw nw cw):=hwb.fr (fun b hb => S6.but.block b (by have:=(hZ b hb).1; omega) (hZ b hb).2) (fun _ hb => hb)
     have kb : KT w6 (Rg w3.heap.size w4.heap.size) b4 (.slice ao4 n4 c4):=hk4.fr (((Fr.refl _ _).alloc (fun b hb => hb.2) _).below hb6 (fun b hb => by rw [World.size_alloc]; omega)) (fun _ hb => hb)
     have Oi:=OwnG.made (w:=w6) (R:=fun b => (Z b ∨ w.heap.size + 2 ≤ b) ∧ b ≠ mm) (ts:=[wh,b4]) (sls:=[.slice aw nw cw,.slice ao4 n4 c4]) (B:=0) (Nat.zero_le _) (by simp only [KL]; exact ⟨_,_,rfl,kw.fr (Fr.refl _ _) (fun b hb => ⟨⟨.inl hb,by have:=(hZ b hb).1; have:=C3.lt; omega⟩,by have:=(hZ b hb).1; omega⟩),_,_,rfl,kb.fr (Fr.refl _ _) (fun b hb => ⟨⟨.inr (by have:=C3.lt; omega),by omega⟩,by omega⟩),rfl⟩) ⟨.inr (by have:=C3.lt; omega),by omega⟩ rfl (by simp)
     go_wp2_with fail
     refine (node_any 49 [] _ _ _ _).mono ?_
     rintro e w7 ⟨rfl,hb7⟩
     have S7:=(S6.alloc _).below hb7
     have Oj:=Oi.later hb7.size (fun b _ h2 => hb7.block b h2)
     clear p0 p1 p2 p3 r0 r1 r2 r3
     have HR : Hid (partR X.l (ps X.l n) wh i = .ok (.mk 49 [] 0 [wh,b4]) j):=by simp [Hid,partR,Res.bind,E3.out,E4.out,E5.out]
     obtain ⟨u0,u1,u2,u3,b0,b1,b2,b3,bf⟩:=S7.box.open
     have bf0:=bf 0
     have bf1:=bf 1
     have bf2:=bf 2
     have bf3:=bf 3
     clear bf
     go_wp2
     obtain ⟨Wf,hWf,hput,_,d0,d1,d2,d3⟩:=putN4 S7.box (.int .i64 49) (.string ⟨([] : List UInt8).toArray⟩) (.int .i64 0) (.slice (some ⟨w6.heap.size,0,none⟩) 2 2)
     rw [hWf]
     exact bodyPost_ret (v:=.agg #[.int .i64 49,.string ⟨([] : List UInt8).toArray⟩,.int .i64 0,.slice (some ⟨w6.heap.size,0,none⟩) 2 2]) (by simp [results,Tryz.results219,go_sem,d0,d1,d2,d3]) rfl (OutS.of HR (S7.doneS hwB hZ (Oj.kt 49 [] 0) hput (by omega)))
    | true =>
     rw [hm5] at cI
     have Ecol:=Lib.hid hm5
     clear hm5
     refine cI.mono ?_
     rintro e w6 ⟨rfl,hb6⟩
     have S6:=S5.below hb6
     have C6:=C5.below hb6
     obtain ⟨r0,r1,r2,r3⟩:=held4 (But.of_below (P:=X.P) hb6) pl4
     have z6:=hb6.size
     rw [World.size_alloc] at z6
     have kb : KT w6 (Rg w3.heap.size w4.heap.size) b4 (.slice ao4 n4 c4):=hk4.fr (((Fr.refl _ _).alloc (fun b hb => hb.2) _).below hb6 (fun b hb => by rw [World.size_alloc]; omega)) (fun _ hb => hb)
     generalize (Value.slice (some ⟨W0.heap.size,0,none⟩) 1 1) = Vp at *
     obtain ⟨q0,q1,q2,q3,qf⟩:=cells_of_blk C6.blk
     have qf2:=qf 2
     have qf3:=qf 3
     clear qf
     have lm:=C3.lt
     have Ob:=OwnG.made (w:=w6) (R:=fun b => ((Z b ∨ w.heap.size + 2 ≤ b) ∧ b ≠ mm) ∧ some b ≠ Vp.ownBlock) (ts:=[b4]) (sls:=[.slice ao4 n4 c4]) (B:=0) (Nat.zero_le _) (by simp only [KL]; exact ⟨_,_,rfl,kb.fr (Fr.refl _ _) (fun b hb => ⟨⟨⟨.inr (by omega),by omega⟩,fun e => by have:=(lo3 b e.symm).2; omega⟩,by omega⟩),rfl⟩) ⟨⟨.inr (by omega),by omega⟩,fun e => by have:=(lo3 _ e.symm).2; omega⟩ rfl (by simp)
     have C6a:=C6.alloc (.cells #[.int .i64 b4.kind,.string ⟨b4.text.toArray⟩,.int .i64 b4.num,.slice ao4 n4 c4] 24)
     have S6a:=S6.alloc (.cells #[.int .i64 b4.kind,.string ⟨b4.text.toArray⟩,.int .i64 b4.num,.slice ao4 n4 c4] 24)
     go_wp2_with (at_builtin; refine wpList_joinG (by rfl) _ _ (by rfl) (by rfl) (by rfl) C6a.own Ob ⟨.inr (by simp; omega),by simp; omega⟩ (by simp; omega) (by simp) ?_)
     intro aoc cc wc hOc hgc
     have Sc:=S6a.grown hgc (fun q hq => by have:=(lo3 q hq).1; omega)
     have Bc:=C6a.grown hgc
     obtain ⟨z0,z1,z2,z3,zf⟩:=cells_of_blk Bc
     have zf2:=zf 2
     have zf3:=zf 3
     clear zf q0 q1 q2 q3 qf2 qf3 r0 r1 r2 r3
     have hpx:=((Put.refl mm wc).setCell 2 (.int .i64 1)).setCell 3 (.slice aoc 2 cc)
     have S7p:=Sc.put hpx (by omega)
     have C7p : CBox X w ((wc.setCell ⟨mm,2,none⟩ (.int .i64 1)).setCell ⟨mm,3,none⟩ (.slice aoc 2 cc)) mm Z 1 (.slice aoc 2 cc) [wh,b4]:=⟨(heap_setCell_same _ mm 3 _ (heap_setCell_same wc mm 2 _ Bc)).trans rfl,lm,hOc.later (by rw [hpx.size]; exact Nat.le_refl _) (fun b h1 _ => hpx.block b h1.2)⟩
     clear hgc hOc Ob C6a Bc
     go_wp2_with fail
     clear z0 z1 z2 z3 zf2 zf3
     generalize ((wc.setCell ⟨mm,2,none⟩ (.int .i64 1)).setCell ⟨mm,3,none⟩ (.slice aoc 2 cc)) = w7 at *
     have k0:=S7p.par.plt
     go_wp2_with fail
     refine (need_yes X w7 j false S7p.par [58] (by decide) Ecol.out).mono ?_
     rintro e w8 ⟨rfl,hb8,H8⟩
     have S8:=S7p.call hb8 H8
     have C8:=C7p.call S7p hR0 hb8
     have lt8:=H8.lt
     have En8:=Lib.hid (needR_yes Ecol.out)
     have cI:=is_any X w8 (j + 1) false S8.par [93]
     cases hm9 : isM X.l (j + 1) [93] with
     | true =>
      rw [hm9] at cI
      have E9:=Lib.hid hm9
      clear hm9
      go_wp2_with fail
      refine cI.mono ?_
      rintro e w9 ⟨rfl,hb9⟩
      have S9:=S8.below hb9
      have C9:=C8.below hb9
      clear cI
      obtain ⟨q0,q1,q2,q3,_⟩:=cells_of_blk C9.blk
      have HR : Hid (partR X.l (ps X.l n) wh i = .ok (.mk 50 [] 1 [wh,b4]) (j + 1)):=by simp [Hid,partR,cutR,Res.bind,E3.out,E4.out,Ecol.out,En8.out,E9.out]
      obtain ⟨u0,u1,u2,u3,b0,b1,b2,b3,bf⟩:=S9.box.open
      have bf0:=bf 0
      have bf1:=bf 1
      have bf2:=bf 2
      have bf3:=bf 3
      clear bf
      go_wp2
      obtain ⟨Wf,hWf,hput,_,d0,d1,d2,d3⟩:=putN4 S9.box (.int .i64 50) (.string ⟨([] : List UInt8).toArray⟩) (.int .i64 1) (.slice aoc 2 cc)
      rw [hWf]
      exact bodyPost_ret (v:=.agg #[.int .i64 50,.string ⟨([] : List UInt8).toArray⟩,.int .i64 1,.slice aoc 2 cc]) (by simp [results,Tryz.results219,go_sem,d0,d1,d2,d3]) rfl (OutS.of HR (S9.doneS hwB hZ (C9.own.kt 50 [] 1) hput (by omega)))
     | false =>
      rw [hm9] at cI
      have E9:=Lib.hid hm9
      clear hm9
      go_wp2_with fail
      refine cI.mono ?_
      rintro e w9 ⟨rfl,hb9⟩
      have S9:=S8.below hb9
      have C9:=C8.below hb9
      clear cI
      generalize (Value.slice aoc 2 cc) = Vq at *
      have cB:=expression_any X n A w9.drew (j + 1) false S9.drew.par (by omega)
      obtain ⟨q0,q1,q2,q3,qf⟩:=cells_of_blk C9.blk
      have qf2:=qf 2
      have qf3:=qf 3
      clear qf
      have hwr2 : IntKind.i64.wrap 2 = 2:=by rw [IntKind.wrap_i64]; rfl
      have hwr3 : IntKind.i64.wrap 3 = 3:=by rw [IntKind.wrap_i64]; rfl
      have lo9:=C9.own.lt
      have l9:=S9.lt
      have m9:=lt_of_block C9.blk
      have b9:=S9.par.bnd
      have zr:=S9.plt
      go_wp2_with fail
      go_region_law (first
        | (go_simp; go_at_call 209; refine cB.mono ?_; rintro e wa ⟨hba,hra⟩; rcases Res.or (exprR (ps X.l n) false (j + 1)) with ⟨j,hp⟩ | ⟨r,j,hp⟩
           · (rw [hp] at hra; obtain ⟨rfl,ha,Ha⟩:=hra; have HR : Hid (partR X.l (ps X.l n) wh i = .bad j):=(by simp [Hid,partR,cutR,Res.bind,E3.out,E4.out,Ecol.out,En8.out,E9.out,hp]); exact ⟨rfl,OutS.of HR (S9.drew.badS hwB hba Ha)⟩)
           rw [hp] at hra
           obtain ⟨ija,Ha,sla,rfl,hka⟩:=hra
           obtain ⟨aoa,na,ca,rfl⟩:=hka.slice
           have Ea:=Lib.hid hp
           have Sa:=S9.drew.call hba Ha
           have Ca:=C9.drew.call S9.drew hR0 hba
           have za:=hba.size
           have zd : w9.drew.heap.size = w9.heap.size:=rfl
           have bda:=Ha.bnd
           have Ob:=OwnG.made (w:=wa) (R:=fun b => ((Z b ∨ w.heap.size + 2 ≤ b) ∧ b ≠ mm) ∧ some b ≠ (Vq).ownBlock) (ts:=[r]) (sls:=[.slice aoa na ca]) (B:=0) (Nat.zero_le _) (by simp only [KL]; exact ⟨_,_,rfl,hka.fr (Fr.refl _ _) (fun b hb => ⟨⟨⟨.inr (by omega),by omega⟩,fun e => by have:=(lo9 b e.symm).2; omega⟩,hb.2⟩),rfl⟩) ⟨⟨.inr (by omega),by omega⟩,fun e => by have:=(lo9 _ e.symm).2; omega⟩ rfl (by simp)
           have Cb:=Ca.alloc (.cells #[.int .i64 r.kind,.string ⟨r.text.toArray⟩,.int .i64 r.num,.slice aoa na ca] 24)
           have Sb:=Sa.alloc (.cells #[.int .i64 r.kind,.string ⟨r.text.toArray⟩,.int .i64 r.num,.slice aoa na ca] 24)
           obtain ⟨y0,y1,y2,y3,yf⟩:=cells_of_blk Ca.blk
           have yf2:=yf 2
           have yf3:=yf 3
           have ym:=lt_of_block Ca.blk
           have yn : mm ≠ wa.heap.size:=Nat.ne_of_lt ym
           have yn2 : wa.heap.size ≠ mm:=fun e => yn e.symm
           clear yf hp)
        | (refine step_joinG (by rfl) _ _ (by rfl) (by rfl) (by rfl) Cb.own Ob ?_ ?_ ?_ ?_
           · exact ⟨.inr (by simp; omega),by simp; omega⟩
           · simp; omega
           · simp
           intro aoc cc wc hOc hgc
           have Sc:=Sb.grown hgc (fun q hq => by have:=(lo9 q hq).1; omega)
           have Bc:=Cb.grown hgc
           obtain ⟨z0,z1,z2,z3,zf⟩:=cells_of_blk Bc
           have zf2:=zf 2
           have zf3:=zf 3
           have zmc:=lt_of_block Bc
           clear zf))
      all_goals
       have hpx:=((Put.refl mm wc).setCell 2 (.int .i64 3)).setCell 3 (.slice aoc 3 cc)
       have Sd:=Sc.put hpx (by have:=C9.lt; omega)
       have KTd:=(hOc.kt 50 [] 3).fr (w':=((wc.setCell ⟨mm,2,none⟩ (.int .i64 3)).setCell ⟨mm,3,none⟩ (.slice aoc 3 cc))) (S':=fun b => ((Z b ∨ w.heap.size + 2 ≤ b) ∧ b ≠ mm) ∧ b < ((wc.setCell ⟨mm,2,none⟩ (.int .i64 3)).setCell ⟨mm,3,none⟩ (.slice aoc 3 cc)).heap.size) (fun b hb => hpx.block b hb.1.2) (fun b hb => ⟨hb.1,by rw [hpx.size]; exact hb.2⟩)
       have zz : ((wc.setCell ⟨mm,2,none⟩ (.int .i64 3)).setCell ⟨mm,3,none⟩ (.slice aoc 3 cc)).heap[mm]? = some (.cells #[.int .i64 50,.string ⟨([] : List UInt8).toArray⟩,.int .i64 3,.slice aoc 3 cc] 24 (0,0)):=(heap_setCell_same _ mm 3 _ (heap_setCell_same wc mm 2 _ Bc)).trans rfl
       clear z0 z1 z2 z3 zf2 zf3 hgc hOc Bc y0 y1 y2 y3 yf2 yf3 q0 q1 q2 q3 qf2 qf3 Ob Cb
       generalize ((wc.setCell ⟨mm,2,none⟩ (.int .i64 3)).setCell ⟨mm,3,none⟩ (.slice aoc 3 cc)) = wd at *
       obtain ⟨z0,z1,z2,z3,_⟩:=cells_of_blk zz
       have HR : Hid (partR X.l (ps X.l n) wh i = .ok (.mk 50 [] 3 [wh,b4,r]) j):=by simp [Hid,partR,cutR,Res.bind,E3.out,E4.out,Ecol.out,En8.out,E9.out,Ea.out]
       obtain ⟨u0,u1,u2,u3,b0,b1,b2,b3,bf⟩:=Sd.box.open
       have bf0:=bf 0
       have bf1:=bf 1
       have bf2:=bf 2
       have bf3:=bf 3
       clear bf
       go_wp2
       obtain ⟨Wf,hWf,hput,_,d0,d1,d2,d3⟩:=putN4 Sd.box (.int .i64 50) (.string ⟨([] : List UInt8).toArray⟩) (.int .i64 3) (.slice aoc 3 cc)
       rw [hWf]
       exact bodyPost_ret (v:=.agg #[.int .i64 50,.string ⟨([] : List UInt8).toArray⟩,.int .i64 3,.slice aoc 3 cc]) (by simp [results,Tryz.results219,go_sem,d0,d1,d2,d3]) rfl (OutS.of HR (Sd.doneS hwB hZ KTd hput (by omega)))
end Go.Proofs.YtffnaknidofobaaGreatDoor
