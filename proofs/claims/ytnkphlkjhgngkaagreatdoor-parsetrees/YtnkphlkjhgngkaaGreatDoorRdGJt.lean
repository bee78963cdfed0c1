/- The document's reader: block. -/
import Derived.Test.YtnkphlkjhgngkaaGreatDoorRdEJt
import Derived.Test.YtnkphlkjhgngkaaGreatDoorRdFJt
namespace Go.Proofs.YtnkphlkjhgngkaaGreatDoor
open Go.RowKit
attribute [local go_sem ↓] Go.wp_at_zero Go.wp_at_succ
/-- 1, if the reader met no fault. -/
def okN (X : Px) (w : World) : Nat:=match w.cell? ⟨X.P,2,none⟩ with
  | some (.bool true) => 0
  | _ => 1
theorem Rdr.ok {X : Px} {w : World} {s : Sg} {h : Bool} (H : Rdr X w s h) : okN X w = if s.2 then 0 else 1:=by
 have:=H.c2
 cases e : s.2 <;> simp [okN,this,e]
theorem up_not {s s' : Sg} (u : Up s s') (h : s'.2 = false) : s.2 = false:=by
 cases e : s.2
 · rfl
 · rw [u.bad e] at h; cases h
theorem need_on {X : Px} {m : List UInt8} {s s' : Sg} (e : needV X.l m s = s') (hm : m ≠ []) (hl : s.1 ≤ X.toks.length) (h : s'.2 = false) : mS X.toks.length s' + 3 ≤ mS X.toks.length s:=by
 cases hv : isV X.l s m with
 | true =>
  have ha:=isV_at hm hv hl
  rw [← e,needV,if_pos hv]; exact mS_step ha.1 ha.2
 | false => rw [← e,needV,hv] at h; simp [badV] at h
theorem stmsV_bad {l : List Tk} {p : Vs} {f : Nat} {acc : List Tr} {k : Sg} (hf : 0 < f) (hb : k.2 = true) : stmsV l p f acc k = (acc,k):=by
 match f,hf with
 | f + 1,_ => simp [stmsV,hb]
theorem stmsV_stop {l : List Tk} {p : Vs} {f : Nat} {acc : List Tr} {k : Sg} (hf : 0 < f) (hb : k.2 = false) (hm : isV l k [125] = true) : stmsV l p f acc k = (acc,stepV k):=by
 match f,hf with
 | f + 1,_ => simp [stmsV,hb,takeV,hm,bindV]
theorem stmsV_step {l : List Tk} {p : Vs} {f : Nat} {acc : List Tr} {k j : Sg} {t : Tr} (hb : k.2 = false) (hm : isV l k [125] = false) (hp : stmV l p k = (t,j)) : stmsV l p (f + 1) acc k = stmsV l p f (acc ++ [t]) j:=by
 simp [stmsV,hb,takeV,hm,bindV,hp]
theorem stmsV_on {l : List Tk} {p : Vs} {f : Nat} {acc : List Tr} {k j : Sg} {t : Tr} {R : List Tr × Sg} (hf : l.length - k.1 < f) (hb : k.2 = false) (hm : isV l k [125] = false) (hp : stmV l p k = (t,j)) (hs : Su k j) (hR : stmsV l p f acc k = R) (hj : j.1 < l.length) :
    ∃ f2,Hid (l.length - j.1 < f2 ∧ stmsV l p f2 (acc ++ [t]) j = R) ∧ (j.2 = false → k.1 < j.1):=by
  match f,hf with
  | f + 1,hf =>
   rw [stmsV_step hb hm hp] at hR
   rcases hs.on with e | e
   · refine ⟨l.length + 1,⟨by omega,?_⟩,fun h => by rw [h] at e; cases e⟩
     rw [← hR,stmsV_bad (by omega) e]
     cases f with
     | zero => exfalso; have:=hs.up.at_; omega
     | succ f => rw [stmsV_bad (by omega) e]
   · exact ⟨f,⟨by omega,hR⟩,fun _ => e⟩
set_option maxRecDepth 20000 in
set_option maxHeartbeats 4000000 in
theorem rblock_any (X : Px) (n : Nat) (w : World) (s : Sg) (h : Bool) (H : Rdr X w s h) (B : StmR X n) (hn : mS X.toks.length s + 1 ≤ n + 1) :
    Calls Tryz.prog 44 #[X.p] w (OutR X w h (blkV X.l (vs X.l n) s)):=by
  obtain ⟨W0,hW0,S0⟩:=Sd.first H
  go_enter Tryz.func44,Tryz.ntmps44
  go_wp2_with fail
  refine (rnode_any 20 [] _ _ _ _).mono ?_
  rintro e w1 ⟨rfl,hd1⟩
  have hb1 : But X.P W0.heap.size W0 w1:=But.of_below hd1
  have H1:=S0.rdr.below hd1 (Nat.le_refl _)
  clear hd1
  have S1:=S0.call hb1 H1
  have Tt1:=Tre.leaf w w1 20 [] 0 none 0
  have Nn_2:=NBox.new (X:=X) (k:=20) (s:=[]) (num:=0) (OwnL.nil w1 _) S1.lt
  have hb3:=but_alloc w1 X.P (.cells #[.int .i64 20,.string ⟨([] : List UInt8).toArray⟩,.int .i64 0,.slice none 0 0] 24)
  have H3:=S1.rdr.alloc (.cells #[.int .i64 20,.string ⟨([] : List UInt8).toArray⟩,.int .i64 0,.slice none 0 0] 24)
  have S3:=S1.call hb3 H3
  have c3:=S3.rdr.c3
  have cA4:=S3.rdr.c3
  have fA4:=S3.rdr.fz 3
  have H4:=S3.rdr.head false
  have hb4:=but_set (w1.alloc (.cells #[.int .i64 20,.string ⟨([] : List UInt8).toArray⟩,.int .i64 0,.slice none 0 0] 24)) X.P (w1.alloc (.cells #[.int .i64 20,.string ⟨([] : List UInt8).toArray⟩,.int .i64 0,.slice none 0 0] 24)).heap.size 3 (.bool false)
  have S4:=S3.call hb4 H4
  have Nn_4:=Nn_2.mv S3 hb4
  go_wp2_with fail
  refine (rneed_any X ((w1.alloc (.cells #[.int .i64 20,.string ⟨([] : List UInt8).toArray⟩,.int .i64 0,.slice none 0 0] 24)).setCell ⟨X.P,3,none⟩ (.bool false)) s false S4.rdr [123] (by decide)).mono ?_
  rintro e w5 ⟨rfl,hb5,H5⟩
  obtain ⟨s5,hs5⟩ : ∃ z,needV X.l [123] s = z:=⟨_,rfl⟩
  rw [hs5] at H5
  have u5 : Up s s5:=hs5 ▸ (su_need X.l [123] s).up
  have q5:=u5.mS (n:=X.toks.length)
  have a5:=u5.at_
  have E5:=Lib.hid hs5
  clear hs5
  have S5:=S4.call hb5 H5
  have Nn_5:=Nn_4.mv S4 hb5
  generalize hmmn : w1.heap.size = mn at *
  clear hmmn
  obtain ⟨R,hR⟩ : ∃ z,stmsV X.l (vs X.l n) (X.l.length + 1) [] s5 = z:=⟨_,rfl⟩
  have ER:=Lib.hid hR
  have HL:=Lib.hid hR
  clear hR
  have hU0:=Up.refl s5
  have hgo : s5.2 = false → mS X.toks.length s5 + 3 ≤ mS X.toks.length s:=need_on E5.out (by decide) H.le
  go_wp2_with fail
  go_loopw [15] (fun _ wr => ∃ (k : Sg) (fu : Nat) (acc : List Tr) (ao : Option Addr) (cv : Nat),NBox X w wr mn 20 [] 0 (.slice ao acc.length cv) acc ∧ Sd X w wr k false ∧ (acc.length ≤ k.1 - s5.1 + 1 ∧ (k.2 = false → acc.length ≤ k.1 - s5.1) ∧ Up s5 k) ∧ Hid (X.l.length - k.1 < fu ∧ stmsV X.l (vs X.l n) fu acc k = R)) (fun _ wr => 2 * (X.l.length - posR X wr) + okN X wr)
  case atStart => exact ⟨s5,X.l.length + 1,[],none,0,Nn_5,S5,⟨by simp,by simp,hU0⟩,by omega,HL.out⟩
  case round =>
   obtain ⟨k,fu,acc,ao,cv,NK,SK,⟨hik,him,hUk⟩,HF⟩:=hrel
   have qk:=hUk.mS (n:=X.toks.length)
   have ak:=hUk.at_
   have bk:=SK.rdr.bnd
   clear HL Nn_5 S5
   cases hbd : k.2 with
   | true =>
    have HB:=Lib.hid hbd
    have EL : Hid (R = (acc,k)):=Lib.hid (HF.out.2.symm.trans (stmsV_bad (by have:=HF.out.1; omega) hbd))
    clear hbd HF
    have c2:=SK.rdr.c2
    rw [HB.out] at c2
    have cA6:=SK.rdr.c3
    have fA6:=SK.rdr.fz 3
    have H6:=SK.rdr.head h
    have hb6:=but_set wr X.P wr.heap.size 3 (.bool h)
    have S6:=SK.call hb6 H6
    have Nn_6:=NK.mv SK hb6
    obtain ⟨zv70,zv71,zv72,zv73,zv7f⟩:=Nn_6.cells
    have zv7g0:=zv7f 0
    have zv7g1:=zv7f 1
    have zv7g2:=zv7f 2
    have zv7g3:=zv7f 3
    clear zv7f
    have Tt7:=Nn_6.tre
    have HR : Hid (blkV X.l (vs X.l n) s = ((.mk 20 [] 0 acc),k)):=Lib.hid (by simp [blkV,bindV,E5.out,ER.out,EL.out])
    obtain ⟨y0,y1,y2,y3,b0,b1,b2,b3,bf⟩:=S6.box.open
    have bf0:=bf 0
    have bf1:=bf 1
    have bf2:=bf 2
    have bf3:=bf 3
    clear bf
    go_wp2
    obtain ⟨Wf,hWf,hput,_,d0,d1,d2,d3⟩:=putN4 S6.box (.int .i64 20) (.string ⟨([] : List UInt8).toArray⟩) (.int .i64 0) (.slice ao acc.length cv)
    rw [hWf]
    exact bodyPost_ret (v:=.agg #[.int .i64 20,.string ⟨([] : List UInt8).toArray⟩,.int .i64 0,.slice ao acc.length cv]) (by simp [results,Tryz.results44,go_sem,d0,d1,d2,d3]) rfl (OutR.of HR (S6.done Tt7 hput))
   | false =>
    have HB:=Lib.hid hbd
    have him2:=him hbd
    have hgk:=hgo (up_not hUk hbd)
    clear hbd him
    have c2:=SK.rdr.c2
    rw [HB.out] at c2
    cases hm : isV X.l k [125] with
    | true =>
     have EL : Hid (R = (acc,stepV k)):=Lib.hid (HF.out.2.symm.trans (stmsV_stop (by have:=HF.out.1; omega) HB.out hm))
     have c:=rtake_yes X wr k false SK.rdr [125] (by decide) hm
     clear hm HF
     go_wp2_with fail
     refine c.mono ?_
     rintro e wy ⟨rfl,hby,Hy⟩
     clear c
     have Sy:=SK.call hby Hy
     have Ny:=NK.mv SK hby
     have cA9:=Sy.rdr.c3
     have fA9:=Sy.rdr.fz 3
     have H9:=Sy.rdr.head h
     have hb9:=but_set wy X.P wy.heap.size 3 (.bool h)
     have S9:=Sy.call hb9 H9
     have Nn_9:=Ny.mv Sy hb9
     obtain ⟨zv100,zv101,zv102,zv103,zv10f⟩:=Nn_9.cells
     have zv10g0:=zv10f 0
     have zv10g1:=zv10f 1
     have zv10g2:=zv10f 2
     have zv10g3:=zv10f 3
     clear zv10f
     have Tt10:=Nn_9.tre
     have HR : Hid (blkV X.l (vs X.l n) s = ((.mk 20 [] 0 acc),(stepV k))):=Lib.hid (by simp [blkV,bindV,E5.out,ER.out,EL.out])
     obtain ⟨y0,y1,y2,y3,b0,b1,b2,b3,bf⟩:=S9.box.open
     have bf0:=bf 0
     have bf1:=bf 1
     have bf2:=bf 2
     have bf3:=bf 3
     clear bf
     go_wp2
     obtain ⟨Wf,hWf,hput,_,d0,d1,d2,d3⟩:=putN4 S9.box (.int .i64 20) (.string ⟨([] : List UInt8).toArray⟩) (.int .i64 0) (.slice ao acc.length cv)
     rw [hWf]
     exact bodyPost_ret (v:=.agg #[.int .i64 20,.string ⟨([] : List UInt8).toArray⟩,.int .i64 0,.slice ao acc.length cv]) (by simp [results,Tryz.results44,go_sem,d0,d1,d2,d3]) rfl (OutR.of HR (S9.done Tt10 hput))
    | false =>
     have HM:=Lib.hid hm
     have c:=rtake_no X wr k false SK.rdr [125] hm
     clear hm
     go_wp2_with fail
     refine c.mono ?_
     rintro e wy ⟨rfl,hby,Hy⟩
     clear c
     have Sy:=SK.call hby Hy
     have Ny:=NK.mv SK hby
     have cB:=B wy.drew k Sy.drew.rdr (by omega)
     have v11:=su_stm (l:=X.l) (upV X.l n) k
     rcases hs11 : stmV X.l (vs X.l n) k with ⟨t11,s11⟩
     rw [hs11] at cB v11
     have u11:=v11.up
     have q11:=u11.mS (n:=X.toks.length)
     have a11:=u11.at_
     have E11:=Lib.hid hs11
     clear hs11
     have sb11:=Sy.lt
     obtain ⟨zq110,zq111,zq112,zq113,zq11f⟩:=Ny.cells
     have zq11g0:=zq11f 0
     have zq11g1:=zq11f 1
     have zq11g2:=zq11f 2
     have zq11g3:=zq11f 3
     clear zq11f
     go_wp2_with fail
     clear zq110 zq111 zq112 zq113 zq11g0 zq11g1 zq11g2 zq11g3
     generalize (Value.slice ao acc.length cv) = V11 at *
     have lo11:=OwnL.lt Ny.own.own
     obtain ⟨zr110,zr111,zr112,zr113,zr11f⟩:=Ny.cells
     have zr11g0:=zr11f 0
     have zr11g1:=zr11f 1
     have zr11g2:=zr11f 2
     have zr11g3:=zr11f 3
     clear zr11f
     have ln11 : acc.length ≤ 500000:=by omega
     go_region_law (first
       | (go_simp; go_at_call 77; refine cB.mono ?_; rintro e w11 ⟨hb11,H11,sl11,rfl,hk11⟩; obtain ⟨ao11,n11,p11,rfl⟩:=hk11.slice
          have S11a:=Sy.drew.call hb11 H11
          have N11a:=Ny.drew.mv Sy.drew hb11
          have lz11:=hb11.size
          have ld11 : (wy).drew.heap.size = (wy).heap.size:=rfl
          have bd11:=H11.bnd
          have lm11:=Ny.ltz
          have hO11:=OwnQ.of (Q:=fun b => b ≠ mn) (OwnL.one (B:=(wy).heap.size) lz11 hk11 (Nat.le_refl _) (Nat.le_refl _)) (fun b hb _ => by omega)
          have N11b:=N11a.alloc (.cells #[.int .i64 t11.kind,.string ⟨t11.text.toArray⟩,.int .i64 t11.num,.slice ao11 n11 p11] 24)
          have S11b:=S11a.alloc (.cells #[.int .i64 t11.kind,.string ⟨t11.text.toArray⟩,.int .i64 t11.num,.slice ao11 n11 p11] 24)
          obtain ⟨y110,y111,y112,y113,y11f⟩:=N11a.cells
          have y11g:=y11f 3
          have ym11:=N11a.ltz
          have yn11 : mn ≠ w11.heap.size:=Nat.ne_of_lt ym11
          have yo11 : w11.heap.size ≠ mn:=fun e => yn11 e.symm
          clear y11f)
       | (refine step_join (by rfl) _ _ (by rfl) (by rfl) (by rfl) N11b.own hO11 ?_ ?_ ?_ ?_ ?_ ?_
          · first | omega | (simp; omega)
          · omega
          · first | omega | (simp; omega)
          · exact fun q hq => (lo11 q hq).2
          · first | omega | (simp; omega)
          intro ao11c c11c w11c hO11c hg11c
          generalize hL11 : (acc : List Tr).length + ([t11] : List Tr).length = L11 at *
          have S11c:=S11b.grown hg11c (fun q hq => (lo11 q hq).1)
          have B11c:=N11b.grown hg11c
          obtain ⟨x110,x111,x112,x113,x11f⟩:=cells_of_blk B11c
          have x11g:=x11f 3
          clear x11f))
     all_goals
      have S11d:=S11c.put ((Put.refl (mn) w11c).setCell 3 (.slice ao11c L11 c11c)) Ny.lt
      have N11d : NBox X w (w11c.setCell ⟨mn,3,none⟩ (.slice ao11c L11 c11c)) (mn) 20 [] 0 (.slice ao11c L11 c11c) ((acc ++ [t11])):=NBox.setKids (X:=X) B11c Ny.lt hO11c
      clear x110 x111 x112 x113 x11g
      generalize w11c.setCell ⟨mn,3,none⟩ (.slice ao11c L11 c11c) = w11d at *
      have hXl:=X.length
      have hlj:=S11d.rdr.le
      have hLn : (acc ++ [t11]).length = acc.length + 1:=by simp
      have hVL : L11 = (acc ++ [t11]).length:=by rw [hLn,← hL11]; rfl
      have hon : X.l.length - s11.1 < fu - 1 ∨ s11.2 = true:=by rcases v11.on with e | e; exact .inr e; exact .inl (by have:=HF.out.1; omega)
      obtain ⟨fu2,HX,hb2⟩ : ∃ fu2,Hid (X.l.length - s11.1 < fu2 ∧ stmsV X.l (vs X.l n) fu2 (acc ++ [t11]) s11 = R) ∧ (s11.2 = false → k.1 < s11.1):=stmsV_on HF.out.1 HB.out HM.out E11.out v11 HF.out.2 (by omega)
      clear HF hon hXl
      go_wp2
      go_roundw
      case rel => exact ⟨s11,fu2,acc ++ [t11],ao11c,c11c,hVL ▸ N11d,S11d,⟨by omega,fun e => by have:=hb2 e; omega,hUk.trans v11.up⟩,HX⟩
      case measure => rw [S11d.rdr.pos,SK.rdr.pos,S11d.rdr.ok,SK.rdr.ok,X.length,HB.out]; rcases v11.on with e | e; (rw [e]; simp; omega); (split <;> simp <;> omega)
end Go.Proofs.YtnkphlkjhgngkaaGreatDoor

namespace Go.Proofs.YtnkphlkjhgngkaaGreatDoor
open Go.RowKit
attribute [local go_sem ↓] Go.wp_at_zero Go.wp_at_succ
section
variable {X : Px} {w W W' : World} {m : Nat} {s : Sg} {h : Bool} {t : Tr} {ao : Option Addr} {nn c : Nat}
theorem Held.newD (S : Sd X w W s h) (T : Tre w W t (.slice ao nn c)) : Held X w (W.alloc (.cells #[.int .i64 t.kind,.string ⟨t.text.toArray⟩,.int .i64 t.num,.slice ao nn c] 24)) W.heap.size t ao nn c :=
  ⟨heap_alloc_new W _,S.lt,KT.fr T (fun b hb => Below.heap_alloc W _ b hb.2) (fun b hb => ⟨⟨hb.1,by simp; omega⟩,by omega⟩)⟩
theorem Held.mv (T : Held X w W m t ao nn c) (S : Sd X w W s h) (hb : But X.P W.heap.size W W') : Held X w W' m t ao nn c :=
  T.later hb.size (fun b h1 h2 => hb.block b h2 (by have:=S.plt; omega))
end
set_option maxRecDepth 20000 in
set_option maxHeartbeats 1600000 in
theorem rcond_any (X : Px) (n : Nat) (A : GoodR X n) (w : World) (s : Sg) (h : Bool) (H : Rdr X w s h) (hn : mS X.toks.length s + 2 ≤ n) :
    Calls Tryz.prog 112 #[X.p] w (OutR X w false (exprV (vs X.l n) true s)):=by
  obtain ⟨W0,hW0,S0⟩:=Sd.first H
  go_enter Tryz.func112,Tryz.ntmps112
  have cA1:=S0.rdr.c3
  have fA1:=S0.rdr.fz 3
  have H1:=S0.rdr.head true
  have hb1:=but_set W0 X.P W0.heap.size 3 (.bool true)
  have S1:=S0.call hb1 H1
  have c2:=rexpr_any X n A (W0.setCell ⟨X.P,3,none⟩ (.bool true)) s true S1.rdr hn
  have u2:=up_expr (upV X.l n) true s
  rcases hs2 : exprV (vs X.l n) true s with ⟨t2,s2⟩
  rw [hs2] at c2 u2
  have q2:=u2.mS (n:=X.toks.length)
  have a2:=u2.at_
  have E2:=Lib.hid hs2
  clear hs2
  go_wp2_with fail
  refine c2.mono ?_
  rintro e w2 ⟨hb2,H2,sl2,rfl,hk2⟩
  obtain ⟨ao2,n2,p2,rfl⟩:=hk2.slice
  have Tt2:=Tre.newD S1 hk2
  clear c2 hk2
  have S2:=S1.call hb2 H2
  have Dn_3:=Held.newD S2 Tt2
  have hb4:=but_alloc w2 X.P (.cells #[.int .i64 t2.kind,.string ⟨t2.text.toArray⟩,.int .i64 t2.num,.slice ao2 n2 p2] 24)
  have H4:=S2.rdr.alloc (.cells #[.int .i64 t2.kind,.string ⟨t2.text.toArray⟩,.int .i64 t2.num,.slice ao2 n2 p2] 24)
  have S4:=S2.call hb4 H4
  have cA5:=S4.rdr.c3
  have fA5:=S4.rdr.fz 3
  have H5:=S4.rdr.head false
  have hb5:=but_set (w2.alloc (.cells #[.int .i64 t2.kind,.string ⟨t2.text.toArray⟩,.int .i64 t2.num,.slice ao2 n2 p2] 24)) X.P (w2.alloc (.cells #[.int .i64 t2.kind,.string ⟨t2.text.toArray⟩,.int .i64 t2.num,.slice ao2 n2 p2] 24)).heap.size 3 (.bool false)
  have S5:=S4.call hb5 H5
  have Dn_5:=Dn_3.mv S4 hb5
  obtain ⟨zv60,zv61,zv62,zv63,zv6f⟩:=Dn_5.cells
  have zv6g0:=zv6f 0
  have zv6g1:=zv6f 1
  have zv6g2:=zv6f 2
  have zv6g3:=zv6f 3
  clear zv6f
  have Tt6:=Dn_5.out
  obtain ⟨y0,y1,y2,y3,b0,b1,b2,b3,bf⟩:=S5.box.open
  have bf0:=bf 0
  have bf1:=bf 1
  have bf2:=bf 2
  have bf3:=bf 3
  clear bf
  go_wp2
  obtain ⟨Wf,hWf,hput,_,d0,d1,d2,d3⟩:=putN4 S5.box (.int .i64 t2.kind) (.string ⟨t2.text.toArray⟩) (.int .i64 t2.num) (.slice ao2 n2 p2)
  rw [hWf]
  exact bodyPost_ret (v:=.agg #[.int .i64 t2.kind,.string ⟨t2.text.toArray⟩,.int .i64 t2.num,.slice ao2 n2 p2]) (by simp [results,Tryz.results112,go_sem,d0,d1,d2,d3]) rfl (S5.done Tt6 hput)
end Go.Proofs.YtnkphlkjhgngkaaGreatDoor
