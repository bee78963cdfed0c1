/- The document's reader: decl. -/
import Derived.Test.YtnkphlkjhgngkaaGreatDoorRdKJt
namespace Go.Proofs.YtnkphlkjhgngkaaGreatDoor
open Go.RowKit
attribute [local go_sem ↓] Go.wp_at_zero Go.wp_at_succ
theorem NBox.len {X : Px} {w W : World} {m a b c : Nat} {ao : Option Addr} {k num : Int} {x : List UInt8} {ts : List Tr} (T : NBox X w W m k x num (.slice ao a c) ts) (h : a = b) : NBox X w W m k x num (.slice ao b c) ts:=h ▸ T
theorem memsV_bad {l : List Tk} {p : Vs} {b : Bool} {f : Nat} {acc : List Tr} {k : Sg} (hf : 0 < f) (hb : k.2 = true) : memsV l p b f acc k = (acc,k):=by
 match f,hf with
 | f + 1,_ => simp [memsV,hb]
theorem memsV_stop {l : List Tk} {p : Vs} {b : Bool} {f : Nat} {acc : List Tr} {k : Sg} (hf : 0 < f) (hb : k.2 = false) (hm : isV l k [125] = true) : memsV l p b f acc k = (acc,stepV k):=by
 match f,hf with
 | f + 1,_ => simp [memsV,hb,takeV,hm,bindV]
theorem memsV_step {l : List Tk} {p : Vs} {b : Bool} {f : Nat} {acc : List Tr} {k j : Sg} {t : Tr} (hb : k.2 = false) (hm : isV l k [125] = false) (hp : memV l p b k = (t,j)) : memsV l p b (f + 1) acc k = memsV l p b f (acc ++ [t]) j:=by
 simp [memsV,hb,takeV,hm,bindV,hp]
theorem memsV_on {l : List Tk} {p : Vs} {b : Bool} {f : Nat} {acc : List Tr} {k j : Sg} {t : Tr} {R : List Tr × Sg} (hf : l.length - k.1 < f) (hb : k.2 = false) (hm : isV l k [125] = false) (hp : memV l p b k = (t,j)) (hs : Su k j) (hR : memsV l p b f acc k = R) (hj : j.1 < l.length) :
    ∃ f2,Hid (l.length - j.1 < f2 ∧ memsV l p b f2 (acc ++ [t]) j = R) ∧ (j.2 = false → k.1 < j.1):=by
  match f,hf with
  | f + 1,hf =>
   rw [memsV_step hb hm hp] at hR
   rcases hs.on with e | e
   · refine ⟨l.length + 1,⟨by omega,?_⟩,fun h => by rw [h] at e; cases e⟩
     rw [← hR,memsV_bad (by omega) e]
     cases f with
     | zero => exfalso; have:=hs.up.at_; omega
     | succ f => rw [memsV_bad (by omega) e]
   · exact ⟨f,⟨by omega,hR⟩,fun _ => e⟩
theorem NBox.mvY {X : Px} {Y W W' : World} {m : Nat} {k num : Int} {x : List UInt8} {V : Value} {ts : List Tr} (T : NBox X Y W m k x num V ts) (hP : X.P ≤ Y.heap.size) (hb : But X.P W.heap.size W W') : NBox X Y W' m k x num V ts :=
  T.later hb.size (fun b h1 h2 => hb.block b h2 (by omega))
theorem leafKT {W : World} {lo hi : Nat} (k : Int) (s : List UInt8) (n : Int) : KT W (Rg lo hi) (.mk k s n []) (.slice none 0 0):=by
 simp only [KT]; exact ⟨[],.inl ⟨rfl,none,0,rfl⟩,by simp [KL]⟩
set_option maxRecDepth 20000 in
set_option maxHeartbeats 8000000 in
theorem rdecl_any (X : Px) (n : Nat) (A : GoodR X n) (w : World) (s : Sg) (h : Bool) (H : Rdr X w s h) (hn : mS X.toks.length s + 1 ≤ n) :
    Calls Tryz.prog 24 #[X.p] w (OutR X w h (declV X.l (vs X.l n) s)):=by
  obtain ⟨W0,hW0,S0⟩:=Sd.first H
  go_enter Tryz.func24,Tryz.ntmps24
  cases hm1 : isV X.l s [116,121,112,101] with
  | true =>
   have hl1:=isV_at (by decide) hm1 S0.rdr.le
   have c1:=rtake_yes X W0 s h S0.rdr [116,121,112,101] (by decide) hm1
   obtain ⟨s1,hs1⟩ : ∃ z,stepV s = z:=⟨_,rfl⟩
   rw [hs1] at c1
   have u1 : Up s s1:=hs1 ▸ (su_step s).up
   have q1 : mS X.toks.length s1 + 3 ≤ mS X.toks.length s:=hs1 ▸ mS_step hl1.1 hl1.2
   have a1 : s.1 + 1 = s1.1:=hs1 ▸ rfl
   have a1a:=Nat.le_of_eq a1
   have a1b:=Nat.le_of_eq a1.symm
   clear a1
   have E1 : Hid (takeV X.l [116,121,112,101] s = (true,s1)):=Lib.hid (by simp [takeV,hm1,hs1])
   clear hm1 hs1 hl1
   go_wp2_with fail
   refine c1.mono ?_
   rintro e w1 ⟨rfl,hb1,H1⟩
   clear c1
   have S1:=S0.call hb1 H1
   have c2:=rname_any X w1 s1 h S1.rdr
   have u2:=(su_name X.l s1).up
   rcases hs2 : nameV X.l s1 with ⟨x2,s2⟩
   rw [hs2] at c2 u2
   replace u2 : Up s1 s2:=u2
   have q2:=u2.mS (n:=X.toks.length)
   have a2:=u2.at_
   have E2:=Lib.hid hs2
   clear hs2
   go_wp2_with fail
   refine c2.mono ?_
   rintro e w2 ⟨rfl,hb2,H2⟩
   clear c2
   have S2:=S1.call hb2 H2
   go_wp2_with fail
   refine (rnode_any 2 x2 _ _ _ _).mono ?_
   rintro e w3 ⟨rfl,hd3⟩
   have hb3 : But X.P w2.heap.size w2 w3:=But.of_below hd3
   have H3:=S2.rdr.below hd3 (Nat.le_refl _)
   clear hd3
   have S3:=S2.call hb3 H3
   have Tt3:=Tre.leaf w w3 2 x2 0 none 0
   have Nn_4:=NBox.new (X:=X) (k:=2) (s:=x2) (num:=0) (OwnL.nil w3 _) S3.lt
   have hb5:=but_alloc w3 X.P (.cells #[.int .i64 2,.string ⟨(x2 : List UInt8).toArray⟩,.int .i64 0,.slice none 0 0] 24)
   have H5:=S3.rdr.alloc (.cells #[.int .i64 2,.string ⟨(x2 : List UInt8).toArray⟩,.int .i64 0,.slice none 0 0] 24)
   have S5:=S3.call hb5 H5
   cases hm6 : isV X.l s2 [105,110,116,101,114,102,97,99,101] with
   | true =>
    have hl6:=isV_at (by decide) hm6 S5.rdr.le
    have c6:=rtake_yes X (w3.alloc (.cells #[.int .i64 2,.string ⟨(x2 : List UInt8).toArray⟩,.int .i64 0,.slice none 0 0] 24)) s2 h S5.rdr [105,110,116,101,114,102,97,99,101] (by decide) hm6
    obtain ⟨s6,hs6⟩ : ∃ z,stepV s2 = z:=⟨_,rfl⟩
    rw [hs6] at c6
    have u6 : Up s2 s6:=hs6 ▸ (su_step s2).up
    have q6 : mS X.toks.length s6 + 3 ≤ mS X.toks.length s2:=hs6 ▸ mS_step hl6.1 hl6.2
    have a6 : s2.1 + 1 = s6.1:=hs6 ▸ rfl
    have a6a:=Nat.le_of_eq a6
    have a6b:=Nat.le_of_eq a6.symm
    clear a6
    have E6 : Hid (takeV X.l [105,110,116,101,114,102,97,99,101] s2 = (true,s6)):=Lib.hid (by simp [takeV,hm6,hs6])
    clear hm6 hs6 hl6
    go_wp2_with fail
    refine c6.mono ?_
    rintro e w6 ⟨rfl,hb6,H6⟩
    clear c6
    have S6:=S5.call hb6 H6
    have Nn_6:=Nn_4.mv S5 hb6
    generalize hmmn : w3.heap.size = mn at *
    clear hmmn
    obtain ⟨zu70,zu71,zu72,zu73,zu7f⟩:=Nn_6.cells
    have zu7g0:=zu7f 0
    have zu7g1:=zu7f 1
    have zu7g2:=zu7f 2
    have zu7g3:=zu7f 3
    clear zu7f
    have hpx8:=(Put.refl (mn) w6).setCell 0 (.int .i64 3)
    have S8:=S6.put hpx8 Nn_6.lt
    have Nn_8:=Nn_6.setKind 3
    go_wp2_with fail
    refine (rneed_any X (w6.setCell ⟨mn,0,none⟩ (.int .i64 3)) s6 h S8.rdr [123] (by decide)).mono ?_
    rintro e w9 ⟨rfl,hb9,H9⟩
    obtain ⟨s9,hs9⟩ : ∃ z,needV X.l [123] s6 = z:=⟨_,rfl⟩
    rw [hs9] at H9
    have u9 : Up s6 s9:=hs9 ▸ (su_need X.l [123] s6).up
    replace u9 : Up s6 s9:=u9
    have q9:=u9.mS (n:=X.toks.length)
    have a9:=u9.at_
    have E9:=Lib.hid hs9
    clear hs9
    have S9:=S8.call hb9 H9
    have Nn_9:=Nn_8.mv S8 hb9
    obtain ⟨R,hR⟩ : ∃ z,memsV X.l (vs X.l n) true (X.l.length + 1) [] s9 = z:=⟨_,rfl⟩
    have ER:=Lib.hid hR
    have HL:=Lib.hid hR
    clear hR
    have hU0:=Up.refl s9
    go_wp2_with fail
    go_loopw [20] (fun _ wr => ∃ (k : Sg) (fu : Nat) (acc : List Tr) (ao : Option Addr) (cv : Nat),NBox X w wr mn 3 x2 0 (.slice ao acc.length cv) acc ∧ Sd X w wr k h ∧ (acc.length ≤ k.1 - s9.1 + 1 ∧ (k.2 = false → acc.length ≤ k.1 - s9.1) ∧ Up s9 k) ∧ Hid (X.l.length - k.1 < fu ∧ memsV X.l (vs X.l n) true fu acc k = R)) (fun _ wr => 2 * (X.l.length - posR X wr) + okN X wr)
    case atStart => exact ⟨s9,X.l.length + 1,[],none,0,Nn_9,S9,⟨by simp,by simp,hU0⟩,by omega,HL.out⟩
    case round =>
     obtain ⟨k,fu,acc,ao,cv,NK,SK,⟨hik,him,hUk⟩,HF⟩:=hrel
     have qk:=hUk.mS (n:=X.toks.length)
     have ak:=hUk.at_
     have bk:=SK.rdr.bnd
     clear HL Nn_9 S9
     cases hbd : k.2 with
     | true =>
      have HB:=Lib.hid hbd
      have EL : Hid (R = (acc,k)):=Lib.hid (HF.out.2.symm.trans (memsV_bad (by have:=HF.out.1; omega) hbd))
      clear hbd HF
      have c2:=SK.rdr.c2
      rw [HB.out] at c2
      obtain ⟨zv100,zv101,zv102,zv103,zv10f⟩:=NK.cells
      have zv10g0:=zv10f 0
      have zv10g1:=zv10f 1
      have zv10g2:=zv10f 2
      have zv10g3:=zv10f 3
      clear zv10f
      have Tt10:=NK.tre
      have HR : Hid (declV X.l (vs X.l n) s = ((.mk 3 x2 0 acc),k)):=Lib.hid (by simp [declV,bindV,E1.out,E2.out,E6.out,E9.out,ER.out,EL.out])
      obtain ⟨y0,y1,y2,y3,b0,b1,b2,b3,bf⟩:=SK.box.open
      have bf0:=bf 0
      have bf1:=bf 1
      have bf2:=bf 2
      have bf3:=bf 3
      clear bf
      go_wp2
      obtain ⟨Wf,hWf,hput,_,d0,d1,d2,d3⟩:=putN4 SK.box (.int .i64 3) (.string ⟨(x2 : List UInt8).toArray⟩) (.int .i64 0) (.slice ao acc.length cv)
      rw [hWf]
      exact bodyPost_ret (v:=.agg #[.int .i64 3,.string ⟨(x2 : List UInt8).toArray⟩,.int .i64 0,.slice ao acc.length cv]) (by simp [results,Tryz.results24,go_sem,d0,d1,d2,d3]) rfl (OutR.of HR (SK.done Tt10 hput))
     | false =>
      have HB:=Lib.hid hbd
      have him2:=him hbd
      clear hbd him
      have c2:=SK.rdr.c2
      rw [HB.out] at c2
      cases hm : isV X.l k [125] with
      | true =>
       have EL : Hid (R = (acc,stepV k)):=Lib.hid (HF.out.2.symm.trans (memsV_stop (by have:=HF.out.1; omega) HB.out hm))
       have c:=rtake_yes X wr k h SK.rdr [125] (by decide) hm
       clear hm HF
       go_wp2_with fail
       refine c.mono ?_
       rintro e wy ⟨rfl,hby,Hy⟩
       clear c
       have Sy:=SK.call hby Hy
       have Ny:=NK.mv SK hby
       obtain ⟨zv110,zv111,zv112,zv113,zv11f⟩:=Ny.cells
       have zv11g0:=zv11f 0
       have zv11g1:=zv11f 1
       have zv11g2:=zv11f 2
       have zv11g3:=zv11f 3
       clear zv11f
       have Tt11:=Ny.tre
       have HR : Hid (declV X.l (vs X.l n) s = ((.mk 3 x2 0 acc),(stepV k))):=Lib.hid (by simp [declV,bindV,E1.out,E2.out,E6.out,E9.out,ER.out,EL.out])
       obtain ⟨y0,y1,y2,y3,b0,b1,b2,b3,bf⟩:=Sy.box.open
       have bf0:=bf 0
       have bf1:=bf 1
       have bf2:=bf 2
       have bf3:=bf 3
       clear bf
       go_wp2
       obtain ⟨Wf,hWf,hput,_,d0,d1,d2,d3⟩:=putN4 Sy.box (.int .i64 3) (.string ⟨(x2 : List UInt8).toArray⟩) (.int .i64 0) (.slice ao acc.length cv)
       rw [hWf]
       exact bodyPost_ret (v:=.agg #[.int .i64 3,.string ⟨(x2 : List UInt8).toArray⟩,.int .i64 0,.slice ao acc.length cv]) (by simp [results,Tryz.results24,go_sem,d0,d1,d2,d3]) rfl (OutR.of HR (Sy.done Tt11 hput))
      | false =>
       have HM:=Lib.hid hm
       have c:=rtake_no X wr k h SK.rdr [125] hm
       clear hm
       go_wp2_with fail
       refine c.mono ?_
       rintro e wa ⟨rfl,hba,Ha⟩
       clear c
       have Sa:=SK.call hba Ha
       have Na:=NK.mv SK hba
       have lsa:=Sa.lt
       have lna:=Na.ltz
       have lpa:=Sa.plt
       have loa:=OwnL.lt Na.own.own
       obtain ⟨Y,hYe⟩ : ∃ Y : World,Y.heap.size + 1 = wa.heap.size:=⟨{ wa with heap:=wa.heap.pop },by simp; omega⟩
       have hY1 : Y.heap.size + 1 ≤ wa.heap.size:=Nat.le_of_eq hYe
       have hY2 : wa.heap.size ≤ Y.heap.size + 1:=Nat.le_of_eq hYe.symm
       clear hYe
       have cN:=rname_any X wa k h Sa.rdr
       have uN:=(su_name X.l k).up
       rcases hsN : nameV X.l k with ⟨xf,s1⟩
       rw [hsN] at cN uN
       replace uN : Up k s1:=uN
       have EN:=Lib.hid hsN
       clear hsN
       go_wp2_with fail
       refine cN.mono ?_
       rintro e w1 ⟨rfl,hb1,H1⟩
       have S1:=Sa.call hb1 H1
       have z1:=hb1.size
       clear cN
       go_wp2_with fail
       refine (rnode_any 6 xf _ _ _ _).mono ?_
       rintro e w2 ⟨rfl,hd2⟩
       have S2:=S1.below hd2
       have z2:=hd2.size
       have F3 : NBox X Y (w2.alloc (.cells #[.int .i64 6,.string ⟨xf.toArray⟩,.int .i64 0,.slice none 0 0] 24)) w2.heap.size 6 xf 0 (.slice none 0 0) []:=NBox.new (X:=X) (OwnL.nil w2 _) (by omega)
       have S3:=S2.alloc (.cells #[.int .i64 6,.string ⟨xf.toArray⟩,.int .i64 0,.slice none 0 0] 24)
       have B3 : But X.P wa.heap.size wa (w2.alloc (.cells #[.int .i64 6,.string ⟨xf.toArray⟩,.int .i64 0,.slice none 0 0] 24)):=(hb1.trans (But.of_below (hd2.mono z1))).alloc (by omega) _
       have N3:=Na.mv Sa B3
       have z3 : (w2.alloc (.cells #[.int .i64 6,.string ⟨xf.toArray⟩,.int .i64 0,.slice none 0 0] 24)).heap.size = w2.heap.size + 1:=by simp
       have z3a:=Nat.le_of_eq z3
       have z3b:=Nat.le_of_eq z3.symm
       clear z3
       obtain ⟨n30,n31,n32,n33,_⟩:=N3.cells
       have qN:=uN.mS (n:=X.toks.length)
       have cT:=rsig_any X n A (w2.alloc (.cells #[.int .i64 6,.string ⟨xf.toArray⟩,.int .i64 0,.slice none 0 0] 24)) s1 h S3.rdr (by omega)
       have uT:=(su_sig (l:=X.l) (upV X.l n) s1).up
       rcases hsT : sigV X.l (vs X.l n) s1 with ⟨tt,s2⟩
       rw [hsT] at cT uT
       replace uT : Up s1 s2:=uT
       have ET:=Lib.hid hsT
       clear hsT
       go_wp2_with fail
       generalize hw3 : w2.alloc (.cells #[.int .i64 6,.string ⟨xf.toArray⟩,.int .i64 0,.slice none 0 0] 24) = w3 at *
       clear hw3
       generalize hmf : w2.heap.size = mf at *
       clear hmf n30 n31 n32 n33
       refine cT.mono ?_
       rintro e w4 ⟨hb4,H4,sl4,rfl,hk4⟩
       obtain ⟨ao4,n4,p4,rfl⟩:=hk4.slice
       clear cT
       have z4:=hb4.size
       have S4:=S3.call hb4 H4
       have F4:=F3.mvY (by omega) hb4
       have B4 : But X.P wa.heap.size wa w4:=B3.trans (hb4.mono (by omega))
       have S5:=S4.alloc (.cells #[.int .i64 tt.kind,.string ⟨tt.text.toArray⟩,.int .i64 tt.num,.slice ao4 n4 p4] 24)
       have F5:=F4.alloc (.cells #[.int .i64 tt.kind,.string ⟨tt.text.toArray⟩,.int .i64 tt.num,.slice ao4 n4 p4] 24)
       have B5 : But X.P wa.heap.size wa (w4.alloc (.cells #[.int .i64 tt.kind,.string ⟨tt.text.toArray⟩,.int .i64 tt.num,.slice ao4 n4 p4] 24)):=B4.alloc (by omega) _
       have L5:=OwnL.one (B:=w3.heap.size) z4 hk4 (Nat.le_refl _) (Nat.le_refl _)
       obtain ⟨f50,f51,f52,f53,f5f⟩:=F5.cells
       have f5g:=f5f 3
       clear f5f
       have lf5:=F4.ltz
       have nf4 : mf ≠ w4.heap.size:=by omega
       have F6:=NBox.setKids (X:=X) F5.blk F5.lt (OwnQ.newD (w:=Y) L5 (by omega) (by omega))
       have S6:=S5.put ((Put.refl mf (w4.alloc (.cells #[.int .i64 tt.kind,.string ⟨tt.text.toArray⟩,.int .i64 tt.num,.slice ao4 n4 p4] 24))).setCell 3 (.slice (some ⟨w4.heap.size,0,none⟩) 1 1)) (by omega)
       have B6 : But X.P wa.heap.size wa ((w4.alloc (.cells #[.int .i64 tt.kind,.string ⟨tt.text.toArray⟩,.int .i64 tt.num,.slice ao4 n4 p4] 24)).setCell ⟨mf,3,none⟩ (.slice (some ⟨w4.heap.size,0,none⟩) 1 1)):=B5.setCell (p:=⟨mf,3,none⟩) (.inr (by simp only; omega)) _
       have z6 : ((w4.alloc (.cells #[.int .i64 tt.kind,.string ⟨tt.text.toArray⟩,.int .i64 tt.num,.slice ao4 n4 p4] 24)).setCell ⟨mf,3,none⟩ (.slice (some ⟨w4.heap.size,0,none⟩) 1 1)).heap.size = w4.heap.size + 1:=by simp
       have z6a:=Nat.le_of_eq z6
       have z6b:=Nat.le_of_eq z6.symm
       clear z6
       have hsw:=World.setCell_alloc_past (w:=w4) (.cells #[.int .i64 tt.kind,.string ⟨tt.text.toArray⟩,.int .i64 tt.num,.slice ao4 n4 p4] 24) mf 3 (.slice (some ⟨w4.heap.size,0,none⟩) 1 1) lf5
       rw [hsw] at F6 S6 B6 z6a z6b
       clear hsw
       obtain ⟨g60,g61,g62,g63,g6f⟩:=F6.cells
       clear g6f
       have cS:=rneed_any X _ s2 h S6.rdr [59] (by decide)
       obtain ⟨j,hj⟩ : ∃ z,needV X.l [59] s2 = z:=⟨_,rfl⟩
       rw [hj] at cS
       have uS : Su s2 j:=hj ▸ su_need X.l [59] s2
       have EM : Hid (memV X.l (vs X.l n) true k = (.mk 6 xf 0 [tt],j)):=Lib.hid (by simp [memV,bindV,EN.out,ET.out,hj])
       clear hj
       go_wp2_with fail
       clear f50 f51 f52 f53 f5g g60 g61 g62 g63
       generalize ((w4.setCell ⟨mf,3,none⟩ (.slice (some ⟨w4.heap.size,0,none⟩) 1 1)).alloc (.cells #[.int .i64 tt.kind,.string ⟨tt.text.toArray⟩,.int .i64 tt.num,.slice ao4 n4 p4] 24)) = w6 at *
       refine cS.mono ?_
       rintro e w7 ⟨rfl,hb7,H7⟩
       clear cS
       have z7:=hb7.size
       have S7:=S6.call hb7 H7
       have F7:=F6.mvY (by omega) hb7
       have B7 : But X.P wa.heap.size wa w7:=B6.trans (hb7.mono (by omega))
       have N7:=Na.mv Sa B7
       have T7 : KT w7 (Rg wa.heap.size w7.heap.size) (.mk 6 xf 0 [tt]) (.slice (some ⟨w4.heap.size,0,none⟩) 1 1):=KT.fr F7.tre (Fr.refl _ _) (fun b hb => ⟨by omega,hb.2⟩)
       have L8 : OwnL (w7.alloc (.cells #[.int .i64 6,.string ⟨xf.toArray⟩,.int .i64 0,.slice (some ⟨w4.heap.size,0,none⟩) 1 1] 24)) wa.heap.size (.slice (some ⟨w7.heap.size,0,none⟩) 1 1) [.mk 6 xf 0 [tt]]:=OwnL.one (B:=wa.heap.size) (by omega) T7 (Nat.le_refl _) (Nat.le_refl _)
       have N8:=N7.alloc (.cells #[.int .i64 6,.string ⟨xf.toArray⟩,.int .i64 0,.slice (some ⟨w4.heap.size,0,none⟩) 1 1] 24)
       have S8:=S7.alloc (.cells #[.int .i64 6,.string ⟨xf.toArray⟩,.int .i64 0,.slice (some ⟨w4.heap.size,0,none⟩) 1 1] 24)
       obtain ⟨n70,n71,n72,n73,n7f⟩:=N7.cells
       have n7g:=n7f 3
       clear n7f
       obtain ⟨f70,f71,f72,f73,_⟩:=F7.cells
       have ln7:=N7.ltz
       generalize hVn : (Value.slice ao acc.length cv) = Vn at *
       clear hVn
       have z8 : (w7.alloc (.cells #[.int .i64 6,.string ⟨xf.toArray⟩,.int .i64 0,.slice (some ⟨w4.heap.size,0,none⟩) 1 1] 24)).heap.size = w7.heap.size + 1:=by simp
       have z8a:=Nat.le_of_eq z8
       have z8b:=Nat.le_of_eq z8.symm
       clear z8
       have bd7:=H7.bnd
       have hxj : k.1 ≤ j.1:=(uN.trans (uT.trans uS.up)).at_
       have bdl : acc.length ≤ 65537:=by omega
       go_wp2_with (at_builtin; refine wpList_joinQ (by rfl) _ _ (by rfl) (by rfl) (by rfl) N8.own (OwnQ.of (Q:=fun b => b ≠ mn) L8 (fun b hb _ => by omega)) (by omega) (by omega) (by omega) (fun q hq => (loa q hq).2) (by first | omega | (simp <;> omega)) ?_)
       intro aoJ cJ wJ hOJ hgJ
       have SJ:=S8.grown hgJ (fun q hq => (loa q hq).1)
       have BJ:=N8.grown hgJ
       obtain ⟨zJ0,zJ1,zJ2,zJ3,zJf⟩:=cells_of_blk BJ
       have zJg:=zJf 3
       clear zJf
       have SE:=SJ.put ((Put.refl mn wJ).setCell 3 (.slice aoJ (acc.length + 1) cJ)) N8.lt
       have NE : NBox X w (wJ.setCell ⟨mn,3,none⟩ (.slice aoJ (acc.length + 1) cJ)) mn 3 x2 0 (.slice aoJ (acc.length + 1) cJ) (acc ++ [.mk 6 xf 0 [tt]]):=NBox.setKids (X:=X) BJ N8.lt hOJ
       have hUj : Su k j:=⟨uN.trans (uT.trans uS.up),(uN.trans uT).then uS |>.on⟩
       have hXl:=X.length
       have hlj:=SE.rdr.le
       have hLn : (acc ++ [Tr.mk 6 xf 0 [tt]]).length = acc.length + 1:=by simp
       have HVL : Hid (acc.length + 1 = (acc ++ [Tr.mk 6 xf 0 [tt]]).length):=Lib.hid hLn.symm
       clear hLn
       obtain ⟨fu2,HX,hb2⟩ : ∃ fu2,Hid (X.l.length - j.1 < fu2 ∧ memsV X.l (vs X.l n) true fu2 (acc ++ [.mk 6 xf 0 [tt]]) j = R) ∧ (j.2 = false → k.1 < j.1):=memsV_on HF.out.1 HB.out HM.out EM.out hUj HF.out.2 (by omega)
       clear HF hXl n70 n71 n72 n73 n7g f70 f71 f72 f73
       go_wp2
       go_roundw
       case rel => exact ⟨j,fu2,acc ++ [.mk 6 xf 0 [tt]],aoJ,cJ,NE.len HVL.out,SE,⟨by have:=HVL.out; omega,fun e => by have:=hb2 e; have:=HVL.out; omega,hUk.trans hUj.up⟩,HX⟩
       case measure => rw [SE.rdr.pos,SK.rdr.pos,SE.rdr.ok,SK.rdr.ok,X.length,HB.out]; rcases hUj.on with e | e; (rw [e]; simp; omega); (split <;> simp <;> omega)
   | false =>
    have c6:=rtake_no X (w3.alloc (.cells #[.int .i64 2,.string ⟨(x2 : List UInt8).toArray⟩,.int .i64 0,.slice none 0 0] 24)) s2 h S5.rdr [105,110,116,101,114,102,97,99,101] hm6
    have E6 : Hid (takeV X.l [105,110,116,101,114,102,97,99,101] s2 = (false,s2)):=Lib.hid (by simp [takeV,hm6])
    clear hm6
    go_wp2_with fail
    refine c6.mono ?_
    rintro e w6 ⟨rfl,hb6,H6⟩
    clear c6
    have S6:=S5.call hb6 H6
    have Nn_6:=Nn_4.mv S5 hb6
    generalize hmmn : w3.heap.size = mn at *
    clear hmmn
    go_wp2_with fail
    refine (rneed_any X w6 s2 h S6.rdr [115,116,114,117,99,116] (by decide)).mono ?_
    rintro e w12 ⟨rfl,hb12,H12⟩
    obtain ⟨s12,hs12⟩ : ∃ z,needV X.l [115,116,114,117,99,116] s2 = z:=⟨_,rfl⟩
    rw [hs12] at H12
    have u12 : Up s2 s12:=hs12 ▸ (su_need X.l [115,116,114,117,99,116] s2).up
    replace u12 : Up s2 s12:=u12
    have q12:=u12.mS (n:=X.toks.length)
    have a12:=u12.at_
    have E12:=Lib.hid hs12
    clear hs12
    have S12:=S6.call hb12 H12
    have Nn_12:=Nn_6.mv S6 hb12
    go_wp2_with fail
    refine (rneed_any X w12 s12 h S12.rdr [123] (by decide)).mono ?_
    rintro e w13 ⟨rfl,hb13,H13⟩
    obtain ⟨s13,hs13⟩ : ∃ z,needV X.l [123] s12 = z:=⟨_,rfl⟩
    rw [hs13] at H13
    have u13 : Up s12 s13:=hs13 ▸ (su_need X.l [123] s12).up
    replace u13 : Up s12 s13:=u13
    have q13:=u13.mS (n:=X.toks.length)
    have a13:=u13.at_
    have E13:=Lib.hid hs13
    clear hs13
    have S13:=S12.call hb13 H13
    have Nn_13:=Nn_12.mv S12 hb13
    obtain ⟨R,hR⟩ : ∃ z,memsV X.l (vs X.l n) false (X.l.length + 1) [] s13 = z:=⟨_,rfl⟩
    have ER:=Lib.hid hR
    have HL:=Lib.hid hR
    clear hR
    have hU0:=Up.refl s13
    go_wp2_with fail
    go_loopw [20] (fun _ wr => ∃ (k : Sg) (fu : Nat) (acc : List Tr) (ao : Option Addr) (cv : Nat),NBox X w wr mn 2 x2 0 (.slice ao acc.length cv) acc ∧ Sd X w wr k h ∧ (acc.length ≤ k.1 - s13.1 + 1 ∧ (k.2 = false → acc.length ≤ k.1 - s13.1) ∧ Up s13 k) ∧ Hid (X.l.length - k.1 < fu ∧ memsV X.l (vs X.l n) false fu acc k = R)) (fun _ wr => 2 * (X.l.length - posR X wr) + okN X wr)
    case atStart => exact ⟨s13,X.l.length + 1,[],none,0,Nn_13,S13,⟨by simp,by simp,hU0⟩,by omega,HL.out⟩
    case round =>
     obtain ⟨k,fu,acc,ao,cv,NK,SK,⟨hik,him,hUk⟩,HF⟩:=hrel
     have qk:=hUk.mS (n:=X.toks.length)
     have ak:=hUk.at_
     have bk:=SK.rdr.bnd
     clear HL Nn_13 S13
     cases hbd : k.2 with
     | true =>
      have HB:=Lib.hid hbd
      have EL : Hid (R = (acc,k)):=Lib.hid (HF.out.2.symm.trans (memsV_bad (by have:=HF.out.1; omega) hbd))
      clear hbd HF
      have c2:=SK.rdr.c2
      rw [HB.out] at c2
      obtain ⟨zv140,zv141,zv142,zv143,zv14f⟩:=NK.cells
      have zv14g0:=zv14f 0
      have zv14g1:=zv14f 1
      have zv14g2:=zv14f 2
      have zv14g3:=zv14f 3
      clear zv14f
      have Tt14:=NK.tre
      have HR : Hid (declV X.l (vs X.l n) s = ((.mk 2 x2 0 acc),k)):=Lib.hid (by simp [declV,bindV,E1.out,E2.out,E6.out,E12.out,E13.out,ER.out,EL.out])
      obtain ⟨y0,y1,y2,y3,b0,b1,b2,b3,bf⟩:=SK.box.open
      have bf0:=bf 0
      have bf1:=bf 1
      have bf2:=bf 2
      have bf3:=bf 3
      clear bf
      go_wp2
      obtain ⟨Wf,hWf,hput,_,d0,d1,d2,d3⟩:=putN4 SK.box (.int .i64 2) (.string ⟨(x2 : List UInt8).toArray⟩) (.int .i64 0) (.slice ao acc.length cv)
      rw [hWf]
      exact bodyPost_ret (v:=.agg #[.int .i64 2,.string ⟨(x2 : List UInt8).toArray⟩,.int .i64 0,.slice ao acc.length cv]) (by simp [results,Tryz.results24,go_sem,d0,d1,d2,d3]) rfl (OutR.of HR (SK.done Tt14 hput))
     | false =>
      have HB:=Lib.hid hbd
      have him2:=him hbd
      clear hbd him
      have c2:=SK.rdr.c2
      rw [HB.out] at c2
      cases hm : isV X.l k [125] with
      | true =>
       have EL : Hid (R = (acc,stepV k)):=Lib.hid (HF.out.2.symm.trans (memsV_stop (by have:=HF.out.1; omega) HB.out hm))
       have c:=rtake_yes X wr k h SK.rdr [125] (by decide) hm
       clear hm HF
       go_wp2_with fail
       refine c.mono ?_
       rintro e wy ⟨rfl,hby,Hy⟩
       clear c
       have Sy:=SK.call hby Hy
       have Ny:=NK.mv SK hby
       obtain ⟨zv150,zv151,zv152,zv153,zv15f⟩:=Ny.cells
       have zv15g0:=zv15f 0
       have zv15g1:=zv15f 1
       have zv15g2:=zv15f 2
       have zv15g3:=zv15f 3
       clear zv15f
       have Tt15:=Ny.tre
       have HR : Hid (declV X.l (vs X.l n) s = ((.mk 2 x2 0 acc),(stepV k))):=Lib.hid (by simp [declV,bindV,E1.out,E2.out,E6.out,E12.out,E13.out,ER.out,EL.out])
       obtain ⟨y0,y1,y2,y3,b0,b1,b2,b3,bf⟩:=Sy.box.open
       have bf0:=bf 0
       have bf1:=bf 1
       have bf2:=bf 2
       have bf3:=bf 3
       clear bf
       go_wp2
       obtain ⟨Wf,hWf,hput,_,d0,d1,d2,d3⟩:=putN4 Sy.box (.int .i64 2) (.string ⟨(x2 : List UInt8).toArray⟩) (.int .i64 0) (.slice ao acc.length cv)
       rw [hWf]
       exact bodyPost_ret (v:=.agg #[.int .i64 2,.string ⟨(x2 : List UInt8).toArray⟩,.int .i64 0,.slice ao acc.length cv]) (by simp [results,Tryz.results24,go_sem,d0,d1,d2,d3]) rfl (OutR.of HR (Sy.done Tt15 hput))
      | false =>
       have HM:=Lib.hid hm
       have c:=rtake_no X wr k h SK.rdr [125] hm
       clear hm
       go_wp2_with fail
       refine c.mono ?_
       rintro e wa ⟨rfl,hba,Ha⟩
       clear c
       have Sa:=SK.call hba Ha
       have Na:=NK.mv SK hba
       have lsa:=Sa.lt
       have lna:=Na.ltz
       have lpa:=Sa.plt
       have loa:=OwnL.lt Na.own.own
       obtain ⟨Y,hYe⟩ : ∃ Y : World,Y.heap.size + 1 = wa.heap.size:=⟨{ wa with heap:=wa.heap.pop },by simp; omega⟩
       have hY1 : Y.heap.size + 1 ≤ wa.heap.size:=Nat.le_of_eq hYe
       have hY2 : wa.heap.size ≤ Y.heap.size + 1:=Nat.le_of_eq hYe.symm
       clear hYe
       have cN:=rname_any X wa k h Sa.rdr
       have uN:=(su_name X.l k).up
       rcases hsN : nameV X.l k with ⟨xf,s1⟩
       rw [hsN] at cN uN
       replace uN : Up k s1:=uN
       have EN:=Lib.hid hsN
       clear hsN
       go_wp2_with fail
       refine cN.mono ?_
       rintro e w1 ⟨rfl,hb1,H1⟩
       have S1:=Sa.call hb1 H1
       have z1:=hb1.size
       clear cN
       go_wp2_with fail
       refine (rnode_any 6 xf _ _ _ _).mono ?_
       rintro e w2 ⟨rfl,hd2⟩
       have S2:=S1.below hd2
       have z2:=hd2.size
       have F3 : NBox X Y (w2.alloc (.cells #[.int .i64 6,.string ⟨xf.toArray⟩,.int .i64 0,.slice none 0 0] 24)) w2.heap.size 6 xf 0 (.slice none 0 0) []:=NBox.new (X:=X) (OwnL.nil w2 _) (by omega)
       have S3:=S2.alloc (.cells #[.int .i64 6,.string ⟨xf.toArray⟩,.int .i64 0,.slice none 0 0] 24)
       have B3 : But X.P wa.heap.size wa (w2.alloc (.cells #[.int .i64 6,.string ⟨xf.toArray⟩,.int .i64 0,.slice none 0 0] 24)):=(hb1.trans (But.of_below (hd2.mono z1))).alloc (by omega) _
       have N3:=Na.mv Sa B3
       have z3 : (w2.alloc (.cells #[.int .i64 6,.string ⟨xf.toArray⟩,.int .i64 0,.slice none 0 0] 24)).heap.size = w2.heap.size + 1:=by simp
       have z3a:=Nat.le_of_eq z3
       have z3b:=Nat.le_of_eq z3.symm
       clear z3
       obtain ⟨n30,n31,n32,n33,_⟩:=N3.cells
       have qN:=uN.mS (n:=X.toks.length)
       have cT:=A.typ (w2.alloc (.cells #[.int .i64 6,.string ⟨xf.toArray⟩,.int .i64 0,.slice none 0 0] 24)) s1 h S3.rdr (by omega)
       have uT:=(upV X.l n).typ s1
       rcases hsT : (vs X.l n).typ s1 with ⟨tt,s2⟩
       rw [hsT] at cT uT
       replace uT : Up s1 s2:=uT
       have ET:=Lib.hid hsT
       clear hsT
       go_wp2_with fail
       generalize hw3 : w2.alloc (.cells #[.int .i64 6,.string ⟨xf.toArray⟩,.int .i64 0,.slice none 0 0] 24) = w3 at *
       clear hw3
       generalize hmf : w2.heap.size = mf at *
       clear hmf n30 n31 n32 n33
       refine cT.mono ?_
       rintro e w4 ⟨hb4,H4,sl4,rfl,hk4⟩
       obtain ⟨ao4,n4,p4,rfl⟩:=hk4.slice
       clear cT
       have z4:=hb4.size
       have S4:=S3.call hb4 H4
       have F4:=F3.mvY (by omega) hb4
       have B4 : But X.P wa.heap.size wa w4:=B3.trans (hb4.mono (by omega))
       have S5:=S4.alloc (.cells #[.int .i64 tt.kind,.string ⟨tt.text.toArray⟩,.int .i64 tt.num,.slice ao4 n4 p4] 24)
       have F5:=F4.alloc (.cells #[.int .i64 tt.kind,.string ⟨tt.text.toArray⟩,.int .i64 tt.num,.slice ao4 n4 p4] 24)
       have B5 : But X.P wa.heap.size wa (w4.alloc (.cells #[.int .i64 tt.kind,.string ⟨tt.text.toArray⟩,.int .i64 tt.num,.slice ao4 n4 p4] 24)):=B4.alloc (by omega) _
       have L5:=OwnL.one (B:=w3.heap.size) z4 hk4 (Nat.le_refl _) (Nat.le_refl _)
       obtain ⟨f50,f51,f52,f53,f5f⟩:=F5.cells
       have f5g:=f5f 3
       clear f5f
       have lf5:=F4.ltz
       have nf4 : mf ≠ w4.heap.size:=by omega
       have F6:=NBox.setKids (X:=X) F5.blk F5.lt (OwnQ.newD (w:=Y) L5 (by omega) (by omega))
       have S6:=S5.put ((Put.refl mf (w4.alloc (.cells #[.int .i64 tt.kind,.string ⟨tt.text.toArray⟩,.int .i64 tt.num,.slice ao4 n4 p4] 24))).setCell 3 (.slice (some ⟨w4.heap.size,0,none⟩) 1 1)) (by omega)
       have B6 : But X.P wa.heap.size wa ((w4.alloc (.cells #[.int .i64 tt.kind,.string ⟨tt.text.toArray⟩,.int .i64 tt.num,.slice ao4 n4 p4] 24)).setCell ⟨mf,3,none⟩ (.slice (some ⟨w4.heap.size,0,none⟩) 1 1)):=B5.setCell (p:=⟨mf,3,none⟩) (.inr (by simp only; omega)) _
       have z6 : ((w4.alloc (.cells #[.int .i64 tt.kind,.string ⟨tt.text.toArray⟩,.int .i64 tt.num,.slice ao4 n4 p4] 24)).setCell ⟨mf,3,none⟩ (.slice (some ⟨w4.heap.size,0,none⟩) 1 1)).heap.size = w4.heap.size + 1:=by simp
       have z6a:=Nat.le_of_eq z6
       have z6b:=Nat.le_of_eq z6.symm
       clear z6
       have hsw:=World.setCell_alloc_past (w:=w4) (.cells #[.int .i64 tt.kind,.string ⟨tt.text.toArray⟩,.int .i64 tt.num,.slice ao4 n4 p4] 24) mf 3 (.slice (some ⟨w4.heap.size,0,none⟩) 1 1) lf5
       rw [hsw] at F6 S6 B6 z6a z6b
       clear hsw
       obtain ⟨g60,g61,g62,g63,g6f⟩:=F6.cells
       clear g6f
       have cS:=rneed_any X _ s2 h S6.rdr [59] (by decide)
       obtain ⟨j,hj⟩ : ∃ z,needV X.l [59] s2 = z:=⟨_,rfl⟩
       rw [hj] at cS
       have uS : Su s2 j:=hj ▸ su_need X.l [59] s2
       have EM : Hid (memV X.l (vs X.l n) false k = (.mk 6 xf 0 [tt],j)):=Lib.hid (by simp [memV,bindV,EN.out,ET.out,hj])
       clear hj
       go_wp2_with fail
       clear f50 f51 f52 f53 f5g g60 g61 g62 g63
       generalize ((w4.setCell ⟨mf,3,none⟩ (.slice (some ⟨w4.heap.size,0,none⟩) 1 1)).alloc (.cells #[.int .i64 tt.kind,.string ⟨tt.text.toArray⟩,.int .i64 tt.num,.slice ao4 n4 p4] 24)) = w6 at *
       refine cS.mono ?_
       rintro e w7 ⟨rfl,hb7,H7⟩
       clear cS
       have z7:=hb7.size
       have S7:=S6.call hb7 H7
       have F7:=F6.mvY (by omega) hb7
       have B7 : But X.P wa.heap.size wa w7:=B6.trans (hb7.mono (by omega))
       have N7:=Na.mv Sa B7
       have T7 : KT w7 (Rg wa.heap.size w7.heap.size) (.mk 6 xf 0 [tt]) (.slice (some ⟨w4.heap.size,0,none⟩) 1 1):=KT.fr F7.tre (Fr.refl _ _) (fun b hb => ⟨by omega,hb.2⟩)
       have L8 : OwnL (w7.alloc (.cells #[.int .i64 6,.string ⟨xf.toArray⟩,.int .i64 0,.slice (some ⟨w4.heap.size,0,none⟩) 1 1] 24)) wa.heap.size (.slice (some ⟨w7.heap.size,0,none⟩) 1 1) [.mk 6 xf 0 [tt]]:=OwnL.one (B:=wa.heap.size) (by omega) T7 (Nat.le_refl _) (Nat.le_refl _)
       have N8:=N7.alloc (.cells #[.int .i64 6,.string ⟨xf.toArray⟩,.int .i64 0,.slice (some ⟨w4.heap.size,0,none⟩) 1 1] 24)
       have S8:=S7.alloc (.cells #[.int .i64 6,.string ⟨xf.toArray⟩,.int .i64 0,.slice (some ⟨w4.heap.size,0,none⟩) 1 1] 24)
       obtain ⟨n70,n71,n72,n73,n7f⟩:=N7.cells
       have n7g:=n7f 3
       clear n7f
       obtain ⟨f70,f71,f72,f73,_⟩:=F7.cells
       have ln7:=N7.ltz
       generalize hVn : (Value.slice ao acc.length cv) = Vn at *
       clear hVn
       have z8 : (w7.alloc (.cells #[.int .i64 6,.string ⟨xf.toArray⟩,.int .i64 0,.slice (some ⟨w4.heap.size,0,none⟩) 1 1] 24)).heap.size = w7.heap.size + 1:=by simp
       have z8a:=Nat.le_of_eq z8
       have z8b:=Nat.le_of_eq z8.symm
       clear z8
       have bd7:=H7.bnd
       have hxj : k.1 ≤ j.1:=(uN.trans (uT.trans uS.up)).at_
       have bdl : acc.length ≤ 65537:=by omega
       go_wp2_with (at_builtin; refine wpList_joinQ (by rfl) _ _ (by rfl) (by rfl) (by rfl) N8.own (OwnQ.of (Q:=fun b => b ≠ mn) L8 (fun b hb _ => by omega)) (by omega) (by omega) (by omega) (fun q hq => (loa q hq).2) (by first | omega | (simp <;> omega)) ?_)
       intro aoJ cJ wJ hOJ hgJ
       have SJ:=S8.grown hgJ (fun q hq => (loa q hq).1)
       have BJ:=N8.grown hgJ
       obtain ⟨zJ0,zJ1,zJ2,zJ3,zJf⟩:=cells_of_blk BJ
       have zJg:=zJf 3
       clear zJf
       have SE:=SJ.put ((Put.refl mn wJ).setCell 3 (.slice aoJ (acc.length + 1) cJ)) N8.lt
       have NE : NBox X w (wJ.setCell ⟨mn,3,none⟩ (.slice aoJ (acc.length + 1) cJ)) mn 2 x2 0 (.slice aoJ (acc.length + 1) cJ) (acc ++ [.mk 6 xf 0 [tt]]):=NBox.setKids (X:=X) BJ N8.lt hOJ
       have hUj : Su k j:=⟨uN.trans (uT.trans uS.up),(uN.trans uT).then uS |>.on⟩
       have hXl:=X.length
       have hlj:=SE.rdr.le
       have hLn : (acc ++ [Tr.mk 6 xf 0 [tt]]).length = acc.length + 1:=by simp
       have HVL : Hid (acc.length + 1 = (acc ++ [Tr.mk 6 xf 0 [tt]]).length):=Lib.hid hLn.symm
       clear hLn
       obtain ⟨fu2,HX,hb2⟩ : ∃ fu2,Hid (X.l.length - j.1 < fu2 ∧ memsV X.l (vs X.l n) false fu2 (acc ++ [.mk 6 xf 0 [tt]]) j = R) ∧ (j.2 = false → k.1 < j.1):=memsV_on HF.out.1 HB.out HM.out EM.out hUj HF.out.2 (by omega)
       clear HF hXl n70 n71 n72 n73 n7g f70 f71 f72 f73
       go_wp2
       go_roundw
       case rel => exact ⟨j,fu2,acc ++ [.mk 6 xf 0 [tt]],aoJ,cJ,NE.len HVL.out,SE,⟨by have:=HVL.out; omega,fun e => by have:=hb2 e; have:=HVL.out; omega,hUk.trans hUj.up⟩,HX⟩
       case measure => rw [SE.rdr.pos,SK.rdr.pos,SE.rdr.ok,SK.rdr.ok,X.length,HB.out]; rcases hUj.on with e | e; (rw [e]; simp; omega); (split <;> simp <;> omega)
  | false =>
   have c1:=rtake_no X W0 s h S0.rdr [116,121,112,101] hm1
   have E1 : Hid (takeV X.l [116,121,112,101] s = (false,s)):=Lib.hid (by simp [takeV,hm1])
   clear hm1
   go_wp2_with fail
   refine c1.mono ?_
   rintro e w1 ⟨rfl,hb1,H1⟩
   clear c1
   have S1:=S0.call hb1 H1
   go_wp2_with fail
   refine (rneed_any X w1 s h S1.rdr [102,117,110,99] (by decide)).mono ?_
   rintro e w16 ⟨rfl,hb16,H16⟩
   obtain ⟨s16,hs16⟩ : ∃ z,needV X.l [102,117,110,99] s = z:=⟨_,rfl⟩
   rw [hs16] at H16
   have u16 : Up s s16:=hs16 ▸ (su_need X.l [102,117,110,99] s).up
   replace u16 : Up s s16:=u16
   have q16:=u16.mS (n:=X.toks.length)
   have a16:=u16.at_
   have E16:=Lib.hid hs16
   clear hs16
   have S16:=S1.call hb16 H16
   go_wp2_with fail
   refine (rnode_any 4 [] _ _ _ _).mono ?_
   rintro e w17 ⟨rfl,hd17⟩
   have hb17 : But X.P w16.heap.size w16 w17:=But.of_below hd17
   have H17:=S16.rdr.below hd17 (Nat.le_refl _)
   clear hd17
   have S17:=S16.call hb17 H17
   have Tt17:=Tre.leaf w w17 4 [] 0 none 0
   have Nn_18:=NBox.new (X:=X) (k:=4) (s:=[]) (num:=0) (OwnL.nil w17 _) S17.lt
   have hb19:=but_alloc w17 X.P (.cells #[.int .i64 4,.string ⟨([] : List UInt8).toArray⟩,.int .i64 0,.slice none 0 0] 24)
   have H19:=S17.rdr.alloc (.cells #[.int .i64 4,.string ⟨([] : List UInt8).toArray⟩,.int .i64 0,.slice none 0 0] 24)
   have S19:=S17.call hb19 H19
   cases hm20 : isV X.l s16 [40] with
   | true =>
    have hl20:=isV_at (by decide) hm20 S19.rdr.le
    have c20:=rtake_yes X (w17.alloc (.cells #[.int .i64 4,.string ⟨([] : List UInt8).toArray⟩,.int .i64 0,.slice none 0 0] 24)) s16 h S19.rdr [40] (by decide) hm20
    obtain ⟨s20,hs20⟩ : ∃ z,stepV s16 = z:=⟨_,rfl⟩
    rw [hs20] at c20
    have u20 : Up s16 s20:=hs20 ▸ (su_step s16).up
    have q20 : mS X.toks.length s20 + 3 ≤ mS X.toks.length s16:=hs20 ▸ mS_step hl20.1 hl20.2
    have a20 : s16.1 + 1 = s20.1:=hs20 ▸ rfl
    have a20a:=Nat.le_of_eq a20
    have a20b:=Nat.le_of_eq a20.symm
    clear a20
    have E20 : Hid (takeV X.l [40] s16 = (true,s20)):=Lib.hid (by simp [takeV,hm20,hs20])
    clear hm20 hs20 hl20
    go_wp2_with fail
    refine c20.mono ?_
    rintro e w20 ⟨rfl,hb20,H20⟩
    clear c20
    have S20:=S19.call hb20 H20
    have Nn_20:=Nn_18.mv S19 hb20
    generalize hmmn : w17.heap.size = mn at *
    clear hmmn
    have c21:=rname_any X w20 s20 h S20.rdr
    have u21:=(su_name X.l s20).up
    rcases hs21 : nameV X.l s20 with ⟨x21,s21⟩
    rw [hs21] at c21 u21
    replace u21 : Up s20 s21:=u21
    have q21:=u21.mS (n:=X.toks.length)
    have a21:=u21.at_
    have E21:=Lib.hid hs21
    clear hs21
    go_wp2_with fail
    refine c21.mono ?_
    rintro e w21 ⟨rfl,hb21,H21⟩
    clear c21
    have S21:=S20.call hb21 H21
    have Nn_21:=Nn_20.mv S20 hb21
    go_wp2_with fail
    refine (rneed_any X w21 s21 h S21.rdr [42] (by decide)).mono ?_
    rintro e w22 ⟨rfl,hb22,H22⟩
    obtain ⟨s22,hs22⟩ : ∃ z,needV X.l [42] s21 = z:=⟨_,rfl⟩
    rw [hs22] at H22
    have u22 : Up s21 s22:=hs22 ▸ (su_need X.l [42] s21).up
    replace u22 : Up s21 s22:=u22
    have q22:=u22.mS (n:=X.toks.length)
    have a22:=u22.at_
    have E22:=Lib.hid hs22
    clear hs22
    have S22:=S21.call hb22 H22
    have Nn_22:=Nn_21.mv S21 hb22
    have c23:=rname_any X w22 s22 h S22.rdr
    have u23:=(su_name X.l s22).up
    rcases hs23 : nameV X.l s22 with ⟨x23,s23⟩
    rw [hs23] at c23 u23
    replace u23 : Up s22 s23:=u23
    have q23:=u23.mS (n:=X.toks.length)
    have a23:=u23.at_
    have E23:=Lib.hid hs23
    clear hs23
    go_wp2_with fail
    refine c23.mono ?_
    rintro e w23 ⟨rfl,hb23,H23⟩
    clear c23
    have S23:=S22.call hb23 H23
    have Nn_23:=Nn_22.mv S22 hb23
    go_wp2_with fail
    refine (rneed_any X w23 s23 h S23.rdr [41] (by decide)).mono ?_
    rintro e w24 ⟨rfl,hb24,H24⟩
    obtain ⟨s24,hs24⟩ : ∃ z,needV X.l [41] s23 = z:=⟨_,rfl⟩
    rw [hs24] at H24
    have u24 : Up s23 s24:=hs24 ▸ (su_need X.l [41] s23).up
    replace u24 : Up s23 s24:=u24
    have q24:=u24.mS (n:=X.toks.length)
    have a24:=u24.at_
    have E24:=Lib.hid hs24
    clear hs24
    have S24:=S23.call hb24 H24
    have Nn_24:=Nn_23.mv S23 hb24
    obtain ⟨zu250,zu251,zu252,zu253,zu25f⟩:=Nn_24.cells
    have zu25g0:=zu25f 0
    have zu25g1:=zu25f 1
    have zu25g2:=zu25f 2
    have zu25g3:=zu25f 3
    clear zu25f
    have hpx26:=(Put.refl (mn) w24).setCell 0 (.int .i64 5)
    have S26:=S24.put hpx26 Nn_24.lt
    have Nn_26:=Nn_24.setKind 5
    go_wp2_with fail
    generalize (w24.setCell ⟨mn,0,none⟩ (.int .i64 5)) = wz at *
    clear zu250 zu251 zu252 zu253 zu25g0 zu25g1 zu25g2 zu25g3
    have lz:=Nn_26.ltz
    have ls:=S26.lt
    have lp:=S26.plt
    refine (rnode_any 10 x23 _ _ _ _).mono ?_
    rintro e y1 ⟨rfl,hy1⟩
    have v1:=hy1.size
    have M1 : OwnL (y1.alloc (.cells #[.int .i64 10,.string ⟨x23.toArray⟩,.int .i64 0,.slice none 0 0] 24)) wz.heap.size (.slice (some ⟨y1.heap.size,0,none⟩) 1 1) [.mk 10 x23 0 []]:=OwnL.one (B:=wz.heap.size) v1 (leafKT (lo:=wz.heap.size) (hi:=wz.heap.size) 10 x23 0) (Nat.le_refl _) v1
    go_wp2_with fail
    refine (rnode_any 11 [] _ _ _ _).mono ?_
    rintro e y2 ⟨rfl,hy2⟩
    have v2:=hy2.size
    rw [World.size_alloc] at v2
    have M2:=OwnL.kt (M1.below hy2 (Nat.le_refl _)) 11 [] 0
    have M3 : OwnL (y2.alloc (.cells #[.int .i64 11,.string ⟨([] : List UInt8).toArray⟩,.int .i64 0,.slice (some ⟨y1.heap.size,0,none⟩) 1 1] 24)) wz.heap.size (.slice (some ⟨y2.heap.size,0,none⟩) 1 1) [.mk 11 [] 0 [.mk 10 x23 0 []]]:=OwnL.one (B:=wz.heap.size) (by omega) M2 (Nat.le_refl _) (Nat.le_refl _)
    go_wp2_with fail
    refine (rnode_any 8 x21 _ _ _ _).mono ?_
    rintro e y3 ⟨rfl,hy3⟩
    have v3:=hy3.size
    rw [World.size_alloc] at v3
    have M4:=OwnL.kt (M3.below hy3 (Nat.le_refl _)) 8 x21 0
    have M5 : OwnL (y3.alloc (.cells #[.int .i64 8,.string ⟨x21.toArray⟩,.int .i64 0,.slice (some ⟨y2.heap.size,0,none⟩) 1 1] 24)) wz.heap.size (.slice (some ⟨y3.heap.size,0,none⟩) 1 1) [(.mk 8 x21 0 [.mk 11 [] 0 [.mk 10 x23 0 []]])]:=OwnL.one (B:=wz.heap.size) (by omega) M4 (Nat.le_refl _) (Nat.le_refl _)
    have BY : But X.P wz.heap.size wz (y3.alloc (.cells #[.int .i64 8,.string ⟨x21.toArray⟩,.int .i64 0,.slice (some ⟨y2.heap.size,0,none⟩) 1 1] 24)):=(((But.of_below hy1).alloc v1 (.cells #[.int .i64 10,.string ⟨x23.toArray⟩,.int .i64 0,.slice none 0 0] 24)).trans (((But.of_below hy2).alloc (by simp; omega) (.cells #[.int .i64 11,.string ⟨([] : List UInt8).toArray⟩,.int .i64 0,.slice (some ⟨y1.heap.size,0,none⟩) 1 1] 24)).mono (by simp; omega))).trans (((But.of_below hy3).alloc (by simp; omega) (.cells #[.int .i64 8,.string ⟨x21.toArray⟩,.int .i64 0,.slice (some ⟨y2.heap.size,0,none⟩) 1 1] 24)).mono (by simp; omega))
    have SY:=S26.call BY (((((S26.rdr.below hy1 (Nat.le_refl _)).alloc (.cells #[.int .i64 10,.string ⟨x23.toArray⟩,.int .i64 0,.slice none 0 0] 24)).below hy2 (Nat.le_refl _)).alloc (.cells #[.int .i64 11,.string ⟨([] : List UInt8).toArray⟩,.int .i64 0,.slice (some ⟨y1.heap.size,0,none⟩) 1 1] 24)).below hy3 (Nat.le_refl _) |>.alloc (.cells #[.int .i64 8,.string ⟨x21.toArray⟩,.int .i64 0,.slice (some ⟨y2.heap.size,0,none⟩) 1 1] 24))
    have NY:=Nn_26.mv S26 BY
    obtain ⟨y30,y31,y32,y33,y3f⟩:=NY.cells
    have y3g:=y3f 3
    clear y3f
    have ny3 : mn ≠ y3.heap.size:=by omega
    have ny4 : y3.heap.size ≠ mn:=by omega
    have N27:=NBox.setKids (X:=X) NY.blk NY.lt (OwnQ.newD (w:=w) M5 (by omega) (by omega))
    have S27:=SY.put ((Put.refl mn (y3.alloc (.cells #[.int .i64 8,.string ⟨x21.toArray⟩,.int .i64 0,.slice (some ⟨y2.heap.size,0,none⟩) 1 1] 24))).setCell 3 (.slice (some ⟨y3.heap.size,0,none⟩) 1 1)) NY.lt
    have c28:=rname_any X ((y3.alloc (.cells #[.int .i64 8,.string ⟨x21.toArray⟩,.int .i64 0,.slice (some ⟨y2.heap.size,0,none⟩) 1 1] 24)).setCell ⟨mn,3,none⟩ (.slice (some ⟨y3.heap.size,0,none⟩) 1 1)) s24 h S27.rdr
    have u28:=(su_name X.l s24).up
    rcases hs28 : nameV X.l s24 with ⟨x28,s28⟩
    rw [hs28] at c28 u28
    replace u28 : Up s24 s28:=u28
    have q28:=u28.mS (n:=X.toks.length)
    have a28:=u28.at_
    have E28:=Lib.hid hs28
    clear hs28
    go_wp2_with fail
    refine c28.mono ?_
    rintro e w28 ⟨rfl,hb28,H28⟩
    clear c28
    have S28:=S27.call hb28 H28
    have Nn_28:=N27.mv S27 hb28
    obtain ⟨zu290,zu291,zu292,zu293,zu29f⟩:=Nn_28.cells
    have zu29g0:=zu29f 0
    have zu29g1:=zu29f 1
    have zu29g2:=zu29f 2
    have zu29g3:=zu29f 3
    clear zu29f
    have hpx30:=(Put.refl (mn) w28).setCell 1 (.string ⟨x28.toArray⟩)
    have S30:=S28.put hpx30 Nn_28.lt
    have Nn_30:=Nn_28.setText x28
    have cB:=rsig_any X n A (w28.setCell ⟨mn,1,none⟩ (.string ⟨x28.toArray⟩)).drew s28 h S30.drew.rdr (by omega)
    have u31:=(su_sig (l:=X.l) (upV X.l n) s28).up
    rcases hs31 : sigV X.l (vs X.l n) s28 with ⟨t31,s31⟩
    rw [hs31] at cB u31
    replace u31 : Up s28 s31:=u31
    have q31:=u31.mS (n:=X.toks.length)
    have a31:=u31.at_
    have E31:=Lib.hid hs31
    clear hs31
    have sb31:=S30.lt
    obtain ⟨zq310,zq311,zq312,zq313,zq31f⟩:=Nn_30.cells
    have zq31g0:=zq31f 0
    have zq31g1:=zq31f 1
    have zq31g2:=zq31f 2
    have zq31g3:=zq31f 3
    clear zq31f
    go_wp2_with fail
    clear zq310 zq311 zq312 zq313 zq31g0 zq31g1 zq31g2 zq31g3
    generalize (w28.setCell ⟨mn,1,none⟩ (.string ⟨x28.toArray⟩)) = wg31 at *
    generalize (Value.slice (some ⟨y3.heap.size,0,none⟩) 1 1) = V31 at *
    have lo31:=OwnL.lt Nn_30.own.own
    obtain ⟨zr310,zr311,zr312,zr313,zr31f⟩:=Nn_30.cells
    have zr31g0:=zr31f 0
    have zr31g1:=zr31f 1
    have zr31g2:=zr31f 2
    have zr31g3:=zr31f 3
    clear zr31f
    have ln31 : ([(.mk 8 x21 0 [.mk 11 [] 0 [.mk 10 x23 0 []]])] : List Tr).length ≤ 500000:=by simp
    go_region_law (first
      | (go_simp; go_at_call 42; refine cB.mono ?_; rintro e w31 ⟨hb31,H31,sl31,rfl,hk31⟩; obtain ⟨ao31,n31,p31,rfl⟩:=hk31.slice
         have S31a:=S30.drew.call hb31 H31
         have N31a:=Nn_30.drew.mv S30.drew hb31
         have lz31:=hb31.size
         have ld31 : (wg31).drew.heap.size = (wg31).heap.size:=rfl
         have bd31:=H31.bnd
         have lm31:=Nn_30.ltz
         have hO31:=OwnQ.of (Q:=fun b => b ≠ mn) (OwnL.one (B:=(wg31).heap.size) lz31 hk31 (Nat.le_refl _) (Nat.le_refl _)) (fun b hb _ => by omega)
         have N31b:=N31a.alloc (.cells #[.int .i64 t31.kind,.string ⟨t31.text.toArray⟩,.int .i64 t31.num,.slice ao31 n31 p31] 24)
         have S31b:=S31a.alloc (.cells #[.int .i64 t31.kind,.string ⟨t31.text.toArray⟩,.int .i64 t31.num,.slice ao31 n31 p31] 24)
         obtain ⟨y310,y311,y312,y313,y31f⟩:=N31a.cells
         have y31g:=y31f 3
         have ym31:=N31a.ltz
         have yn31 : mn ≠ w31.heap.size:=Nat.ne_of_lt ym31
         have yo31 : w31.heap.size ≠ mn:=fun e => yn31 e.symm
         clear y31f)
      | (refine step_join (by rfl) _ _ (by rfl) (by rfl) (by rfl) N31b.own hO31 ?_ ?_ ?_ ?_ ?_ ?_
         · first | omega | (simp <;> omega)
         · omega
         · first | omega | (simp <;> omega)
         · exact fun q hq => (lo31 q hq).2
         · first | omega | (simp <;> omega)
         intro ao31c c31c w31c hO31c hg31c
         generalize hL31 : ([(.mk 8 x21 0 [.mk 11 [] 0 [.mk 10 x23 0 []]])] : List Tr).length + ([t31] : List Tr).length = L31 at *
         have S31c:=S31b.grown hg31c (fun q hq => (lo31 q hq).1)
         have B31c:=N31b.grown hg31c
         obtain ⟨x310,x311,x312,x313,x31f⟩:=cells_of_blk B31c
         have x31g:=x31f 3
         clear x31f))
    all_goals
     have S31d:=S31c.put ((Put.refl (mn) w31c).setCell 3 (.slice ao31c L31 c31c)) Nn_30.lt
     have N31d : NBox X w (w31c.setCell ⟨mn,3,none⟩ (.slice ao31c L31 c31c)) (mn) 5 x28 0 (.slice ao31c L31 c31c) ([(.mk 8 x21 0 [.mk 11 [] 0 [.mk 10 x23 0 []]]),t31]):=NBox.setKids (X:=X) B31c Nn_30.lt hO31c
     clear x310 x311 x312 x313 x31g
     generalize w31c.setCell ⟨mn,3,none⟩ (.slice ao31c L31 c31c) = w31d at *
     have cB:=A.blk w31d.drew s31 h S31d.drew.rdr (by omega)
     have u32:=((upV X.l n).blk s31).up
     rcases hs32 : (vs X.l n).blk s31 with ⟨t32,s32⟩
     rw [hs32] at cB u32
     replace u32 : Up s31 s32:=u32
     have q32:=u32.mS (n:=X.toks.length)
     have a32:=u32.at_
     have E32:=Lib.hid hs32
     clear hs32
     have sb32:=S31d.lt
     obtain ⟨zq320,zq321,zq322,zq323,zq32f⟩:=N31d.cells
     have zq32g0:=zq32f 0
     have zq32g1:=zq32f 1
     have zq32g2:=zq32f 2
     have zq32g3:=zq32f 3
     clear zq32f
     go_wp2_with fail
     clear zq320 zq321 zq322 zq323 zq32g0 zq32g1 zq32g2 zq32g3
     generalize (Value.slice ao31c L31 c31c) = V32 at *
     have lo32:=OwnL.lt N31d.own.own
     obtain ⟨zr320,zr321,zr322,zr323,zr32f⟩:=N31d.cells
     have zr32g0:=zr32f 0
     have zr32g1:=zr32f 1
     have zr32g2:=zr32f 2
     have zr32g3:=zr32f 3
     clear zr32f
     have ln32 : ([(.mk 8 x21 0 [.mk 11 [] 0 [.mk 10 x23 0 []]]),t31] : List Tr).length ≤ 500000:=by simp
     go_region_law (first
       | (go_simp; go_at_call 44; refine cB.mono ?_; rintro e w32 ⟨hb32,H32,sl32,rfl,hk32⟩; obtain ⟨ao32,n32,p32,rfl⟩:=hk32.slice
          have S32a:=S31d.drew.call hb32 H32
          have N32a:=N31d.drew.mv S31d.drew hb32
          have lz32:=hb32.size
          have ld32 : (w31d).drew.heap.size = (w31d).heap.size:=rfl
          have bd32:=H32.bnd
          have lm32:=N31d.ltz
          have hO32:=OwnQ.of (Q:=fun b => b ≠ mn) (OwnL.one (B:=(w31d).heap.size) lz32 hk32 (Nat.le_refl _) (Nat.le_refl _)) (fun b hb _ => by omega)
          have N32b:=N32a.alloc (.cells #[.int .i64 t32.kind,.string ⟨t32.text.toArray⟩,.int .i64 t32.num,.slice ao32 n32 p32] 24)
          have S32b:=S32a.alloc (.cells #[.int .i64 t32.kind,.string ⟨t32.text.toArray⟩,.int .i64 t32.num,.slice ao32 n32 p32] 24)
          obtain ⟨y320,y321,y322,y323,y32f⟩:=N32a.cells
          have y32g:=y32f 3
          have ym32:=N32a.ltz
          have yn32 : mn ≠ w32.heap.size:=Nat.ne_of_lt ym32
          have yo32 : w32.heap.size ≠ mn:=fun e => yn32 e.symm
          clear y32f)
       | (refine step_join (by rfl) _ _ (by rfl) (by rfl) (by rfl) N32b.own hO32 ?_ ?_ ?_ ?_ ?_ ?_
          · first | omega | (simp <;> omega)
          · omega
          · first | omega | (simp <;> omega)
          · exact fun q hq => (lo32 q hq).2
          · first | omega | (simp <;> omega)
          intro ao32c c32c w32c hO32c hg32c
          generalize hL32 : ([(.mk 8 x21 0 [.mk 11 [] 0 [.mk 10 x23 0 []]]),t31] : List Tr).length + ([t32] : List Tr).length = L32 at *
          have S32c:=S32b.grown hg32c (fun q hq => (lo32 q hq).1)
          have B32c:=N32b.grown hg32c
          obtain ⟨x320,x321,x322,x323,x32f⟩:=cells_of_blk B32c
          have x32g:=x32f 3
          clear x32f))
     all_goals
      have S32d:=S32c.put ((Put.refl (mn) w32c).setCell 3 (.slice ao32c L32 c32c)) N31d.lt
      have N32d : NBox X w (w32c.setCell ⟨mn,3,none⟩ (.slice ao32c L32 c32c)) (mn) 5 x28 0 (.slice ao32c L32 c32c) ([(.mk 8 x21 0 [.mk 11 [] 0 [.mk 10 x23 0 []]]),t31,t32]):=NBox.setKids (X:=X) B32c N31d.lt hO32c
      clear x320 x321 x322 x323 x32g
      generalize w32c.setCell ⟨mn,3,none⟩ (.slice ao32c L32 c32c) = w32d at *
      obtain ⟨zv330,zv331,zv332,zv333,zv33f⟩:=N32d.cells
      have zv33g0:=zv33f 0
      have zv33g1:=zv33f 1
      have zv33g2:=zv33f 2
      have zv33g3:=zv33f 3
      clear zv33f
      have Tt33:=N32d.tre
      have HR : Hid (declV X.l (vs X.l n) s = ((.mk 5 x28 0 [(.mk 8 x21 0 [.mk 11 [] 0 [.mk 10 x23 0 []]]),t31,t32]),s32)):=Lib.hid (by simp [declV,bindV,E1.out,E16.out,E20.out,E21.out,E22.out,E23.out,E24.out,E28.out,E31.out,E32.out])
      obtain ⟨y0,y1,y2,y3,b0,b1,b2,b3,bf⟩:=S32d.box.open
      have bf0:=bf 0
      have bf1:=bf 1
      have bf2:=bf 2
      have bf3:=bf 3
      clear bf
      go_wp2
      obtain ⟨Wf,hWf,hput,_,d0,d1,d2,d3⟩:=putN4 S32d.box (.int .i64 5) (.string ⟨(x28 : List UInt8).toArray⟩) (.int .i64 0) (.slice ao32c L32 c32c)
      rw [hWf]
      exact bodyPost_ret (v:=.agg #[.int .i64 5,.string ⟨(x28 : List UInt8).toArray⟩,.int .i64 0,.slice ao32c L32 c32c]) (by simp [results,Tryz.results24,go_sem,d0,d1,d2,d3]) rfl (OutR.of HR (S32d.done Tt33 hput))
   | false =>
    have c20:=rtake_no X (w17.alloc (.cells #[.int .i64 4,.string ⟨([] : List UInt8).toArray⟩,.int .i64 0,.slice none 0 0] 24)) s16 h S19.rdr [40] hm20
    have E20 : Hid (takeV X.l [40] s16 = (false,s16)):=Lib.hid (by simp [takeV,hm20])
    clear hm20
    go_wp2_with fail
    refine c20.mono ?_
    rintro e w20 ⟨rfl,hb20,H20⟩
    clear c20
    have S20:=S19.call hb20 H20
    have Nn_20:=Nn_18.mv S19 hb20
    generalize hmmn : w17.heap.size = mn at *
    clear hmmn
    have c34:=rname_any X w20 s16 h S20.rdr
    have u34:=(su_name X.l s16).up
    rcases hs34 : nameV X.l s16 with ⟨x34,s34⟩
    rw [hs34] at c34 u34
    replace u34 : Up s16 s34:=u34
    have q34:=u34.mS (n:=X.toks.length)
    have a34:=u34.at_
    have E34:=Lib.hid hs34
    clear hs34
    go_wp2_with fail
    refine c34.mono ?_
    rintro e w34 ⟨rfl,hb34,H34⟩
    clear c34
    have S34:=S20.call hb34 H34
    have Nn_34:=Nn_20.mv S20 hb34
    obtain ⟨zu350,zu351,zu352,zu353,zu35f⟩:=Nn_34.cells
    have zu35g0:=zu35f 0
    have zu35g1:=zu35f 1
    have zu35g2:=zu35f 2
    have zu35g3:=zu35f 3
    clear zu35f
    have hpx36:=(Put.refl (mn) w34).setCell 1 (.string ⟨x34.toArray⟩)
    have S36:=S34.put hpx36 Nn_34.lt
    have Nn_36:=Nn_34.setText x34
    have cB:=rsig_any X n A (w34.setCell ⟨mn,1,none⟩ (.string ⟨x34.toArray⟩)).drew s34 h S36.drew.rdr (by omega)
    have u37:=(su_sig (l:=X.l) (upV X.l n) s34).up
    rcases hs37 : sigV X.l (vs X.l n) s34 with ⟨t37,s37⟩
    rw [hs37] at cB u37
    replace u37 : Up s34 s37:=u37
    have q37:=u37.mS (n:=X.toks.length)
    have a37:=u37.at_
    have E37:=Lib.hid hs37
    clear hs37
    have sb37:=S36.lt
    obtain ⟨zq370,zq371,zq372,zq373,zq37f⟩:=Nn_36.cells
    have zq37g0:=zq37f 0
    have zq37g1:=zq37f 1
    have zq37g2:=zq37f 2
    have zq37g3:=zq37f 3
    clear zq37f
    go_wp2_with fail
    clear zq370 zq371 zq372 zq373 zq37g0 zq37g1 zq37g2 zq37g3
    generalize (w34.setCell ⟨mn,1,none⟩ (.string ⟨x34.toArray⟩)) = wg37 at *
    generalize (Value.slice none 0 0) = V37 at *
    have lo37:=OwnL.lt Nn_36.own.own
    obtain ⟨zr370,zr371,zr372,zr373,zr37f⟩:=Nn_36.cells
    have zr37g0:=zr37f 0
    have zr37g1:=zr37f 1
    have zr37g2:=zr37f 2
    have zr37g3:=zr37f 3
    clear zr37f
    have ln37 : ([] : List Tr).length ≤ 500000:=by simp
    go_region_law (first
      | (go_simp; go_at_call 42; refine cB.mono ?_; rintro e w37 ⟨hb37,H37,sl37,rfl,hk37⟩; obtain ⟨ao37,n37,p37,rfl⟩:=hk37.slice
         have S37a:=S36.drew.call hb37 H37
         have N37a:=Nn_36.drew.mv S36.drew hb37
         have lz37:=hb37.size
         have ld37 : (wg37).drew.heap.size = (wg37).heap.size:=rfl
         have bd37:=H37.bnd
         have lm37:=Nn_36.ltz
         have hO37:=OwnQ.of (Q:=fun b => b ≠ mn) (OwnL.one (B:=(wg37).heap.size) lz37 hk37 (Nat.le_refl _) (Nat.le_refl _)) (fun b hb _ => by omega)
         have N37b:=N37a.alloc (.cells #[.int .i64 t37.kind,.string ⟨t37.text.toArray⟩,.int .i64 t37.num,.slice ao37 n37 p37] 24)
         have S37b:=S37a.alloc (.cells #[.int .i64 t37.kind,.string ⟨t37.text.toArray⟩,.int .i64 t37.num,.slice ao37 n37 p37] 24)
         obtain ⟨y370,y371,y372,y373,y37f⟩:=N37a.cells
         have y37g:=y37f 3
         have ym37:=N37a.ltz
         have yn37 : mn ≠ w37.heap.size:=Nat.ne_of_lt ym37
         have yo37 : w37.heap.size ≠ mn:=fun e => yn37 e.symm
         clear y37f)
      | (refine step_join (by rfl) _ _ (by rfl) (by rfl) (by rfl) N37b.own hO37 ?_ ?_ ?_ ?_ ?_ ?_
         · first | omega | (simp <;> omega)
         · omega
         · first | omega | (simp <;> omega)
         · exact fun q hq => (lo37 q hq).2
         · first | omega | (simp <;> omega)
         intro ao37c c37c w37c hO37c hg37c
         generalize hL37 : ([] : List Tr).length + ([t37] : List Tr).length = L37 at *
         have S37c:=S37b.grown hg37c (fun q hq => (lo37 q hq).1)
         have B37c:=N37b.grown hg37c
         obtain ⟨x370,x371,x372,x373,x37f⟩:=cells_of_blk B37c
         have x37g:=x37f 3
         clear x37f))
    all_goals
     have S37d:=S37c.put ((Put.refl (mn) w37c).setCell 3 (.slice ao37c L37 c37c)) Nn_36.lt
     have N37d : NBox X w (w37c.setCell ⟨mn,3,none⟩ (.slice ao37c L37 c37c)) (mn) 4 x34 0 (.slice ao37c L37 c37c) ([t37]):=NBox.setKids (X:=X) B37c Nn_36.lt hO37c
     clear x370 x371 x372 x373 x37g
     generalize w37c.setCell ⟨mn,3,none⟩ (.slice ao37c L37 c37c) = w37d at *
     have cB:=A.blk w37d.drew s37 h S37d.drew.rdr (by omega)
     have u38:=((upV X.l n).blk s37).up
     rcases hs38 : (vs X.l n).blk s37 with ⟨t38,s38⟩
     rw [hs38] at cB u38
     replace u38 : Up s37 s38:=u38
     have q38:=u38.mS (n:=X.toks.length)
     have a38:=u38.at_
     have E38:=Lib.hid hs38
     clear hs38
     have sb38:=S37d.lt
     obtain ⟨zq380,zq381,zq382,zq383,zq38f⟩:=N37d.cells
     have zq38g0:=zq38f 0
     have zq38g1:=zq38f 1
     have zq38g2:=zq38f 2
     have zq38g3:=zq38f 3
     clear zq38f
     go_wp2_with fail
     clear zq380 zq381 zq382 zq383 zq38g0 zq38g1 zq38g2 zq38g3
     generalize (Value.slice ao37c L37 c37c) = V38 at *
     have lo38:=OwnL.lt N37d.own.own
     obtain ⟨zr380,zr381,zr382,zr383,zr38f⟩:=N37d.cells
     have zr38g0:=zr38f 0
     have zr38g1:=zr38f 1
     have zr38g2:=zr38f 2
     have zr38g3:=zr38f 3
     clear zr38f
     have ln38 : ([t37] : List Tr).length ≤ 500000:=by simp
     go_region_law (first
       | (go_simp; go_at_call 44; refine cB.mono ?_; rintro e w38 ⟨hb38,H38,sl38,rfl,hk38⟩; obtain ⟨ao38,n38,p38,rfl⟩:=hk38.slice
          have S38a:=S37d.drew.call hb38 H38
          have N38a:=N37d.drew.mv S37d.drew hb38
          have lz38:=hb38.size
          have ld38 : (w37d).drew.heap.size = (w37d).heap.size:=rfl
          have bd38:=H38.bnd
          have lm38:=N37d.ltz
          have hO38:=OwnQ.of (Q:=fun b => b ≠ mn) (OwnL.one (B:=(w37d).heap.size) lz38 hk38 (Nat.le_refl _) (Nat.le_refl _)) (fun b hb _ => by omega)
          have N38b:=N38a.alloc (.cells #[.int .i64 t38.kind,.string ⟨t38.text.toArray⟩,.int .i64 t38.num,.slice ao38 n38 p38] 24)
          have S38b:=S38a.alloc (.cells #[.int .i64 t38.kind,.string ⟨t38.text.toArray⟩,.int .i64 t38.num,.slice ao38 n38 p38] 24)
          obtain ⟨y380,y381,y382,y383,y38f⟩:=N38a.cells
          have y38g:=y38f 3
          have ym38:=N38a.ltz
          have yn38 : mn ≠ w38.heap.size:=Nat.ne_of_lt ym38
          have yo38 : w38.heap.size ≠ mn:=fun e => yn38 e.symm
          clear y38f)
       | (refine step_join (by rfl) _ _ (by rfl) (by rfl) (by rfl) N38b.own hO38 ?_ ?_ ?_ ?_ ?_ ?_
          · first | omega | (simp <;> omega)
          · omega
          · first | omega | (simp <;> omega)
          · exact fun q hq => (lo38 q hq).2
          · first | omega | (simp <;> omega)
          intro ao38c c38c w38c hO38c hg38c
          generalize hL38 : ([t37] : List Tr).length + ([t38] : List Tr).length = L38 at *
          have S38c:=S38b.grown hg38c (fun q hq => (lo38 q hq).1)
          have B38c:=N38b.grown hg38c
          obtain ⟨x380,x381,x382,x383,x38f⟩:=cells_of_blk B38c
          have x38g:=x38f 3
          clear x38f))
     all_goals
      have S38d:=S38c.put ((Put.refl (mn) w38c).setCell 3 (.slice ao38c L38 c38c)) N37d.lt
      have N38d : NBox X w (w38c.setCell ⟨mn,3,none⟩ (.slice ao38c L38 c38c)) (mn) 4 x34 0 (.slice ao38c L38 c38c) ([t37,t38]):=NBox.setKids (X:=X) B38c N37d.lt hO38c
      clear x380 x381 x382 x383 x38g
      generalize w38c.setCell ⟨mn,3,none⟩ (.slice ao38c L38 c38c) = w38d at *
      obtain ⟨zv390,zv391,zv392,zv393,zv39f⟩:=N38d.cells
      have zv39g0:=zv39f 0
      have zv39g1:=zv39f 1
      have zv39g2:=zv39f 2
      have zv39g3:=zv39f 3
      clear zv39f
      have Tt39:=N38d.tre
      have HR : Hid (declV X.l (vs X.l n) s = ((.mk 4 x34 0 [t37,t38]),s38)):=Lib.hid (by simp [declV,bindV,E1.out,E16.out,E20.out,E34.out,E37.out,E38.out])
      obtain ⟨y0,y1,y2,y3,b0,b1,b2,b3,bf⟩:=S38d.box.open
      have bf0:=bf 0
      have bf1:=bf 1
      have bf2:=bf 2
      have bf3:=bf 3
      clear bf
      go_wp2
      obtain ⟨Wf,hWf,hput,_,d0,d1,d2,d3⟩:=putN4 S38d.box (.int .i64 4) (.string ⟨(x34 : List UInt8).toArray⟩) (.int .i64 0) (.slice ao38c L38 c38c)
      rw [hWf]
      exact bodyPost_ret (v:=.agg #[.int .i64 4,.string ⟨(x34 : List UInt8).toArray⟩,.int .i64 0,.slice ao38c L38 c38c]) (by simp [results,Tryz.results24,go_sem,d0,d1,d2,d3]) rfl (OutR.of HR (S38d.done Tt39 hput))
end Go.Proofs.YtnkphlkjhgngkaaGreatDoor
