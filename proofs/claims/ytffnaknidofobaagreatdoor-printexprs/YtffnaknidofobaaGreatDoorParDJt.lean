/- The parser's loops: upTo, commas; listed, members. -/
import Derived.Test.YtffnaknidofobaaGreatDoorParAJt
import Derived.Lib.Hide
namespace Go.Proofs.YtffnaknidofobaaGreatDoor
open Go.RowKit
/-- Where the parser stands. -/
def posOf (X : Px) (w : World) : Nat:=match w.cell? ⟨X.P,1,none⟩ with
  | some (.int _ i) => i.toNat
  | _ => 0
theorem Par.pos {X : Px} {w : World} {i : Nat} {h : Bool} (H : Par X w i h) : posOf X w = i:=by simp [posOf,H.c1]
theorem upToF_stop {l : List Tk} {mark : List UInt8} {pr : Nat → Res Tr} {f : Nat} {acc : List Tr} {k : Nat} (hf : 0 < f) (hm : isM l k mark = true) : upToF l mark pr f acc k = .ok acc k:=by
 match f,hf with
 | f + 1,_ => simp [upToF,hm]
theorem upToF_bad {l : List Tk} {mark : List UInt8} {pr : Nat → Res Tr} {f : Nat} {acc : List Tr} {k j : Nat} (hf : 0 < f) (hm : isM l k mark = false) (hp : pr k = .bad j) : upToF l mark pr f acc k = .bad j:=by
 match f,hf with
 | f + 1,_ => simp [upToF,hm,hp,Res.bind]
theorem upToF_step {l : List Tk} {mark : List UInt8} {pr : Nat → Res Tr} {f : Nat} {acc : List Tr} {k j : Nat} {t : Tr} (hf : 0 < f) (hm : isM l k mark = false) (hp : pr k = .ok t j) : upToF l mark pr f acc k = upToF l mark pr (f - 1) (acc ++ [t]) j:=by
 match f,hf with
 | f + 1,_ => simp [upToF,hm,hp,Res.bind]
set_option maxRecDepth 20000 in
set_option maxHeartbeats 1600000 in
theorem upTo_any (X : Px) (w : World) (i : Nat) (h : Bool) (mark : List UInt8) (pr : Nat → Res Tr) (f : Nat) (bs ls : Array Value) (he : Enters Tryz.prog f) (H : Par X w i h)
    (hI : ∀ w1 k,i ≤ k → But X.P w.heap.size w w1 → Par X w1 k h → Calls Tryz.prog f (bs ++ ls) w1 (OutT X w1 k h (pr k))) :
    Calls Tryz.prog 60 #[X.p,.string ⟨mark.toArray⟩,.func (.func f) bs ls] w (OutL X w i h (upToR X.l mark pr i)):=by
  have eg : ∀ args w,(callFunc f args).run Tryz.prog w = .ok (.enter f args) w:=he
  have hpl:=H.plt
  have htl:=H.tlt
  have HS : Hid (upToR X.l mark pr i = upToF X.l mark pr (X.l.length + 1) [] i):=rfl
  have HI:=Lib.hid hI
  clear hI
  go_enter Tryz.func60,Tryz.ntmps60
  go_wp2_with fail
  go_loopw [7] (fun v wr => ∃ (k fu : Nat) (acc : List Tr) (ao : Option Addr) (cv : Nat),v = .slice ao acc.length cv ∧ OwnL wr w.heap.size (.slice ao acc.length cv) acc ∧ But X.P w.heap.size w wr ∧ Par X wr k h ∧ i + acc.length ≤ k ∧ Hid (X.l.length - k < fu ∧ upToR X.l mark pr i = upToF X.l mark pr fu acc k)) (fun _ wr => X.l.length - posOf X wr)
  case atStart => exact ⟨i,X.l.length + 1,[],none,0,rfl,OwnL.nil _ _,But.refl _ _ _,H,by simp,by omega,HS.out⟩
  case round =>
   obtain ⟨k,fu,acc,ao,cv,rfl,hown,hbr,Hk,hik,HF⟩:=hrel
   clear HS
   have hzr:=hbr.size
   have cI:=is_any X wr k h Hk mark
   cases hm : isM X.l k mark with
   | true =>
    rw [hm] at cI
    have HX : Hid (upToR X.l mark pr i = .ok acc k):=HF.out.2.trans (upToF_stop (by have:=HF.out.1; omega) hm)
    clear hm
    go_wp2_with fail
    refine cI.mono ?_
    rintro e w1 ⟨rfl,hb1⟩
    go_wp2
    go_ret
    exact OutL.of HX ⟨hbr.trans (But.of_below (hb1.mono hzr)),hik,Hk.below hb1 (Nat.le_refl _),_,rfl,hown.below hb1 (Nat.le_refl _)⟩
   | false =>
    rw [hm] at cI
    have HM:=Lib.hid hm
    clear hm
    go_wp2_with fail
    refine cI.mono ?_
    rintro e w1 ⟨rfl,hb1⟩
    have hz1:=hb1.size
    have hB1 : But X.P w.heap.size w w1:=hbr.trans (But.of_below (hb1.mono hzr))
    have H1 : Par X w1 k h:=Hk.below hb1 (Nat.le_refl _)
    have hown1:=hown.below hb1 (Nat.le_refl _)
    have cT:=HI.out w1 k (by omega) hB1 H1
    clear cI
    go_wp2_with fail
    refine cT.mono ?_
    rintro e w2 ⟨hb2,hr⟩
    have hz2:=hb2.size
    have hB2 : But X.P w.heap.size w w2:=hB1.trans (hb2.mono (by omega))
    clear cT
    cases hp : pr k with
    | bad j =>
     rw [hp] at hr
     obtain ⟨rfl,h',H2⟩:=hr
     have HX : Hid (upToR X.l mark pr i = .bad j):=HF.out.2.trans (upToF_bad (by have:=HF.out.1; omega) HM.out hp)
     exact ⟨rfl,OutL.of HX ⟨hB2,rfl,h',H2⟩⟩
    | ok t j =>
     rw [hp] at hr
     obtain ⟨hkj,H2,sl,rfl,hk⟩:=hr
     obtain ⟨ao2,n2,cap2,rfl⟩:=hk.slice
     have HX : Hid (X.l.length - j < fu - 1 ∧ upToR X.l mark pr i = upToF X.l mark pr (fu - 1) (acc ++ [t]) j):=⟨by have:=HF.out.1; have:=H2.lt; omega,HF.out.2.trans (upToF_step (by have:=HF.out.1; omega) HM.out hp)⟩
     clear hp HF
     obtain ⟨sls,hown2,hkl⟩:=hown1
     have hl1:=hown2.lt
     have hown3 : (w2.alloc (.cells #[.int .i64 t.kind,.string ⟨t.text.toArray⟩,.int .i64 t.num,.slice ao2 n2 cap2] 24)).ownsRow w.heap.size 24 4 (.slice ao acc.length cv) acc.length (cellsOf acc sls) :=
       (ownsRow_fr (fun b hb1 hb2' => hb2.block b hb2' (by omega)) hown2).alloc _
     have hkl3 : KL (w2.alloc (.cells #[.int .i64 t.kind,.string ⟨t.text.toArray⟩,.int .i64 t.num,.slice ao2 n2 cap2] 24)) (fun b => (w.heap.size ≤ b ∧ b < w1.heap.size) ∧ some b ≠ (Value.slice ao acc.length cv).ownBlock) acc sls :=
       hkl.fr (((Fr.refl _ _).but hb2 (fun b hb => ⟨hb.1.2,by omega⟩)).alloc (fun b hb => by omega) _) (fun _ hb => hb)
     have hkt3 : KT (w2.alloc (.cells #[.int .i64 t.kind,.string ⟨t.text.toArray⟩,.int .i64 t.num,.slice ao2 n2 cap2] 24)) (Rg w1.heap.size w2.heap.size) t (.slice ao2 n2 cap2) :=
       hk.fr ((Fr.refl _ _).alloc (fun b hb => hb.2) _) (fun _ hb => hb)
     have H3 : Par X (w2.alloc (.cells #[.int .i64 t.kind,.string ⟨t.text.toArray⟩,.int .i64 t.num,.slice ao2 n2 cap2] 24)) j h:=H2.alloc _
     have hB3 : But X.P w.heap.size w (w2.alloc (.cells #[.int .i64 t.kind,.string ⟨t.text.toArray⟩,.int .i64 t.num,.slice ao2 n2 cap2] 24)):=hB2.alloc (by omega) _
     have hbd:=H2.bnd
     obtain ⟨i0,hi,hz0,hzz1,hzz2⟩:=info_parts Tryz.info24
     clear hown2 hkl hk hown
     go_wp2_with (at_builtin; refine wpList_append_lies _ rfl _ _ 22 rfl w.heap.size 24 i0 _ 4 56 Tryz.underlying22 hi hz0 hzz1 hzz2 rfl (by decide) _ _ _ rfl hown3 ⟨w2.heap.size,0,none⟩ 1 1 [.int .i64 t.kind,.string ⟨t.text.toArray⟩,.int .i64 t.num,.slice ao2 n2 cap2] rfl rfl ?c1 ?c2 (by decide) ?c3 ?c4 ?c5 (w2.heap.size + 1) ?c6 ?_)
     case c1 =>
      intro j u hj
      match j,hj with
      | 0,hj => simp at hj; subst hj; simp [Addr.add]
      | 1,hj => simp at hj; subst hj; simp [Addr.add]
      | 2,hj => simp at hj; subst hj; simp [Addr.add]
      | 3,hj => simp at hj; subst hj; simp [Addr.add]
     case c2 => intro u hu; simp at hu; rcases hu with rfl | rfl | rfl | rfl <;> rfl
     case c3 => unfold maxLen; omega
     case c4 => omega
     case c5 => simp; omega
     case c6 => simp
     intro g cap w5 hown5 hgr5 hat5 hlt5
     have hz5:=hgr5.size
     rw [World.size_alloc] at hz5
     have hO : OwnL w5 w.heap.size (.slice (some ⟨g,0,none⟩) (acc.length + 1) cap) (acc ++ [t]) :=
       own_snoc (lo:=w1.heap.size) (hi:=w2.heap.size) hkl3 hkt3 (by omega) (by simp; omega) (fun k hk => (hl1 k hk).2) (by simp) hown5 hgr5 (by simpa using hat5) rfl
     have hB5 : But X.P w.heap.size w w5:=hB3.grown hgr5 (by simp; omega) (fun k hk => (hl1 k hk).1)
     have H5 : Par X w5 j h:=H3.grown hgr5 (fun e => by have:=(hl1 _ e.symm).1; omega) (fun e => by have:=(hl1 _ e.symm).1; omega)
     clear hown3 hkl3 hkt3 H3 hB3 hown5 hgr5 hat5 hi hz0 hzz1 hzz2 i0 hl1
     go_wp2
     go_roundw
     case rel => exact ⟨j,fu - 1,acc ++ [t],some ⟨g,0,none⟩,cap,by simp,by simpa using hO,hB5,H5,by simp; omega,HX⟩
     case measure => rw [H5.pos,Hk.pos]; have:=H5.lt; omega
theorem commasF_stop {l : List Tk} {pr : Nat → Res Tr} {f : Nat} {acc : List Tr} {k : Nat} (hf : 0 < f) (hm : isM l k [44] = false) : commasF l pr f acc k = .ok acc k:=by
 match f,hf with
 | f + 1,_ => simp [commasF,hm]
theorem commasF_bad {l : List Tk} {pr : Nat → Res Tr} {f : Nat} {acc : List Tr} {k j : Nat} (hf : 0 < f) (hm : isM l k [44] = true) (hp : pr (k + 1) = .bad j) : commasF l pr f acc k = .bad j:=by
 match f,hf with
 | f + 1,_ => simp [commasF,hm,hp,Res.bind]
theorem commasF_step {l : List Tk} {pr : Nat → Res Tr} {f : Nat} {acc : List Tr} {k j : Nat} {t : Tr} (hf : 0 < f) (hm : isM l k [44] = true) (hp : pr (k + 1) = .ok t j) : commasF l pr f acc k = commasF l pr (f - 1) (acc ++ [t]) j:=by
 match f,hf with
 | f + 1,_ => simp [commasF,hm,hp,Res.bind]
set_option maxRecDepth 20000 in
set_option maxHeartbeats 1600000 in
theorem commas_any (X : Px) (w : World) (i : Nat) (h : Bool) (pr : Nat → Res Tr) (f : Nat) (bs ls : Array Value) (he : Enters Tryz.prog f) (H : Par X w i h)
    (hI : ∀ w1 k,i ≤ k → But X.P w.heap.size w w1 → Par X w1 k h → Calls Tryz.prog f (bs ++ ls) w1 (OutT X w1 k h (pr k))) :
    Calls Tryz.prog 193 #[X.p,.func (.func f) bs ls] w (fun e w' => OutL X w i h (commasR X.l pr i) e w' ∧ ∀ ts j,commasR X.l pr i = .ok ts j → 0 < ts.length):=by
  have eg : ∀ args w,(callFunc f args).run Tryz.prog w = .ok (.enter f args) w:=he
  have hpl:=H.plt
  have htl:=H.tlt
  have HI:=Lib.hid hI
  clear hI
  have cT:=HI.out w i (Nat.le_refl _) (But.refl _ _ _) H
  go_enter Tryz.func193,Tryz.ntmps193
  go_wp2_with fail
  refine cT.mono ?_
  rintro e w0 ⟨hb0,hr⟩
  have hz0:=hb0.size
  clear cT
  cases hp : pr i with
  | bad j =>
   rw [hp] at hr
   obtain ⟨rfl,h',H2⟩:=hr
   have HX : Hid (commasR X.l pr i = .bad j):=by simp [Hid,commasR,hp,Res.bind]
   exact ⟨rfl,OutL.of HX ⟨hb0,rfl,h',H2⟩,fun ts j e => by rw [HX.out] at e; cases e⟩
  | ok t0 j0 =>
   rw [hp] at hr
   obtain ⟨hkj0,H00,sl0,rfl,hk0⟩:=hr
   obtain ⟨ao0,n0,cap0,rfl⟩:=hk0.slice
   have HS : Hid (commasR X.l pr i = commasF X.l pr (X.l.length + 1) [t0] j0):=by simp [Hid,commasR,hp,Res.bind]
   have hO0 : OwnL (w0.alloc (.cells #[.int .i64 t0.kind,.string ⟨t0.text.toArray⟩,.int .i64 t0.num,.slice ao0 n0 cap0] 24)) w.heap.size (.slice (some ⟨w0.heap.size,0,none⟩) 1 1) [t0]:=OwnL.one hz0 hk0 (Nat.le_refl _) (Nat.le_refl _)
   have hB0 : But X.P w.heap.size w (w0.alloc (.cells #[.int .i64 t0.kind,.string ⟨t0.text.toArray⟩,.int .i64 t0.num,.slice ao0 n0 cap0] 24)):=hb0.alloc hz0 _
   have H0 : Par X (w0.alloc (.cells #[.int .i64 t0.kind,.string ⟨t0.text.toArray⟩,.int .i64 t0.num,.slice ao0 n0 cap0] 24)) j0 h:=H00.alloc _
   clear hp hk0
   go_wp2_with fail
   go_loopw [5] (fun v wr => ∃ (k fu : Nat) (acc : List Tr) (ao : Option Addr) (cv : Nat),v = .slice ao acc.length cv ∧ OwnL wr w.heap.size (.slice ao acc.length cv) acc ∧ But X.P w.heap.size w wr ∧ Par X wr k h ∧ i + acc.length ≤ k ∧ 0 < acc.length ∧ Hid (X.l.length - k < fu ∧ commasR X.l pr i = commasF X.l pr fu acc k)) (fun _ wr => X.l.length - posOf X wr)
   case atStart => exact ⟨j0,X.l.length + 1,[t0],some ⟨w0.heap.size,0,none⟩,1,rfl,hO0,hB0,H0,by simp; omega,by simp,by omega,HS.out⟩
   case round =>
    obtain ⟨k,fu,acc,ao,cv,rfl,hown,hbr,Hk,hik,hpos,HF⟩:=hrel
    clear HS hO0 hB0 H0 H00
    have hzr:=hbr.size
    cases hm : isM X.l k [44] with
    | false =>
     have cI:=take_no X wr k h Hk [44] hm
     have HX : Hid (commasR X.l pr i = .ok acc k):=HF.out.2.trans (commasF_stop (by have:=HF.out.1; omega) hm)
     clear hm
     go_wp2_with fail
     refine cI.mono ?_
     rintro e w1 ⟨rfl,hb1,H1⟩
     go_wp2
     go_ret
     exact ⟨OutL.of HX ⟨hbr.trans (hb1.mono hzr),hik,H1,_,rfl,hown.but hb1 (Nat.le_refl _) (by omega)⟩,fun ts j e => by rw [HX.out] at e; cases e; exact hpos⟩
    | true =>
     have cI:=take_yes X wr k h Hk [44] (by decide) hm
     have HM:=Lib.hid hm
     clear hm
     go_wp2_with fail
     refine cI.mono ?_
     rintro e w1 ⟨rfl,hb1,H1⟩
     have hz1:=hb1.size
     have hB1 : But X.P w.heap.size w w1:=hbr.trans (hb1.mono hzr)
     have hown1:=hown.but hb1 (Nat.le_refl _) (by omega)
     have cT:=HI.out w1 (k + 1) (by omega) hB1 H1
     clear cI
     go_wp2_with fail
     refine cT.mono ?_
     rintro e w2 ⟨hb2,hr⟩
     have hz2:=hb2.size
     have hB2 : But X.P w.heap.size w w2:=hB1.trans (hb2.mono (by omega))
     clear cT
     cases hp : pr (k + 1) with
     | bad j =>
      rw [hp] at hr
      obtain ⟨rfl,h',H2⟩:=hr
      have HX : Hid (commasR X.l pr i = .bad j):=HF.out.2.trans (commasF_bad (by have:=HF.out.1; omega) HM.out hp)
      exact ⟨rfl,OutL.of HX ⟨hB2,rfl,h',H2⟩,fun ts j e => by rw [HX.out] at e; cases e⟩
     | ok t j =>
      rw [hp] at hr
      obtain ⟨hkj,H2,sl,rfl,hk⟩:=hr
      obtain ⟨ao2,n2,cap2,rfl⟩:=hk.slice
      have HX : Hid (X.l.length - j < fu - 1 ∧ commasR X.l pr i = commasF X.l pr (fu - 1) (acc ++ [t]) j):=⟨by have:=HF.out.1; have:=H2.lt; omega,HF.out.2.trans (commasF_step (by have:=HF.out.1; omega) HM.out hp)⟩
      clear hp HF
      obtain ⟨sls,hown2,hkl⟩:=hown1
      have hl1:=hown2.lt
      have hown3 : (w2.alloc (.cells #[.int .i64 t.kind,.string ⟨t.text.toArray⟩,.int .i64 t.num,.slice ao2 n2 cap2] 24)).ownsRow w.heap.size 24 4 (.slice ao acc.length cv) acc.length (cellsOf acc sls) :=
        (ownsRow_fr (fun b hb1 hb2' => hb2.block b hb2' (by omega)) hown2).alloc _
      have hkl3 : KL (w2.alloc (.cells #[.int .i64 t.kind,.string ⟨t.text.toArray⟩,.int .i64 t.num,.slice ao2 n2 cap2] 24)) (fun b => (w.heap.size ≤ b ∧ b < w1.heap.size) ∧ some b ≠ (Value.slice ao acc.length cv).ownBlock) acc sls :=
        hkl.fr (((Fr.refl _ _).but hb2 (fun b hb => ⟨hb.1.2,by omega⟩)).alloc (fun b hb => by omega) _) (fun _ hb => hb)
      have hkt3 : KT (w2.alloc (.cells #[.int .i64 t.kind,.string ⟨t.text.toArray⟩,.int .i64 t.num,.slice ao2 n2 cap2] 24)) (Rg w1.heap.size w2.heap.size) t (.slice ao2 n2 cap2) :=
        hk.fr ((Fr.refl _ _).alloc (fun b hb => hb.2) _) (fun _ hb => hb)
      have H3 : Par X (w2.alloc (.cells #[.int .i64 t.kind,.string ⟨t.text.toArray⟩,.int .i64 t.num,.slice ao2 n2 cap2] 24)) j h:=H2.alloc _
      have hB3 : But X.P w.heap.size w (w2.alloc (.cells #[.int .i64 t.kind,.string ⟨t.text.toArray⟩,.int .i64 t.num,.slice ao2 n2 cap2] 24)):=hB2.alloc (by omega) _
      have hbd:=H2.bnd
      obtain ⟨i0,hi,hz0,hzz1,hzz2⟩:=info_parts Tryz.info24
      clear hown2 hkl hk hown
      go_wp2_with (at_builtin; refine wpList_append_lies _ rfl _ _ 22 rfl w.heap.size 24 i0 _ 4 56 Tryz.underlying22 hi hz0 hzz1 hzz2 rfl (by decide) _ _ _ rfl hown3 ⟨w2.heap.size,0,none⟩ 1 1 [.int .i64 t.kind,.string ⟨t.text.toArray⟩,.int .i64 t.num,.slice ao2 n2 cap2] rfl rfl ?c1 ?c2 (by decide) ?c3 ?c4 ?c5 (w2.heap.size + 1) ?c6 ?_)
      case c1 =>
       intro j u hj
       match j,hj with
       | 0,hj => simp at hj; subst hj; simp [Addr.add]
       | 1,hj => simp at hj; subst hj; simp [Addr.add]
       | 2,hj => simp at hj; subst hj; simp [Addr.add]
       | 3,hj => simp at hj; subst hj; simp [Addr.add]
      case c2 => intro u hu; simp at hu; rcases hu with rfl | rfl | rfl | rfl <;> rfl
      case c3 => unfold maxLen; omega
      case c4 => omega
      case c5 => simp; omega
      case c6 => simp
      intro g cap w5 hown5 hgr5 hat5 hlt5
      have hz5:=hgr5.size
      rw [World.size_alloc] at hz5
      have hO : OwnL w5 w.heap.size (.slice (some ⟨g,0,none⟩) (acc.length + 1) cap) (acc ++ [t]) :=
        own_snoc (lo:=w1.heap.size) (hi:=w2.heap.size) hkl3 hkt3 (by omega) (by simp; omega) (fun k hk => (hl1 k hk).2) (by simp) hown5 hgr5 (by simpa using hat5) rfl
      have hB5 : But X.P w.heap.size w w5:=hB3.grown hgr5 (by simp; omega) (fun k hk => (hl1 k hk).1)
      have H5 : Par X w5 j h:=H3.grown hgr5 (fun e => by have:=(hl1 _ e.symm).1; omega) (fun e => by have:=(hl1 _ e.symm).1; omega)
      clear hown3 hkl3 hkt3 H3 hB3 hown5 hgr5 hat5 hi hz0 hzz1 hzz2 i0 hl1
      go_wp2
      go_roundw
      case rel => exact ⟨j,fu - 1,acc ++ [t],some ⟨g,0,none⟩,cap,by simp,by simpa using hO,hB5,H5,by simp; omega,by simp,HX⟩
      case measure => rw [H5.pos,Hk.pos]; have:=H5.lt; omega
/-- The boxes of what a closure has caught: the parser, a text and a part; behind a call they lie as they lay. -/
theorem listed1_any (X : Px) (w : World) (i : Nat) (h : Bool) (pr : Nat → Res Tr) (f : Nat) (bs ls : Array Value) (he : Enters Tryz.prog f) (H : Par X w i h) (s : List UInt8) (b1 b2 b3 : Nat)
    (k1 : w.cell? ⟨b1,0,none⟩ = some X.p) (k2 : w.cell? ⟨b2,0,none⟩ = some (.string ⟨s.toArray⟩)) (k3 : w.cell? ⟨b3,0,none⟩ = some (.func (.func f) bs ls))
    (hI : ∀ w1 k,i ≤ k → But X.P w.heap.size w w1 → Par X w1 k h → Calls Tryz.prog f (bs ++ ls) w1 (OutT X w1 k h (pr k))) :
    Calls Tryz.prog 192 #[.pointer (some ⟨b1,0,none⟩),.pointer (some ⟨b2,0,none⟩),.pointer (some ⟨b3,0,none⟩)] w (OutL X w i h (innerR X.l s pr i)):=by
  have cI:=is_any X w i h H s
  have l1:=lt_of_cell k1
  have l3:=lt_of_cell k3
  cases hm : isM X.l i s with
  | true =>
   rw [hm] at cI
   have HX : Hid (innerR X.l s pr i = .ok [] i):=by simp [Hid,innerR,hm]
   clear hm
   go_enter Tryz.func192,Tryz.ntmps192
   go_wp2_with fail
   refine cI.mono ?_
   rintro e w1 ⟨rfl,hb1⟩
   go_wp2
   go_ret
   exact OutL.of HX ⟨But.of_below hb1,by simp,H.below hb1 (Nat.le_refl _),_,rfl,OwnL.nil _ _⟩
  | false =>
   rw [hm] at cI
   have HX : Hid (innerR X.l s pr i = commasR X.l pr i):=by simp [Hid,innerR,hm]
   clear hm
   go_enter Tryz.func192,Tryz.ntmps192
   go_wp2_with fail
   refine cI.mono ?_
   rintro e w1 ⟨rfl,hb1⟩
   have hz1:=hb1.size
   have m1 : w1.cell? ⟨b1,0,none⟩ = some X.p:=(hb1.cell (p:=⟨b1,0,none⟩) l1).trans k1
   have m3 : w1.cell? ⟨b3,0,none⟩ = some (.func (.func f) bs ls):=(hb1.cell (p:=⟨b3,0,none⟩) l3).trans k3
   have cC:=commas_any X w1 i h pr f bs ls he (H.below hb1 (Nat.le_refl _)) (fun w2 k hk hb2 H2 => hI w2 k hk ((But.of_below hb1).trans (hb2.mono hz1)) H2)
   clear cI k1 k2 k3
   go_wp2_with fail
   refine cC.mono ?_
   rintro e w2 ⟨⟨hb2,hr⟩,_⟩
   have hB2 : But X.P w.heap.size w w2:=(But.of_below hb1).trans (hb2.mono hz1)
   clear cC
   generalize commasR X.l pr i = r at *
   cases r with
   | bad j =>
    obtain ⟨rfl,h',H2⟩:=hr
    exact ⟨rfl,OutL.of HX ⟨hB2,rfl,h',H2⟩⟩
   | ok ts j =>
    obtain ⟨hij,H2,v,rfl,hk⟩:=hr
    obtain ⟨ao,cap,rfl⟩:=hk.slice
    go_wp2
    go_ret
    exact OutL.of HX ⟨hB2,hij,H2,_,rfl,hk.wide hz1⟩
theorem enters_listed1 : Enters Tryz.prog 192:=enters_of Tryz.func192 (by kernel_rfl) rfl
theorem listed_any (X : Px) (w : World) (i : Nat) (h : Bool) (pr : Nat → Res Tr) (f : Nat) (bs ls : Array Value) (he : Enters Tryz.prog f) (H : Par X w i h) (o s : List UInt8) (ho : o ≠ []) (hs : s ≠ [])
    (hI : isM X.l i o = true → ∀ w1 k,i < k → But X.P w.heap.size w w1 → Par X w1 k false → Calls Tryz.prog f (bs ++ ls) w1 (OutT X w1 k false (pr k))) :
    Calls Tryz.prog 169 #[X.p,.string ⟨o.toArray⟩,.string ⟨s.toArray⟩,.func (.func f) bs ls] w (fun e w' => OutL X w i h (listedR X.l o s pr i) e w' ∧ ∀ ts j,listedR X.l o s pr i = .ok ts j → i < j):=by
  have H1 : Par X (((w.alloc (.cells #[X.p] 51)).alloc (.cells #[.string ⟨s.toArray⟩] 9)).alloc (.cells #[.func (.func f) bs ls] 87)) i h:=((H.alloc _).alloc _).alloc _
  have hb1 : But X.P w.heap.size w (((w.alloc (.cells #[X.p] 51)).alloc (.cells #[.string ⟨s.toArray⟩] 9)).alloc (.cells #[.func (.func f) bs ls] 87)):=(((But.refl _ _ _).alloc (Nat.le_refl _) _).alloc (by simp) _).alloc (by simp; omega) _
  have k1 : (((w.alloc (.cells #[X.p] 51)).alloc (.cells #[.string ⟨s.toArray⟩] 9)).alloc (.cells #[.func (.func f) bs ls] 87)).cell? ⟨w.heap.size,0,none⟩ = some X.p:=by simp [go_sem]
  have k2 : (((w.alloc (.cells #[X.p] 51)).alloc (.cells #[.string ⟨s.toArray⟩] 9)).alloc (.cells #[.func (.func f) bs ls] 87)).cell? ⟨w.heap.size + 1,0,none⟩ = some (.string ⟨s.toArray⟩):=by simp [go_sem]
  have k3 : (((w.alloc (.cells #[X.p] 51)).alloc (.cells #[.string ⟨s.toArray⟩] 9)).alloc (.cells #[.func (.func f) bs ls] 87)).cell? ⟨w.heap.size + 2,0,none⟩ = some (.func (.func f) bs ls):=by simp [go_sem]
  have hz1 : (((w.alloc (.cells #[X.p] 51)).alloc (.cells #[.string ⟨s.toArray⟩] 9)).alloc (.cells #[.func (.func f) bs ls] 87)).heap.size = w.heap.size + 3:=by simp
  have hpl:=H.plt
  go_enter Tryz.func169,Tryz.ntmps169
  go_wp2_with fail
  generalize (((w.alloc (.cells #[X.p] 51)).alloc (.cells #[.string ⟨s.toArray⟩] 9)).alloc (.cells #[.func (.func f) bs ls] 87)) = W at *
  refine (betweenL_any X W i h (innerR X.l s pr) 192 #[] #[.pointer (some ⟨w.heap.size,0,none⟩),.pointer (some ⟨w.heap.size + 1,0,none⟩),.pointer (some ⟨w.heap.size + 2,0,none⟩)] enters_listed1 H1 o s ho hs (fun hm w1 hb H2 => ?_)).mono ?_
  · have r : ∀ b,b < W.heap.size → b ≠ X.P → w1.cell? ⟨b,0,none⟩ = W.cell? ⟨b,0,none⟩:=fun b h1 h2 => hb.cell h1 h2
    exact listed1_any X w1 (i + 1) false pr f bs ls he H2 s w.heap.size (w.heap.size + 1) (w.heap.size + 2) ((r _ (by omega) (by omega)).trans k1) ((r _ (by omega) (by omega)).trans k2) ((r _ (by omega) (by omega)).trans k3)
      (fun w2 k hk hb2 H3 => hI hm w2 k (by omega) ((hb1.trans (hb.mono (by omega))).trans (hb2.mono (by have:=hb.size; omega))) H3)
  rintro e w2 ⟨⟨hb2,hr⟩,hj⟩
  have hB2 : But X.P w.heap.size w w2:=hb1.trans (hb2.mono (by omega))
  have HX : Hid (listedR X.l o s pr i = betweenR X.l o s (innerR X.l s pr) i):=rfl
  clear k1 k2 k3
  generalize betweenR X.l o s (innerR X.l s pr) i = r at *
  cases r with
  | bad j =>
   obtain ⟨rfl,h',H2⟩:=hr
   exact ⟨rfl,OutL.of HX ⟨hB2,rfl,h',H2⟩,fun ts j e => by rw [HX.out] at e; cases e⟩
  | ok ts j =>
   obtain ⟨hij,H2,v,rfl,hk⟩:=hr
   obtain ⟨ao,cap,rfl⟩:=hk.slice
   go_wp2
   go_ret
   exact ⟨OutL.of HX ⟨hB2,hij,H2,_,rfl,hk.wide (by omega)⟩,fun ts' j' e => by rw [HX.out] at e; exact hj ts' j' e⟩
theorem members1_any (X : Px) (w : World) (i : Nat) (h : Bool) (pr : Nat → Res Tr) (f : Nat) (bs ls : Array Value) (he : Enters Tryz.prog f) (H : Par X w i h) (b1 b2 : Nat)
    (k1 : w.cell? ⟨b1,0,none⟩ = some X.p) (k2 : w.cell? ⟨b2,0,none⟩ = some (.func (.func f) bs ls))
    (hI : ∀ w1 k,i ≤ k → But X.P w.heap.size w w1 → Par X w1 k h → Calls Tryz.prog f (bs ++ ls) w1 (OutT X w1 k h (pr k))) :
    Calls Tryz.prog 167 #[.pointer (some ⟨b1,0,none⟩),.pointer (some ⟨b2,0,none⟩)] w (OutL X w i h (upToR X.l [125] pr i)):=by
  have cC:=upTo_any X w i h [125] pr f bs ls he H hI
  go_enter Tryz.func167,Tryz.ntmps167
  go_wp2_with fail
  refine cC.mono ?_
  rintro e w2 ⟨hb2,hr⟩
  clear cC
  generalize upToR X.l [125] pr i = r at *
  cases r with
  | bad j =>
   obtain ⟨rfl,h',H2⟩:=hr
   exact ⟨rfl,hb2,rfl,h',H2⟩
  | ok ts j =>
   obtain ⟨hij,H2,v,rfl,hk⟩:=hr
   obtain ⟨ao,cap,rfl⟩:=hk.slice
   go_wp2
   go_ret
   exact ⟨hb2,hij,H2,_,rfl,hk⟩
theorem enters_members1 : Enters Tryz.prog 167:=enters_of Tryz.func167 (by kernel_rfl) rfl
theorem members_any (X : Px) (w : World) (i : Nat) (h : Bool) (pr : Nat → Res Tr) (f : Nat) (bs ls : Array Value) (he : Enters Tryz.prog f) (H : Par X w i h)
    (hI : isM X.l i [123] = true → ∀ w1 k,i < k → But X.P w.heap.size w w1 → Par X w1 k false → Calls Tryz.prog f (bs ++ ls) w1 (OutT X w1 k false (pr k))) :
    Calls Tryz.prog 138 #[X.p,.func (.func f) bs ls] w (fun e w' => OutL X w i h (membersR X.l pr i) e w' ∧ ∀ ts j,membersR X.l pr i = .ok ts j → i < j):=by
  have H1 : Par X ((w.alloc (.cells #[X.p] 51)).alloc (.cells #[.func (.func f) bs ls] 87)) i h:=(H.alloc _).alloc _
  have hb1 : But X.P w.heap.size w ((w.alloc (.cells #[X.p] 51)).alloc (.cells #[.func (.func f) bs ls] 87)):=((But.refl _ _ _).alloc (Nat.le_refl _) _).alloc (by simp) _
  have k1 : ((w.alloc (.cells #[X.p] 51)).alloc (.cells #[.func (.func f) bs ls] 87)).cell? ⟨w.heap.size,0,none⟩ = some X.p:=by simp [go_sem]
  have k2 : ((w.alloc (.cells #[X.p] 51)).alloc (.cells #[.func (.func f) bs ls] 87)).cell? ⟨w.heap.size + 1,0,none⟩ = some (.func (.func f) bs ls):=by simp [go_sem]
  have hz1 : ((w.alloc (.cells #[X.p] 51)).alloc (.cells #[.func (.func f) bs ls] 87)).heap.size = w.heap.size + 2:=by simp
  have hpl:=H.plt
  go_enter Tryz.func138,Tryz.ntmps138
  go_wp2_with fail
  generalize ((w.alloc (.cells #[X.p] 51)).alloc (.cells #[.func (.func f) bs ls] 87)) = W at *
  refine (betweenL_any X W i h (upToR X.l [125] pr) 167 #[] #[.pointer (some ⟨w.heap.size,0,none⟩),.pointer (some ⟨w.heap.size + 1,0,none⟩)] enters_members1 H1 [123] [125] (by decide) (by decide) (fun hm w1 hb H2 => ?_)).mono ?_
  · have r : ∀ b,b < W.heap.size → b ≠ X.P → w1.cell? ⟨b,0,none⟩ = W.cell? ⟨b,0,none⟩:=fun b h1 h2 => hb.cell h1 h2
    exact members1_any X w1 (i + 1) false pr f bs ls he H2 w.heap.size (w.heap.size + 1) ((r _ (by omega) (by omega)).trans k1) ((r _ (by omega) (by omega)).trans k2)
      (fun w2 k hk hb2 H3 => hI hm w2 k (by omega) ((hb1.trans (hb.mono (by omega))).trans (hb2.mono (by have:=hb.size; omega))) H3)
  rintro e w2 ⟨⟨hb2,hr⟩,hj⟩
  have hB2 : But X.P w.heap.size w w2:=hb1.trans (hb2.mono (by omega))
  have HX : Hid (membersR X.l pr i = betweenR X.l [123] [125] (upToR X.l [125] pr) i):=rfl
  clear k1 k2
  generalize betweenR X.l [123] [125] (upToR X.l [125] pr) i = r at *
  cases r with
  | bad j =>
   obtain ⟨rfl,h',H2⟩:=hr
   exact ⟨rfl,OutL.of HX ⟨hB2,rfl,h',H2⟩,fun ts j e => by rw [HX.out] at e; cases e⟩
  | ok ts j =>
   obtain ⟨hij,H2,v,rfl,hk⟩:=hr
   obtain ⟨ao,cap,rfl⟩:=hk.slice
   go_wp2
   go_ret
   exact ⟨OutL.of HX ⟨hB2,hij,H2,_,rfl,hk.wide (by omega)⟩,fun ts' j' e => by rw [HX.out] at e; exact hj ts' j' e⟩
end Go.Proofs.YtffnaknidofobaaGreatDoor
