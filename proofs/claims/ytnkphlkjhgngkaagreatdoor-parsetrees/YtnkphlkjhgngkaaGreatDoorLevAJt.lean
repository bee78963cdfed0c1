/- The document's Level. -/
import Derived.Test.YtnkphlkjhgngkaaGreatDoorParAJt
import Derived.Lib.Hide
import Derived.Test.YtnkphlkjhgngkaaGreatDoorRdGJt
namespace Go.Proofs.YtnkphlkjhgngkaaGreatDoor
open Go.RowKit
attribute [local go_sem ↓] Go.wp_at_zero Go.wp_at_succ
set_option maxRecDepth 20000 in
set_option maxHeartbeats 1600000 in
theorem rlevel_any (s : List UInt8) (w : World) : Calls Tryz.prog 16 #[.string ⟨s.toArray⟩] w fun e w' => e = .returned (.int .i64 (rankL s)) ∧ w' = w:=by
 by_cases h0 : s = [124,124]
 · subst h0
   have HP : Hid (rankL [124,124] = 1):=Lib.hid (by decide)
   go_enter Tryz.func16,Tryz.ntmps16
   go_wp2
   go_ret
   exact ⟨by simp [HP.out],rfl⟩
 have e0 : (s == [124,124]) = false:=by simpa using h0
 clear h0
 by_cases h1 : s = [38,38]
 · subst h1
   have HP : Hid (rankL [38,38] = 2):=Lib.hid (by decide)
   go_enter Tryz.func16,Tryz.ntmps16
   go_wp2
   go_ret
   exact ⟨by simp [HP.out],rfl⟩
 have e1 : (s == [38,38]) = false:=by simpa using h1
 clear h1
 by_cases h2 : s = [61,61]
 · subst h2
   have HP : Hid (rankL [61,61] = 3):=Lib.hid (by decide)
   go_enter Tryz.func16,Tryz.ntmps16
   go_wp2
   go_ret
   exact ⟨by simp [HP.out],rfl⟩
 have e2 : (s == [61,61]) = false:=by simpa using h2
 clear h2
 by_cases h3 : s = [33,61]
 · subst h3
   have HP : Hid (rankL [33,61] = 3):=Lib.hid (by decide)
   go_enter Tryz.func16,Tryz.ntmps16
   go_wp2
   go_ret
   exact ⟨by simp [HP.out],rfl⟩
 have e3 : (s == [33,61]) = false:=by simpa using h3
 clear h3
 by_cases h4 : s = [60]
 · subst h4
   have HP : Hid (rankL [60] = 3):=Lib.hid (by decide)
   go_enter Tryz.func16,Tryz.ntmps16
   go_wp2
   go_ret
   exact ⟨by simp [HP.out],rfl⟩
 have e4 : (s == [60]) = false:=by simpa using h4
 clear h4
 by_cases h5 : s = [60,61]
 · subst h5
   have HP : Hid (rankL [60,61] = 3):=Lib.hid (by decide)
   go_enter Tryz.func16,Tryz.ntmps16
   go_wp2
   go_ret
   exact ⟨by simp [HP.out],rfl⟩
 have e5 : (s == [60,61]) = false:=by simpa using h5
 clear h5
 by_cases h6 : s = [62]
 · subst h6
   have HP : Hid (rankL [62] = 3):=Lib.hid (by decide)
   go_enter Tryz.func16,Tryz.ntmps16
   go_wp2
   go_ret
   exact ⟨by simp [HP.out],rfl⟩
 have e6 : (s == [62]) = false:=by simpa using h6
 clear h6
 by_cases h7 : s = [62,61]
 · subst h7
   have HP : Hid (rankL [62,61] = 3):=Lib.hid (by decide)
   go_enter Tryz.func16,Tryz.ntmps16
   go_wp2
   go_ret
   exact ⟨by simp [HP.out],rfl⟩
 have e7 : (s == [62,61]) = false:=by simpa using h7
 clear h7
 by_cases h8 : s = [43]
 · subst h8
   have HP : Hid (rankL [43] = 4):=Lib.hid (by decide)
   go_enter Tryz.func16,Tryz.ntmps16
   go_wp2
   go_ret
   exact ⟨by simp [HP.out],rfl⟩
 have e8 : (s == [43]) = false:=by simpa using h8
 clear h8
 by_cases h9 : s = [45]
 · subst h9
   have HP : Hid (rankL [45] = 4):=Lib.hid (by decide)
   go_enter Tryz.func16,Tryz.ntmps16
   go_wp2
   go_ret
   exact ⟨by simp [HP.out],rfl⟩
 have e9 : (s == [45]) = false:=by simpa using h9
 clear h9
 by_cases h10 : s = [42]
 · subst h10
   have HP : Hid (rankL [42] = 5):=Lib.hid (by decide)
   go_enter Tryz.func16,Tryz.ntmps16
   go_wp2
   go_ret
   exact ⟨by simp [HP.out],rfl⟩
 have e10 : (s == [42]) = false:=by simpa using h10
 clear h10
 by_cases h11 : s = [47]
 · subst h11
   have HP : Hid (rankL [47] = 5):=Lib.hid (by decide)
   go_enter Tryz.func16,Tryz.ntmps16
   go_wp2
   go_ret
   exact ⟨by simp [HP.out],rfl⟩
 have e11 : (s == [47]) = false:=by simpa using h11
 clear h11
 by_cases h12 : s = [37]
 · subst h12
   have HP : Hid (rankL [37] = 5):=Lib.hid (by decide)
   go_enter Tryz.func16,Tryz.ntmps16
   go_wp2
   go_ret
   exact ⟨by simp [HP.out],rfl⟩
 have e12 : (s == [37]) = false:=by simpa using h12
 clear h12
 have HR : Hid (rankL s = 0):=by simp only [Hid,rankL,e0,e1,e2,e3,e4,e5,e6,e7,e8,e9,e10,e11,e12]; rfl
 go_enter Tryz.func16,Tryz.ntmps16
 go_wp2
 go_ret
 exact ⟨by simp [HR.out],rfl⟩
end Go.Proofs.YtnkphlkjhgngkaaGreatDoor

namespace Go.Proofs.YtnkphlkjhgngkaaGreatDoor
open Go.RowKit
attribute [local go_sem ↓] Go.wp_at_zero Go.wp_at_succ
theorem climbV_bad {l : List Tk} {p : Vs} {h : Bool} {least : Int} {f : Nat} {t : Tr} {k : Sg} (hf : 0 < f) (hb : k.2 = true) : climbV l p h least f t k = (t,k):=by
 match f,hf with
 | f + 1,_ => simp [climbV,hb]
theorem climbV_stop {l : List Tk} {p : Vs} {h : Bool} {least : Int} {f : Nat} {t : Tr} {k : Sg} (hf : 0 < f) (hb : k.2 = false) (hm : ¬ least ≤ rankL (nowV l k)) : climbV l p h least f t k = (t,k):=by
 match f,hf with
 | f + 1,_ => simp [climbV,hb,hm]
theorem climbV_step {l : List Tk} {p : Vs} {h : Bool} {least : Int} {f : Nat} {t r : Tr} {k j : Sg} (hf : 0 < f) (hb : k.2 = false) (hm : least ≤ rankL (nowV l k)) (hp : p.bin h (rankL (nowV l k) + 1) (stepV k) = (r,j)) : climbV l p h least f t k = climbV l p h least (f - 1) (.mk 53 (nowV l k) 0 [t,r]) j:=by
 match f,hf with
 | f + 1,_ => simp [climbV,hb,hm,hp,bindV]
theorem rank_nil : rankL [] = 0:=by decide
set_option maxRecDepth 20000 in
set_option maxHeartbeats 4000000 in
theorem rclimb_any (X : Px) (n : Nat) (A : GoodR X n) (w : World) (s : Sg) (h : Bool) (least : Int) (H : Rdr X w s h) (hl1 : 1 ≤ least) (hl6 : least ≤ 6) (hn : mS X.toks.length s + 2 ≤ n + 1) :
    Calls Tryz.prog 163 #[X.p,.int .i64 least] w (OutR X w h (binV X.l (vs X.l n) h least s)):=by
  obtain ⟨W0,hW0,S0⟩:=Sd.first H
  have c1:=A.una W0 s h S0.rdr (by omega)
  have u1:=(upV X.l n).una h s
  rcases hp1 : (vs X.l n).una h s with ⟨t1,s1⟩
  rw [hp1] at c1 u1
  have HS : Hid (binV X.l (vs X.l n) h least s = climbV X.l (vs X.l n) h least (X.l.length + 1) t1 s1):=Lib.hid (by simp [binV,hp1,bindV])
  clear hp1
  go_enter Tryz.func163,Tryz.ntmps163
  go_wp2_with fail
  refine c1.mono ?_
  rintro e w1 ⟨hb1,H1,sl1,rfl,hk1⟩
  obtain ⟨ao1,n1,p1,rfl⟩:=hk1.slice
  have S1:=S0.call hb1 H1
  have Tt1:=Tre.newD S0 hk1
  have hH:=Held.newD S1 Tt1
  have S2:=S1.alloc (.cells #[.int .i64 t1.kind,.string ⟨t1.text.toArray⟩,.int .i64 t1.num,.slice ao1 n1 p1] 24)
  clear c1 hk1 Tt1
  have hmm : w1.heap.size ≠ w.heap.size:=by have:=S1.lt; omega
  have HP:=S1.plt
  go_wp2_with fail
  go_loopw [6] (fun _ wr => ∃ (k : Sg) (fu : Nat) (t : Tr) (ao : Option Addr) (nn c : Nat),Sd X w wr k h ∧ Held X w wr w1.heap.size t ao nn c ∧ Up s k ∧ Hid (X.l.length - k.1 < fu ∧ binV X.l (vs X.l n) h least s = climbV X.l (vs X.l n) h least fu t k)) (fun _ wr => X.l.length - posR X wr)
  case atStart => exact ⟨s1,X.l.length + 1,t1,ao1,n1,p1,S2,hH,u1,by omega,HS.out⟩
  case round =>
   obtain ⟨k,fu,t,ao,nn,c,Sk,Tk,hUk,HF⟩:=hrel
   have qk:=hUk.mS (n:=X.toks.length)
   clear HS S2 hH S1 H1
   cases hbd : k.2 with
   | true =>
    have HX : Hid (binV X.l (vs X.l n) h least s = (t,k)):=HF.out.2.trans (climbV_bad (by have:=HF.out.1; omega) hbd)
    have c2:=Sk.rdr.c2
    rw [hbd] at c2
    clear hbd
    obtain ⟨q0,q1,q2,q3,_⟩:=Tk.cells
    obtain ⟨u0,u1,u2,u3,b0,b1,b2,b3,bf⟩:=Sk.box.open
    have bf0:=bf 0
    have bf1:=bf 1
    have bf2:=bf 2
    have bf3:=bf 3
    clear bf
    go_wp2
    obtain ⟨Wf,hWf,hput,_,d0,d1,d2,d3⟩:=putN4 Sk.box (.int .i64 t.kind) (.string ⟨t.text.toArray⟩) (.int .i64 t.num) (.slice ao nn c)
    rw [hWf]
    exact bodyPost_ret (v:=.agg #[.int .i64 t.kind,.string ⟨t.text.toArray⟩,.int .i64 t.num,.slice ao nn c]) (by simp [results,Tryz.results163,go_sem,d0,d1,d2,d3]) rfl (OutR.of HX (Sk.done Tk.out hput))
   | false =>
    have HB:=Lib.hid hbd
    have c2:=Sk.rdr.c2
    rw [hbd] at c2
    clear hbd
    obtain ⟨x,hx⟩ : ∃ z,nowV X.l k = z:=⟨_,rfl⟩
    have NX:=Lib.hid hx
    clear hx
    have cM:=nowX_any X wr k h Sk.rdr x NX.out
    go_wp2_with fail
    refine cM.mono ?_
    rintro e w2 ⟨rfl,hd2⟩
    have S2:=Sk.below hd2
    have T2:=Tk.below hd2
    clear cM
    go_wp2_with fail
    refine (rlevel_any x w2).mono ?_
    rintro e w2 ⟨rfl,rfl⟩
    have hrk:=rankL_le x
    by_cases hle : least ≤ rankL x
    · have HL:=Lib.hid hle
      have hxn : nowV X.l k ≠ []:=fun e => by rw [NX.out] at e; rw [e,rank_nil] at hle; omega
      have hl:=now_at hxn Sk.rdr.le
      have hq:=mS_step hl.1 hl.2
      have bnd:=S2.rdr.bnd
      have cM:=nowX_any X w2 k h S2.rdr x NX.out
      clear hxn
      go_wp2_with fail
      refine cM.mono ?_
      rintro e w3 ⟨rfl,hd3⟩
      have S3:=S2.below hd3
      have T3:=T2.below hd3
      have p1:=S3.rdr.c1
      have pf:=S3.rdr.fz 1
      have hb4:=but_set w3 X.P w3.heap.size 1 (.int .i64 ((k.1 : Int) + 1))
      have S4:=S3.call hb4 (S3.rdr.step hl.2)
      have T4:=T3.mv S3 hb4
      clear cM hb4
      go_wp2_with fail
      clear p1 pf
      generalize w3.setCell ⟨X.P,1,none⟩ (.int .i64 ((k.1 : Int) + 1)) = w4 at *
      have rb : rankL x + 1 ≤ 6:=by omega
      have rb1 : 1 ≤ rankL x + 1:=by omega
      have hwr : IntKind.i64.wrap (rankL x + 1) = rankL x + 1:=by rw [IntKind.wrap_i64]; omega
      have cB:=A.bin w4.drew (stepV k) h (rankL x + 1) S4.drew.rdr rb1 rb (by omega)
      have uB:=(upV X.l n).bin h (rankL x + 1) (stepV k)
      rcases hp : (vs X.l n).bin h (rankL x + 1) (stepV k) with ⟨r,j⟩
      rw [hp] at cB uB
      have E5:=Lib.hid hp
      have hkj : k.1 + 1 ≤ j.1:=uB.at_
      clear hp
      obtain ⟨q0,q1,q2,q3,qf⟩:=T4.cells
      have qf0:=qf 0
      have qf1:=qf 1
      have qf2:=qf 2
      have qf3:=qf 3
      clear qf
      go_region_with (first
        | (go_at_call 16; refine (rlevel_any _ _).mono ?_; rintro e w' ⟨rfl,rfl⟩)
        | (go_at_call 163; refine cB.mono ?_; rintro e w5 ⟨hb5,H5,sl5,rfl,hk5⟩
           obtain ⟨ao5,n5,c5,rfl⟩:=hk5.slice
           have S5:=S4.drew.call hb5 H5
           have T5:=T4.drew.mv S4.drew hb5
           obtain ⟨y0,y1,y2,y3,_⟩:=T5.cells)
        | (go_at_call 23; refine (rnode_any _ _ _ _ _ _).mono ?_; rintro e w6 ⟨rfl,hb6⟩
           have S6:=(S5.alloc _).below hb6
           have T6:=(T5.alloc _).below hb6
           obtain ⟨r0,r1,r2,r3,rf⟩:=T6.cells
           have rf0:=rf 0
           have rf1:=rf 1
           have rf2:=rf 2
           have rf3:=rf 3
           clear rf))
      all_goals
       have hXl:=X.length
       have hjl:=H5.le
       have HX : Hid (X.l.length - j.1 < fu - 1 ∧ binV X.l (vs X.l n) h least s = climbV X.l (vs X.l n) h least (fu - 1) (.mk 53 x 0 [t,r]) j):=⟨by have:=HF.out.1; omega,HF.out.2.trans (NX.out ▸ climbV_step (by have:=HF.out.1; omega) HB.out (NX.out ▸ HL.out) (NX.out ▸ E5.out))⟩
       have l4:=T4.ltz
       have lz5:=hb5.size
       have ls4:=S4.lt
       have lz6:=hb6.size
       rw [World.size_alloc] at lz6
       have l4' : w4.drew.heap.size = w4.heap.size:=rfl
       have hkl : KL w5 (fun b => (w.heap.size + 1 ≤ b ∧ b < w5.heap.size) ∧ b ≠ w1.heap.size) [t,r] [.slice ao nn c,.slice ao5 n5 c5]:=by
        simp only [KL]
        exact ⟨_,_,rfl,T5.tre,_,_,rfl,hk5.fr (Fr.refl _ _) (fun b hb => ⟨⟨by omega,hb.2⟩,by omega⟩),rfl⟩
       have hkt:=kt_made (S':=fun b => (w.heap.size + 1 ≤ b ∧ b < w5.heap.size + 1) ∧ b ≠ w1.heap.size) 53 x 0 hkl (fun b hb => hb.1.2) (fun b hb => ⟨⟨hb.1.1,by omega⟩,hb.2⟩) ⟨⟨by omega,by omega⟩,by have:=T5.ltz; omega⟩ rfl
       have hT:=Held.put (X:=X) T6.box T6.lt (hkt.fr (fun b hb => hb6.block b (by simp; omega)) (fun b hb => ⟨⟨hb.1.1,by omega⟩,hb.2⟩)) rfl rfl rfl rfl
       have hS:=S6.put ((((Put.refl w1.heap.size w6).setCell 0 (.int .i64 53)).setCell 1 (.string ⟨x.toArray⟩)).setCell 2 (.int .i64 0) |>.setCell 3 (.slice (some ⟨w5.heap.size,0,none⟩) 2 2)) T6.lt
       clear hkl hkt r0 r1 r2 r3 rf0 rf1 rf2 rf3 hXl
       go_wp2
       go_roundw
       case rel => exact ⟨j,fu - 1,_,_,_,_,hS,hT,hUk.trans ((su_step k).up.trans uB),HX⟩
       case measure => rw [hS.rdr.pos,Sk.rdr.pos,X.length]; omega
    · have HX : Hid (binV X.l (vs X.l n) h least s = (t,k)):=HF.out.2.trans (climbV_stop (by have:=HF.out.1; omega) HB.out (NX.out ▸ hle))
      obtain ⟨q0,q1,q2,q3,_⟩:=T2.cells
      obtain ⟨u0,u1,u2,u3,b0,b1,b2,b3,bf⟩:=S2.box.open
      have bf0:=bf 0
      have bf1:=bf 1
      have bf2:=bf 2
      have bf3:=bf 3
      clear bf
      go_wp2
      obtain ⟨Wf,hWf,hput,_,d0,d1,d2,d3⟩:=putN4 S2.box (.int .i64 t.kind) (.string ⟨t.text.toArray⟩) (.int .i64 t.num) (.slice ao nn c)
      rw [hWf]
      exact bodyPost_ret (v:=.agg #[.int .i64 t.kind,.string ⟨t.text.toArray⟩,.int .i64 t.num,.slice ao nn c]) (by simp [results,Tryz.results163,go_sem,d0,d1,d2,d3]) rfl (OutR.of HX (S2.done T2.out hput))
end Go.Proofs.YtnkphlkjhgngkaaGreatDoor
