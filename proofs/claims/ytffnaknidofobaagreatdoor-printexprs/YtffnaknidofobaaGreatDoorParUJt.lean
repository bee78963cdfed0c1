/- The parser's selections, elements, cuts and calls: the closure of post. -/
import Derived.Test.YtffnaknidofobaaGreatDoorParTJt
namespace Go.Proofs.YtffnaknidofobaaGreatDoor
open Go.RowKit
attribute [local go_sem ↓] Go.wp_at_zero Go.wp_at_succ
theorem St.doneZ {X : Px} {w W : World} {i j : Nat} {h : Bool} {t : Tr} {sl : Value} {Z : Nat → Prop} (S : St X w W j h) (hZ : ∀ b,Z b → b < w.heap.size ∧ b ≠ X.P) (T : KT W (fun b => Z b ∨ Rg (w.heap.size + 1) W.heap.size b) t sl) {Wf : World} (hput : Put w.heap.size W Wf) (hij : i < j) : OutS X Z w i h (.ok t j) (.returned (tv t sl)) Wf:=by
 have hp:=S.plt
 have ht:=S.tlt
 have hz:=hput.size
 exact ⟨S.but.put hput (.inr (Nat.le_refl _)),hij,S.par.put hput (by omega) (by omega),sl,rfl,
   KT.fr T (fun b hb => hput.block b (by rcases hb with h1 | h1; have:=(hZ b h1).1; omega; omega)) (fun b hb => by rcases hb with h1 | h1; exact .inl h1; exact .inr ⟨by omega,by omega⟩)⟩
set_option maxRecDepth 20000 in
set_option maxHeartbeats 1600000 in
theorem post1_any (X : Px) (n : Nat) (A : Good X n) (Z : Nat → Prop) (w : World) (i : Nat) (t : Tr) (ao : Option Addr) (nn c : Nat) (pb m : Nat) (H : Par X w i false) (hZ : ∀ b,Z b → b < w.heap.size ∧ b ≠ X.P) (ht : KT w Z t (.slice ao nn c)) (hn : 3 * (X.l.length - i) + 1 ≤ n)
    (k0 : w.cell? ⟨pb,0,none⟩ = some X.p) (q0 : w.cell? ⟨m,0,none⟩ = some (.int .i64 t.kind)) (q1 : w.cell? ⟨m,1,none⟩ = some (.string ⟨t.text.toArray⟩)) (q2 : w.cell? ⟨m,2,none⟩ = some (.int .i64 t.num)) (q3 : w.cell? ⟨m,3,none⟩ = some (.slice ao nn c)) :
    Calls Tryz.prog 218 #[.pointer (some ⟨pb,0,none⟩),.pointer (some ⟨m,0,none⟩)] w (OutS X Z w i false (partR X.l (ps X.l n) t i)):=by
  obtain ⟨W0,hW0,S0⟩:=St.first H
  have z01 : W0.heap.size ≤ w.heap.size + 1:=by rw [← hW0]; simp
  have z02 : w.heap.size + 1 ≤ W0.heap.size:=by rw [← hW0]; simp
  have pl:=H.plt
  have r : ∀ b o v,w.cell? ⟨b,o,none⟩ = some v → W0.cell? ⟨b,o,none⟩ = some v:=fun b o v hv => by rw [← hW0,World.cell?_alloc_lt _ _ _ (lt_of_cell hv)]; exact hv
  have k0':=r _ _ _ k0
  have q0':=r _ _ _ q0
  have q1':=r _ _ _ q1
  have q2':=r _ _ _ q2
  have q3':=r _ _ _ q3
  have ht0 : KT W0 Z t (.slice ao nn c):=hW0 ▸ ht.fr (fun b hb => Below.heap_alloc w _ b (hZ b hb).1) (fun _ hb => hb)
  have cP:=part_any X n A Z W0 i t ao nn c S0.par (fun b hb => ⟨by have:=(hZ b hb).1; omega,(hZ b hb).2⟩) ht0 hn
  clear r k0 q0 q1 q2 q3
  go_enter Tryz.func218,Tryz.ntmps218
  go_wp2_with fail
  refine cP.mono ?_
  rintro e w1 ⟨hb1,hr1⟩
  have z1:=hb1.size
  clear cP
  generalize partR X.l (ps X.l n) t i = rr at *
  cases rr with
  | bad j =>
   obtain ⟨rfl,h1,H1⟩:=hr1
   exact ⟨rfl,S0.but.trans (hb1.mono (by omega)),rfl,h1,H1⟩
  | ok u j =>
   obtain ⟨ij,H1,sl,rfl,hk⟩:=hr1
   obtain ⟨ao1,n1,c1,rfl⟩:=hk.slice
   have S1:=S0.call hb1 H1
   have hk1 : KT w1 (fun b => Z b ∨ Rg (w.heap.size + 1) w1.heap.size b) u (.slice ao1 n1 c1):=hk.fr (Fr.refl _ _) (fun b hb => hb.imp id (fun hb => ⟨by omega,hb.2⟩))
   obtain ⟨u0,u1,u2,u3,b0,b1,b2,b3,bf⟩:=S1.box.open
   have bf0:=bf 0
   have bf1:=bf 1
   have bf2:=bf 2
   have bf3:=bf 3
   clear bf
   go_wp2
   obtain ⟨Wf,hWf,hput,_,d0,d1,d2,d3⟩:=putN4 S1.box (.int .i64 u.kind) (.string ⟨u.text.toArray⟩) (.int .i64 u.num) (.slice ao1 n1 c1)
   rw [hWf]
   exact bodyPost_ret (v:=.agg #[.int .i64 u.kind,.string ⟨u.text.toArray⟩,.int .i64 u.num,.slice ao1 n1 c1]) (by simp [results,Tryz.results218,go_sem,d0,d1,d2,d3]) rfl (S1.doneZ hZ hk1 hput ij)
theorem enters_post1 : Enters Tryz.prog 218:=enters_of Tryz.func218 (by kernel_rfl) rfl
theorem postF_stop {l : List Tk} {p : Ps} {f : Nat} {t : Tr} {k : Nat} (hf : 0 < f) (h1 : isM l k [46] = false) (h2 : isM l k [91] = false) (h3 : isM l k [40] = false) : postF l p f t k = .ok t k:=by
 match f,hf with
 | f + 1,_ => simp [postF,h1,h2,h3]
theorem postF_sel {l : List Tk} {p : Ps} {f : Nat} {t : Tr} {k : Nat} (hf : 0 < f) (h1 : isM l k [46] = true) : postF l p f t k = (nameR l (k + 1)).bind fun s j => postF l p (f - 1) (.mk 48 s 0 [t]) j:=by
 match f,hf with
 | f + 1,_ => simp [postF,h1]
theorem postF_part {l : List Tk} {p : Ps} {f : Nat} {t : Tr} {k : Nat} (hf : 0 < f) (h1 : isM l k [46] = false) (h2 : isM l k [91] = true) : postF l p f t k = (betweenR l [91] [93] (partR l p t) k).bind fun u j => postF l p (f - 1) u j:=by
 match f,hf with
 | f + 1,_ => simp [postF,h1,h2]
theorem postF_call {l : List Tk} {p : Ps} {f : Nat} {t : Tr} {k : Nat} (hf : 0 < f) (h1 : isM l k [46] = false) (h2 : isM l k [91] = false) (h3 : isM l k [40] = true) : postF l p f t k = (listedR l [40] [41] (exprR p false) k).bind fun es j => postF l p (f - 1) (.mk 51 [] 0 (t :: es)) j:=by
 match f,hf with
 | f + 1,_ => simp [postF,h1,h2,h3]
end Go.Proofs.YtffnaknidofobaaGreatDoor

namespace Go.Proofs.YtffnaknidofobaaGreatDoor
open Go.RowKit
attribute [local go_sem ↓] Go.wp_at_zero Go.wp_at_succ
theorem St.putN4 {X : Px} {w W : World} {i m : Nat} {h : Bool} (S : St X w W i h) (hm : w.heap.size < m) {v0 v1 v2 v3 : Value} : St X w ((((W.setCell ⟨m,0,none⟩ v0).setCell ⟨m,1,none⟩ v1).setCell ⟨m,2,none⟩ v2).setCell ⟨m,3,none⟩ v3) i h :=
  S.put (((((Put.refl m W).setCell 0 v0).setCell 1 v1).setCell 2 v2).setCell 3 v3) hm
theorem OwnG.ofL {R : Nat → Prop} {w : World} {B : Nat} {v : Value} {ts : List Tr} (h : OwnL w B v ts) (hR : ∀ b,B ≤ b → b < w.heap.size → R b) : OwnG R w B v ts:=by
 have hl:=OwnL.lt h
 obtain ⟨sls,h1,h2⟩:=h
 exact ⟨sls,h1,h2.fr (Fr.refl _ _) (fun b hb => ⟨⟨hR b hb.1.1 hb.1.2,hb.1.2⟩,hb.2⟩),fun k hk => hR k (hl k hk).1 (hl k hk).2⟩
/-- The tree of a box, in a list of its own. -/
theorem Held.listed {X : Px} {w W : World} {m : Nat} {t : Tr} {ao : Option Addr} {nn c : Nat} (T : Held X w W m t ao nn c) :
    OwnG (fun b => w.heap.size + 1 ≤ b ∧ b ≠ m) (W.alloc (.cells #[.int .i64 t.kind,.string ⟨t.text.toArray⟩,.int .i64 t.num,.slice ao nn c] 24)) (w.heap.size + 1) (.slice (some ⟨W.heap.size,0,none⟩) 1 1) [t]:=by
  have h1:=T.ltz
  have h2:=T.lt
  exact OwnG.made (ts:=[t]) (sls:=[.slice ao nn c]) (by omega) (by simp only [KL]; exact ⟨_,_,rfl,T.tre.fr (Fr.refl _ _) (fun b hb => ⟨⟨hb.1.1,hb.2⟩,hb.1.2⟩),rfl⟩) ⟨by omega,by omega⟩ rfl (by simp)
theorem OwnG.call {X : Px} {w W W' : World} {i m : Nat} {h : Bool} {v : Value} {ts : List Tr} (T : OwnG (fun b => w.heap.size + 1 ≤ b ∧ b ≠ m) W (w.heap.size + 1) v ts) (S : St X w W i h) (hb : But X.P W.heap.size W W') : OwnG (fun b => w.heap.size + 1 ≤ b ∧ b ≠ m) W' (w.heap.size + 1) v ts :=
  T.later hb.size (fun b h1 h2 => hb.block b h2 (by have:=S.plt; omega))
theorem OwnG.below {w W W' : World} {m : Nat} {v : Value} {ts : List Tr} (T : OwnG (fun b => w.heap.size + 1 ≤ b ∧ b ≠ m) W (w.heap.size + 1) v ts) (hb : Below W.heap.size W W') : OwnG (fun b => w.heap.size + 1 ≤ b ∧ b ≠ m) W' (w.heap.size + 1) v ts :=
  T.later hb.size (fun b _ h2 => hb.block b h2)
theorem OwnG.drew {w W : World} {m : Nat} {v : Value} {ts : List Tr} (T : OwnG (fun b => w.heap.size + 1 ≤ b ∧ b ≠ m) W (w.heap.size + 1) v ts) : OwnG (fun b => w.heap.size + 1 ≤ b ∧ b ≠ m) W.drew (w.heap.size + 1) v ts :=
  T.later (Nat.le_refl _) (fun _ _ _ => rfl)
theorem OwnG.boxKT {w W : World} {m : Nat} {v : Value} {ts : List Tr} (T : OwnG (fun b => w.heap.size + 1 ≤ b ∧ b ≠ m) W (w.heap.size + 1) v ts) (k : Int) (s : List UInt8) (num : Int) : KT W (fun b => (w.heap.size + 1 ≤ b ∧ b < W.heap.size) ∧ b ≠ m) (.mk k s num ts) v :=
  (T.kt k s num).fr (Fr.refl _ _) (fun _ hb => ⟨⟨hb.1.1,hb.2⟩,hb.1.2⟩)
/-- A box keeps what it holds while another list grows. -/
theorem Held.grown {X : Px} {w W W' : World} {m : Nat} {t : Tr} {ao : Option Addr} {nn c : Nat} (T : Held X w W m t ao nn c) {row : Option Nat} (hg : W.grownBy W' row) (hr : row ≠ some m) : Box W' m :=
  T.box.of_block (hg.block m T.ltz (fun e => hr e.symm))
set_option maxRecDepth 20000 in
set_option maxHeartbeats 8000000 in
theorem post_any (X : Px) (n : Nat) (A : Good X n) (w : World) (i : Nat) (h : Bool) (H : Par X w i h) (hn : 3 * (X.l.length - i) ≤ n + 1) :
    Calls Tryz.prog 216 #[X.p] w (OutT X w i h (postR X.l (ps X.l n) h i)):=by
  obtain ⟨wP,hwP⟩ : ∃ wP,w.alloc (.cells #[X.p] 51) = wP:=⟨_,rfl⟩
  have HP : Par X wP i h:=hwP ▸ H.alloc _
  have zP1 : wP.heap.size ≤ w.heap.size + 1:=by rw [← hwP]; simp
  have zP2 : w.heap.size + 1 ≤ wP.heap.size:=by rw [← hwP]; simp
  have pl:=H.plt
  have lt0:=H.lt
  have HPC : Hid (∀ W,But X.P wP.heap.size wP W → W.cell? ⟨w.heap.size,0,none⟩ = some X.p):=fun W hb => by
   rw [hb.cell (by omega) (by omega),← hwP]; simp
  have HOUT : Hid (∀ (r : Res Tr) (e : Ending) (w' : World),OutT X wP i h r e w' → OutT X w i h r e w'):=fun r e w' ⟨hb,hr⟩ => by
   have hbw : But X.P w.heap.size w w':=But.boxed hwP hb
   cases r with
   | bad j => exact ⟨hbw,hr⟩
   | ok t j =>
    obtain ⟨ij,H1,sl,he,hk⟩:=hr
    exact ⟨hbw,ij,H1,sl,he,hk.fr (Fr.refl _ _) (fun b hb => ⟨by omega,hb.2⟩)⟩
  obtain ⟨W0,hW0,S0⟩:=St.first HP
  have kp:=HPC.out W0 S0.but
  go_enter Tryz.func216,Tryz.ntmps216
  go_wp2_with fail
  refine (primary_any X n A W0 i h S0.par hn).mono ?_
  rintro e w1 ⟨hb1,hr1⟩
  clear kp
  cases hp1 : primR X.l (ps X.l n) h i with
  | bad j1 =>
   rw [hp1] at hr1
   obtain ⟨rfl,h1,H1⟩:=hr1
   have HR : Hid (postR X.l (ps X.l n) h i = .bad j1):=by simp [Hid,postR,Res.bind,hp1]
   exact ⟨rfl,OutT.of HR (HOUT.out _ _ _ (S0.bad hb1 H1))⟩
  | ok t1 j1 =>
   rw [hp1] at hr1
   obtain ⟨ij1,H1,sl1,rfl,hk1⟩:=hr1
   obtain ⟨ao1,n1,c1,rfl⟩:=hk1.slice
   have S1:=S0.call hb1 H1
   have Tt1:=Tre.new S0 hk1
   have HS : Hid (postR X.l (ps X.l n) h i = postF X.l (ps X.l n) (X.l.length + 1) t1 j1):=by simp [Hid,postR,Res.bind,hp1]
   have hH:=Held.new S1 Tt1
   have S2:=S1.alloc (.cells #[.int .i64 t1.kind,.string ⟨t1.text.toArray⟩,.int .i64 t1.num,.slice ao1 n1 c1] 24)
   clear hp1 hk1 Tt1
   have hmm : wP.heap.size < w1.heap.size:=S1.lt
   go_wp2_with fail
   go_loopw [7] (fun _ wr => ∃ (k fu : Nat) (t : Tr) (ao : Option Addr) (nn c : Nat),St X wP wr k h ∧ Held X wP wr w1.heap.size t ao nn c ∧ i < k ∧ Hid (X.l.length - k < fu ∧ postR X.l (ps X.l n) h i = postF X.l (ps X.l n) fu t k)) (fun _ wr => X.l.length - posOf X wr)
   case atStart => exact ⟨j1,X.l.length + 1,t1,ao1,n1,c1,S2,hH,ij1,by omega,HS.out⟩
   case round =>
    obtain ⟨k,fu,t,ao,nn,c,Sk,Tk,hik,HF⟩:=hrel
    clear HS S2 hH S1 H1
    have hf0 : Hid (0 < fu):=Lib.hid (by have:=HF.out.1; omega)
    have ltk:=Sk.par.lt
    have kp:=HPC.out wr Sk.but
    cases hm : isM X.l k [46] with
    | true =>
     have cT:=take_yes X wr k h Sk.par [46] (by decide) hm
     have HE:=Lib.hid (HF.out.2.trans (postF_sel hf0.out hm))
     clear hm
     go_wp2_with fail
     refine cT.mono ?_
     rintro e w2 ⟨rfl,hb2,H2⟩
     have S2:=Sk.call hb2 H2
     have T2:=Tk.call Sk hb2
     have lt2:=H2.lt
     have kp2:=HPC.out w2 S2.but
     obtain ⟨q0,q1,q2,q3,_⟩:=T2.cells
     clear cT kp
     go_wp2_with fail
     have azw2 : w.heap.size < w2.heap.size:=by have:=T2.ltz; omega
     have bzw2 : w1.heap.size < w2.heap.size:=T2.ltz
     have anw2 : w.heap.size ≠ w2.heap.size:=by omega
     have aow2 : w2.heap.size ≠ w.heap.size:=by omega
     have bnw2 : w1.heap.size ≠ w2.heap.size:=by omega
     have bow2 : w2.heap.size ≠ w1.heap.size:=by omega
     have O2:=T2.listed
     have S2a:=S2.alloc (.cells #[.int .i64 t.kind,.string ⟨t.text.toArray⟩,.int .i64 t.num,.slice ao nn c] 24)
     have T2a:=T2.alloc (.cells #[.int .i64 t.kind,.string ⟨t.text.toArray⟩,.int .i64 t.num,.slice ao nn c] 24)
     go_region_with (first
       | (go_at_call 101; rcases Bool.eq_false_or_eq_true (kindA X.l (k + 1) == 1) with hm | hm
          rotate_left
          · (refine (name_no X w2.drew (k + 1) h S2.drew.par (by simpa using hm)).mono ?_; rintro e w5 ⟨rfl,hb5,H5⟩; have HR : Hid (postR X.l (ps X.l n) h i = .bad (k + 1)):=HE.out.trans (by rw [nameR_no hm]; rfl); exact ⟨rfl,OutT.of HR (HOUT.out _ _ _ (S2.drew.bad hb5 H5))⟩)
          refine (name_yes X w2.drew (k + 1) h S2.drew.par (by simpa using hm)).mono ?_
          rintro e w5 ⟨rfl,hb5,H5⟩
          have E5:=Lib.hid (nameR_yes hm)
          have S5:=S2.drew.call hb5 H5
          have T5:=T2.drew.call S2.drew hb5
          have lt5:=H5.lt
          have kp5:=HPC.out w5 S5.but
          have azw5 : w.heap.size < w5.heap.size:=by have:=T5.ltz; omega
          have bzw5 : w1.heap.size < w5.heap.size:=T5.ltz
          have anw5 : w.heap.size ≠ w5.heap.size:=by omega
          have aow5 : w5.heap.size ≠ w.heap.size:=by omega
          have bnw5 : w1.heap.size ≠ w5.heap.size:=by omega
          have bow5 : w5.heap.size ≠ w1.heap.size:=by omega
          obtain ⟨x0,x1,x2,x3,_⟩:=T5.cells
          clear hm)
       | (go_at_call 101; rcases Bool.eq_false_or_eq_true (kindA X.l (k + 1) == 1) with hm | hm
          rotate_left
          · (refine (name_no X (w2.alloc (.cells #[.int .i64 t.kind,.string ⟨t.text.toArray⟩,.int .i64 t.num,.slice ao nn c] 24)).drew (k + 1) h S2a.drew.par (by simpa using hm)).mono ?_; rintro e w5 ⟨rfl,hb5,H5⟩; have HR : Hid (postR X.l (ps X.l n) h i = .bad (k + 1)):=HE.out.trans (by rw [nameR_no hm]; rfl); exact ⟨rfl,OutT.of HR (HOUT.out _ _ _ (S2a.drew.bad hb5 H5))⟩)
          refine (name_yes X (w2.alloc (.cells #[.int .i64 t.kind,.string ⟨t.text.toArray⟩,.int .i64 t.num,.slice ao nn c] 24)).drew (k + 1) h S2a.drew.par (by simpa using hm)).mono ?_
          rintro e w5 ⟨rfl,hb5,H5⟩
          have E5:=Lib.hid (nameR_yes hm)
          have S5:=S2a.drew.call hb5 H5
          have T5:=T2a.drew.call S2a.drew hb5
          have lt5:=H5.lt
          have kp5:=HPC.out w5 S5.but
          have azw5 : w.heap.size < w5.heap.size:=by have:=T5.ltz; omega
          have bzw5 : w1.heap.size < w5.heap.size:=T5.ltz
          have anw5 : w.heap.size ≠ w5.heap.size:=by omega
          have aow5 : w5.heap.size ≠ w.heap.size:=by omega
          have bnw5 : w1.heap.size ≠ w5.heap.size:=by omega
          have bow5 : w5.heap.size ≠ w1.heap.size:=by omega
          obtain ⟨x0,x1,x2,x3,_⟩:=T5.cells
          have O5:=O2.drew.call S2a.drew hb5
          clear hm)
       | (go_at_call 59; refine (node_any _ _ _ _ _ _).mono ?_; rintro e w6 ⟨rfl,hb6⟩
          have S6:=(S5.alloc _).below hb6
          have T6:=(T5.alloc _).below hb6
          have O6:=T5.listed.below hb6
          obtain ⟨r0,r1,r2,r3,rf⟩:=T6.cells
          have rf0:=rf 0
          have rf1:=rf 1
          have rf2:=rf 2
          have rf3:=rf 3
          clear rf)
       | (go_at_call 59; refine (node_any _ _ _ _ _ _).mono ?_; rintro e w6 ⟨rfl,hb6⟩
          have S6:=S5.below hb6
          have T6:=T5.below hb6
          have O6:=O5.below hb6
          obtain ⟨r0,r1,r2,r3,rf⟩:=T6.cells
          have rf0:=rf 0
          have rf1:=rf 1
          have rf2:=rf 2
          have rf3:=rf 3
          clear rf))
     all_goals
      have HX : Hid (X.l.length - (k + 1 + 1) < fu - 1 ∧ postR X.l (ps X.l n) h i = postF X.l (ps X.l n) (fu - 1) (.mk 48 (textA X.l (k + 1)) 0 [t]) (k + 1 + 1)):=⟨by have:=HF.out.1; omega,HE.out.trans (by rw [E5.out]; rfl)⟩
      clear r0 r1 r2 r3 rf0 rf1 rf2 rf3 q0 q1 q2 q3 x0 x1 x2 x3
      go_wp2
      go_roundw
      case rel => exact ⟨k + 1 + 1,fu - 1,_,_,_,_,S6.putN4 T6.lt,Held.put T6.box T6.lt (O6.boxKT 48 (textA X.l (k + 1)) 0) rfl rfl rfl rfl,by omega,HX⟩
      case measure => rw [(S6.putN4 T6.lt).par.pos,Sk.par.pos]; omega
    | false =>
     have cT:=take_no X wr k h Sk.par [46] hm
     have E1:=Lib.hid hm
     clear hm
     go_wp2_with fail
     refine cT.mono ?_
     rintro e w2 ⟨rfl,hb2,H2⟩
     have S2:=Sk.call hb2 H2
     have T2:=Tk.call Sk hb2
     have kp2:=HPC.out w2 S2.but
     have cI:=is_any X w2 k h S2.par [91]
     clear cT kp
     cases hm : isM X.l k [91] with
     | true =>
      rw [hm] at cI
      have HE:=Lib.hid (HF.out.2.trans (postF_part hf0.out E1.out hm))
      clear hm
      go_wp2_with fail
      refine cI.mono ?_
      rintro e w3 ⟨rfl,hb3⟩
      have S3:=S2.below hb3
      have T3:=T2.below hb3
      have kp3:=HPC.out w3 S3.but
      have mz3:=T3.ltz
      have zl3:=S3.lt
      have hZ : ∀ b,((wP.heap.size + 1 ≤ b ∧ b < w3.heap.size) ∧ b ≠ w1.heap.size) → b < w3.heap.size ∧ b ≠ X.P:=fun b hb => ⟨hb.1.2,by omega⟩
      clear cI kp2
      go_wp2_with fail
      refine (betweenS_any X (fun b => (wP.heap.size + 1 ≤ b ∧ b < w3.heap.size) ∧ b ≠ w1.heap.size) w3 k h (partR X.l (ps X.l n) t) 218 #[] #[.pointer (some ⟨w.heap.size,0,none⟩),.pointer (some ⟨w1.heap.size,0,none⟩)] enters_post1 S3.par hZ [91] [93] (by decide) (by decide) (fun _ w4 hb4 H4 => ?_)).mono ?_
      · obtain ⟨q0,q1,q2,q3,_⟩:=T3.cells
        have r : ∀ b o,b < w3.heap.size → b ≠ X.P → w4.cell? ⟨b,o,none⟩ = w3.cell? ⟨b,o,none⟩:=fun b o h1 h2 => hb4.cell h1 h2
        have z4:=hb4.size
        exact post1_any X n A _ w4 (k + 1) t ao nn c w.heap.size w1.heap.size H4 (fun b hb => ⟨by omega,(hZ b hb).2⟩) (T3.tre.fr (fun b hb => hb4.block b hb.1.2 (hZ b hb).2) (fun _ hb => hb)) (by omega)
          ((r _ _ (by omega) (by omega)).trans kp3) ((r _ _ (by omega) (by omega)).trans q0) ((r _ _ (by omega) (by omega)).trans q1) ((r _ _ (by omega) (by omega)).trans q2) ((r _ _ (by omega) (by omega)).trans q3)
      rintro e w5 ⟨hb5,hr5⟩
      have z5:=hb5.size
      cases hp : betweenR X.l [91] [93] (partR X.l (ps X.l n) t) k with
      | bad j =>
       rw [hp] at hr5
       obtain ⟨rfl,h5,H5⟩:=hr5
       have HR : Hid (postR X.l (ps X.l n) h i = .bad j):=HE.out.trans (by rw [hp]; rfl)
       exact ⟨rfl,OutT.of HR (HOUT.out _ _ _ (S3.bad hb5 H5))⟩
      | ok u j =>
       rw [hp] at hr5
       obtain ⟨ij5,H5,sl5,rfl,hk5⟩:=hr5
       obtain ⟨ao5,n5,c5,rfl⟩:=hk5.slice
       have HX : Hid (X.l.length - j < fu - 1 ∧ postR X.l (ps X.l n) h i = postF X.l (ps X.l n) (fu - 1) u j):=⟨by have:=HF.out.1; have:=H5.lt; omega,HE.out.trans (by rw [hp]; rfl)⟩
       have S5:=S3.call hb5 H5
       have T5:=T3.call S3 hb5
       obtain ⟨r0,r1,r2,r3,rf⟩:=T5.cells
       have rf0:=rf 0
       have rf1:=rf 1
       have rf2:=rf 2
       have rf3:=rf 3
       clear rf hp
       have hT:=Held.put (X:=X) T5.box T5.lt (hk5.fr (S':=fun b => (wP.heap.size + 1 ≤ b ∧ b < w5.heap.size) ∧ b ≠ w1.heap.size) (Fr.refl _ _) (fun b hb => by rcases hb with hb | hb; exact ⟨⟨hb.1.1,by omega⟩,hb.2⟩; exact ⟨⟨by omega,hb.2⟩,by omega⟩)) rfl rfl rfl rfl
       have hS:=S5.put ((((Put.refl w1.heap.size w5).setCell 0 (.int .i64 u.kind)).setCell 1 (.string ⟨u.text.toArray⟩)).setCell 2 (.int .i64 u.num) |>.setCell 3 (.slice ao5 n5 c5)) T5.lt
       clear hk5
       go_wp2
       go_roundw
       case rel => exact ⟨j,fu - 1,_,_,_,_,hS,hT,by omega,HX⟩
       case measure => rw [hS.par.pos,Sk.par.pos]; have:=hS.par.lt; omega
     | false =>
      rw [hm] at cI
      have E2:=Lib.hid hm
      clear hm
      go_wp2_with fail
      refine cI.mono ?_
      rintro e w3 ⟨rfl,hb3⟩
      have S3:=S2.below hb3
      have T3:=T2.below hb3
      have kp3:=HPC.out w3 S3.but
      have cI:=is_any X w3 k h S3.par [40]
      clear kp2
      cases hm : isM X.l k [40] with
      | true =>
       rw [hm] at cI
       have HE:=Lib.hid (HF.out.2.trans (postF_call hf0.out E1.out E2.out hm))
       clear hm
       go_wp2_with fail
       refine cI.mono ?_
       rintro e w4 ⟨rfl,hb4⟩
       have S4:=S3.below hb4
       have T4:=T3.below hb4
       have kp4:=HPC.out w4 S4.but
       clear cI kp3
       obtain ⟨q0,q1,q2,q3,_⟩:=T4.cells
       have azw4 : w.heap.size < w4.heap.size:=by have:=T4.ltz; omega
       have bzw4 : w1.heap.size < w4.heap.size:=T4.ltz
       have anw4 : w.heap.size ≠ w4.heap.size:=by omega
       have aow4 : w4.heap.size ≠ w.heap.size:=by omega
       have bnw4 : w1.heap.size ≠ w4.heap.size:=by omega
       have bow4 : w4.heap.size ≠ w1.heap.size:=by omega
       have O4:=T4.listed
       have S4a:=S4.alloc (.cells #[.int .i64 t.kind,.string ⟨t.text.toArray⟩,.int .i64 t.num,.slice ao nn c] 24)
       have T4a:=T4.alloc (.cells #[.int .i64 t.kind,.string ⟨t.text.toArray⟩,.int .i64 t.num,.slice ao nn c] 24)
       have m4:=T4.ltz
       have ls4:=S4.lt
       have zd4 : w4.drew.heap.size = w4.heap.size:=rfl
       have zd4a : (w4.alloc (.cells #[.int .i64 t.kind,.string ⟨t.text.toArray⟩,.int .i64 t.num,.slice ao nn c] 24)).drew.heap.size = w4.heap.size + 1:=by simp
       have HZ4:=Lib.hid zd4a
       clear zd4a
       go_wp2_with fail
       go_region_law (first
         | (go_simp; go_at_call 169; refine (listed_any X (w4.drew) k h (exprR (ps X.l n) false) 209 #[X.p] #[] enters_expression S4.drew.par [40] [41] (by decide) (by decide) ?_).mono ?_
            · exact fun _ w1 k' hk' _ H1 => by rw [Array.append_empty]; exact expression_any X n A w1 k' false H1 (by omega)
            rintro e w5 ⟨⟨hb5,hr5⟩,hx5⟩; rcases Res.or (listedR X.l [40] [41] (exprR (ps X.l n) false) k) with ⟨j,hp⟩ | ⟨l5,j,hp⟩
            · (rw [hp] at hr5; obtain ⟨rfl,h5,H5⟩:=hr5; have HR : Hid (postR X.l (ps X.l n) h i = .bad j):=HE.out.trans (by rw [hp]; rfl); exact ⟨rfl,OutT.of HR (HOUT.out _ _ _ (S4.drew.bad hb5 H5))⟩)
            rw [hp] at hr5
            obtain ⟨ij5,H5,v5,rfl,hk5⟩:=hr5
            obtain ⟨ao5,c5,rfl⟩:=hk5.slice
            have kj5:=hx5 _ _ hp
            have E5:=Lib.hid hp
            have S5:=S4.drew.call hb5 H5
            have T5:=T4.drew.call S4.drew hb5
            have lt5:=H5.lt
            have bd5:=H5.bnd
            have z5:=hb5.size
            have kp5:=HPC.out w5 S5.but
            have m5:=T5.ltz
            have azw5 : w.heap.size < w5.heap.size:=by have:=T5.ltz; omega
            have bzw5 : w1.heap.size < w5.heap.size:=T5.ltz
            have anw5 : w.heap.size ≠ w5.heap.size:=by omega
            have aow5 : w5.heap.size ≠ w.heap.size:=by omega
            have bnw5 : w1.heap.size ≠ w5.heap.size:=by omega
            have bow5 : w5.heap.size ≠ w1.heap.size:=by omega
            obtain ⟨x0,x1,x2,x3,_⟩:=T5.cells
            have O5:=T5.listed
            have S5a:=S5.alloc (.cells #[.int .i64 t.kind,.string ⟨t.text.toArray⟩,.int .i64 t.num,.slice ao nn c] 24)
            have T5a:=T5.alloc (.cells #[.int .i64 t.kind,.string ⟨t.text.toArray⟩,.int .i64 t.num,.slice ao nn c] 24)
            have L5 : OwnG (fun b => (wP.heap.size + 1 ≤ b ∧ b ≠ w1.heap.size) ∧ some b ≠ (Value.slice (some ⟨w5.heap.size,0,none⟩) 1 1).ownBlock) (w5.alloc (.cells #[.int .i64 t.kind,.string ⟨t.text.toArray⟩,.int .i64 t.num,.slice ao nn c] 24)) w4.heap.size (.slice ao5 l5.length c5) l5:=(OwnG.ofL hk5 (fun b h1 h2 => ⟨⟨by omega,by omega⟩,by simp [Value.ownBlock]; omega⟩)).later (by simp) (fun b _ h2 => Below.heap_alloc w5 _ b h2)
            clear hp hx5)
         | (go_simp; go_at_call 169; refine (listed_any X ((w4.alloc (.cells #[.int .i64 t.kind,.string ⟨t.text.toArray⟩,.int .i64 t.num,.slice ao nn c] 24)).drew) k h (exprR (ps X.l n) false) 209 #[X.p] #[] enters_expression S4a.drew.par [40] [41] (by decide) (by decide) ?_).mono ?_
            · exact fun _ w1 k' hk' _ H1 => by rw [Array.append_empty]; exact expression_any X n A w1 k' false H1 (by omega)
            rintro e w5 ⟨⟨hb5,hr5⟩,hx5⟩; rcases Res.or (listedR X.l [40] [41] (exprR (ps X.l n) false) k) with ⟨j,hp⟩ | ⟨l5,j,hp⟩
            · (rw [hp] at hr5; obtain ⟨rfl,h5,H5⟩:=hr5; have HR : Hid (postR X.l (ps X.l n) h i = .bad j):=HE.out.trans (by rw [hp]; rfl); exact ⟨rfl,OutT.of HR (HOUT.out _ _ _ (S4a.drew.bad hb5 H5))⟩)
            rw [hp] at hr5
            obtain ⟨ij5,H5,v5,rfl,hk5⟩:=hr5
            obtain ⟨ao5,c5,rfl⟩:=hk5.slice
            have kj5:=hx5 _ _ hp
            have E5:=Lib.hid hp
            have S5:=S4a.drew.call hb5 H5
            have T5:=T4a.drew.call S4a.drew hb5
            have lt5:=H5.lt
            have bd5:=H5.bnd
            have z5:=hb5.size
            have kp5:=HPC.out w5 S5.but
            have m5:=T5.ltz
            have azw5 : w.heap.size < w5.heap.size:=by have:=T5.ltz; omega
            have bzw5 : w1.heap.size < w5.heap.size:=T5.ltz
            have anw5 : w.heap.size ≠ w5.heap.size:=by omega
            have aow5 : w5.heap.size ≠ w.heap.size:=by omega
            have bnw5 : w1.heap.size ≠ w5.heap.size:=by omega
            have bow5 : w5.heap.size ≠ w1.heap.size:=by omega
            obtain ⟨x0,x1,x2,x3,_⟩:=T5.cells
            have z5':=HZ4.out
            have O5:=O4.drew.call S4a.drew hb5
            have L5 : OwnG (fun b => (wP.heap.size + 1 ≤ b ∧ b ≠ w1.heap.size) ∧ some b ≠ (Value.slice (some ⟨w4.heap.size,0,none⟩) 1 1).ownBlock) w5 (w4.heap.size + 1) (.slice ao5 l5.length c5) l5:=OwnG.ofL (hk5.wide (Nat.le_of_eq HZ4.out.symm)) (fun b h1 h2 => ⟨⟨by omega,by omega⟩,by simp [Value.ownBlock]; omega⟩)
            clear hp hx5)
         | (refine step_joinG (by rfl) _ _ (by rfl) (by rfl) (by rfl) O5 L5 ?_ ?_ ?_ ?_
            · exact ⟨by first | omega | (simp; omega),by first | omega | (simp; omega)⟩
            · first | omega | (simp; omega)
            · simp; omega
            intro aoc cc wc hOc hgc
            have Sc:=S5a.grown hgc (fun q hq => by cases hq; first | omega | (simp; omega))
            have Bc:=T5a.grown hgc (by simp [Value.ownBlock]; omega))
         | (refine step_joinG (by rfl) _ _ (by rfl) (by rfl) (by rfl) O5 L5 ?_ ?_ ?_ ?_
            · exact ⟨by first | omega | (simp; omega),by first | omega | (simp; omega)⟩
            · first | omega | (simp; omega)
            · simp; omega
            intro aoc cc wc hOc hgc
            have Sc:=S5.grown hgc (fun q hq => by cases hq; first | omega | (simp; omega))
            have Bc:=T5.grown hgc (by simp [Value.ownBlock]; omega))
         | (go_simp; go_at_call 59; refine (node_any _ _ _ _ _ _).mono ?_; rintro e w7 ⟨rfl,hb7⟩
            have S7:=Sc.below hb7
            have Bx7:=Bc.below hb7 Bc.lt
            have O7:=hOc.below hb7
            obtain ⟨r0,r1,r2,r3,d0,d1,d2,d3,rf⟩:=Bx7.open
            have rf0:=rf 0
            have rf1:=rf 1
            have rf2:=rf 2
            have rf3:=rf 3
            clear rf))
       all_goals
        have HX : Hid (X.l.length - j < fu - 1 ∧ postR X.l (ps X.l n) h i = postF X.l (ps X.l n) (fu - 1) (.mk 51 [] 0 (t :: l5)) j):=⟨by have:=HF.out.1; omega,HE.out.trans (by rw [E5.out]; rfl)⟩
        clear d0 d1 d2 d3 rf0 rf1 rf2 rf3 q0 q1 q2 q3 x0 x1 x2 x3
        go_wp2
        go_roundw
        case rel => exact ⟨j,fu - 1,_,_,_,_,S7.putN4 T4.lt,Held.put Bx7 T4.lt (O7.boxKT 51 [] 0) rfl rfl rfl rfl,by omega,HX⟩
        case measure => rw [(S7.putN4 T4.lt).par.pos,Sk.par.pos]; omega
      | false =>
       rw [hm] at cI
       have HX : Hid (postR X.l (ps X.l n) h i = .ok t k):=HF.out.2.trans (postF_stop hf0.out E1.out E2.out hm)
       clear hm
       go_wp2_with fail
       refine cI.mono ?_
       rintro e w4 ⟨rfl,hb4⟩
       have S4:=S3.below hb4
       have T4:=T3.below hb4
       clear cI kp3
       obtain ⟨q0,q1,q2,q3,_⟩:=T4.cells
       obtain ⟨u0,u1,u2,u3,b0,b1,b2,b3,bf⟩:=S4.box.open
       have bf0:=bf 0
       have bf1:=bf 1
       have bf2:=bf 2
       have bf3:=bf 3
       clear bf
       go_wp2
       obtain ⟨Wf,hWf,hput,_,d0,d1,d2,d3⟩:=putN4 S4.box (.int .i64 t.kind) (.string ⟨t.text.toArray⟩) (.int .i64 t.num) (.slice ao nn c)
       rw [hWf]
       exact bodyPost_ret (v:=.agg #[.int .i64 t.kind,.string ⟨t.text.toArray⟩,.int .i64 t.num,.slice ao nn c]) (by simp [results,Tryz.results216,go_sem,d0,d1,d2,d3]) rfl (OutT.of HX (HOUT.out _ _ _ (S4.done T4.out hput hik)))
end Go.Proofs.YtffnaknidofobaaGreatDoor
