/- The parser's binary operators. -/
import Derived.Test.YtffnaknidofobaaGreatDoorParGJt
import Derived.Laws.BitsLemmas
import Derived.Deep.RegionLaw
namespace Go.Proofs.YtffnaknidofobaaGreatDoor
open Go.RowKit
attribute [local go_sem ↓] Go.wp_at_zero Go.wp_at_succ
theorem St.drew {X : Px} {w W : World} {i : Nat} {h : Bool} (S : St X w W i h) : St X w W.drew i h:=⟨S.but.drew,S.par.of_blocks rfl rfl,S.box.of_block rfl,S.plt,S.tlt⟩
/-- A tree in a box of the walk's own. -/
structure Held (X : Px) (w W : World) (m : Nat) (t : Tr) (ao : Option Addr) (nn c : Nat) : Prop where
  blk : W.heap[m]? = some (.cells #[.int .i64 t.kind,.string ⟨t.text.toArray⟩,.int .i64 t.num,.slice ao nn c] 24 (0,0))
  lt : w.heap.size < m
  tre : KT W (fun b => (w.heap.size + 1 ≤ b ∧ b < W.heap.size) ∧ b ≠ m) t (.slice ao nn c)
section
variable {X : Px} {w W W' : World} {m i : Nat} {h : Bool} {t : Tr} {ao : Option Addr} {nn c : Nat}
theorem Held.cells (T : Held X w W m t ao nn c) : W.cell? ⟨m,0,none⟩ = some (.int .i64 t.kind) ∧ W.cell? ⟨m,1,none⟩ = some (.string ⟨t.text.toArray⟩) ∧ W.cell? ⟨m,2,none⟩ = some (.int .i64 t.num) ∧ W.cell? ⟨m,3,none⟩ = some (.slice ao nn c) ∧ ∀ o,W.frozen? ⟨m,o,none⟩ = false:=by
 have e:=T.blk
 exact ⟨by simp [World.cell?,e],by simp [World.cell?,e],by simp [World.cell?,e],by simp [World.cell?,e],fun o => by simp [World.frozen?,e]⟩
theorem Held.ltz (T : Held X w W m t ao nn c) : m < W.heap.size:=lt_of_block T.blk
theorem Held.box (T : Held X w W m t ao nn c) : Box W m:=⟨_,_,_,_,T.blk⟩
theorem Held.new (S : St X w W i h) (T : Tre w W t (.slice ao nn c)) : Held X w (W.alloc (.cells #[.int .i64 t.kind,.string ⟨t.text.toArray⟩,.int .i64 t.num,.slice ao nn c] 24)) W.heap.size t ao nn c :=
  ⟨heap_alloc_new W _,S.lt,KT.fr T (fun b hb => Below.heap_alloc W _ b hb.2) (fun b hb => ⟨⟨hb.1,by simp; omega⟩,by omega⟩)⟩
theorem Held.later (T : Held X w W m t ao nn c) (hz : W.heap.size ≤ W'.heap.size) (hw : ∀ b,w.heap.size + 1 ≤ b → b < W.heap.size → W'.heap[b]? = W.heap[b]?) : Held X w W' m t ao nn c :=
  ⟨(hw m T.lt T.ltz).trans T.blk,T.lt,KT.fr T.tre (fun b hb => hw b hb.1.1 hb.1.2) (fun b hb => ⟨⟨hb.1.1,by omega⟩,hb.2⟩)⟩
theorem Held.call (T : Held X w W m t ao nn c) (S : St X w W i h) (hb : But X.P W.heap.size W W') : Held X w W' m t ao nn c :=
  T.later hb.size (fun b h1 h2 => hb.block b h2 (by have:=S.plt; omega))
theorem Held.below (T : Held X w W m t ao nn c) (hb : Below W.heap.size W W') : Held X w W' m t ao nn c:=T.later hb.size (fun b _ h2 => hb.block b h2)
theorem Held.drew (T : Held X w W m t ao nn c) : Held X w W.drew m t ao nn c:=T.later (Nat.le_refl _) (fun _ _ _ => rfl)
theorem Held.next (T : Held X w W m t ao nn c) (S : St X w W i h) (o : Nat) (u : Value) : Held X w (W.setCell ⟨X.P,o,none⟩ u) m t ao nn c :=
  T.later (by simp) (fun b h1 _ => Below.heap_setCell _ _ _ _ (by have:=S.plt; simp only; omega))
theorem Held.alloc (T : Held X w W m t ao nn c) (o : Obj) : Held X w (W.alloc o) m t ao nn c:=T.below ((Below.refl _ _).alloc (Nat.le_refl _) o)
/-- A tree whose kids were laid into a new block. -/
theorem kt_made {S S' : Nat → Prop} {ts : List Tr} {sls : List Value} {a : Array Value} (k : Int) (s : List UInt8) (num : Int) (hk : KL W S ts sls) (hlt : ∀ b,S b → b < W.heap.size) (hS : ∀ b,S b → S' b) (hnew : S' W.heap.size) (hc : a = (cellsOf ts sls).toArray) :
    KT (W.alloc (.cells a 24)) S' (.mk k s num ts) (.slice (some ⟨W.heap.size,0,none⟩) ts.length ts.length):=by
  subst hc
  simp only [KT]
  refine ⟨sls,.inr ⟨W.heap.size,0,_,rfl,Nat.le_refl _,hnew,fun j u hj => ?_⟩,hk.fr (fun b hb => Below.heap_alloc W _ b (hlt b hb)) hS⟩
  rw [Nat.zero_add,World.cell?_alloc_new]
  simpa using hj
/-- What is taken out of the box is a tree of the walk's. -/
theorem Held.out (T : Held X w W m t ao nn c) : Tre w W t (.slice ao nn c):=KT.fr T.tre (Fr.refl _ _) (fun _ hb => hb.1)
/-- Another tree is put into the box. -/
theorem Held.put {u : Tr} {a2 : Option Addr} {n2 c2 : Nat} {v0 v1 v2 v3 : Value} (hB : Box W m) (hlt : w.heap.size < m) (T : KT W (fun b => (w.heap.size + 1 ≤ b ∧ b < W.heap.size) ∧ b ≠ m) u (.slice a2 n2 c2)) (e0 : v0 = .int .i64 u.kind) (e1 : v1 = .string ⟨u.text.toArray⟩) (e2 : v2 = .int .i64 u.num) (e3 : v3 = .slice a2 n2 c2) :
    Held X w ((((W.setCell ⟨m,0,none⟩ v0).setCell ⟨m,1,none⟩ v1).setCell ⟨m,2,none⟩ v2).setCell ⟨m,3,none⟩ v3) m u a2 n2 c2:=by
  subst e0 e1 e2 e3
  obtain ⟨c0,c1,c2',c3,e⟩:=hB
  refine ⟨?_,hlt,KT.fr T (fun b hb => ?_) (fun b hb => by simpa using hb)⟩
  · rw [heap_setCell_same _ m 3 _ (heap_setCell_same _ m 2 _ (heap_setCell_same _ m 1 _ (heap_setCell_same _ m 0 _ e)))]; rfl
  · rw [Below.heap_setCell _ _ _ _ hb.2,Below.heap_setCell _ _ _ _ hb.2,Below.heap_setCell _ _ _ _ hb.2,Below.heap_setCell _ _ _ _ hb.2]
theorem St.put (S : St X w W i h) {Wf : World} (hput : Put m W Wf) (hm : w.heap.size < m) : St X w Wf i h:=by
 have h1:=S.plt
 have h2:=S.tlt
 exact ⟨S.but.put hput (.inr (by omega)),S.par.put hput (by omega) (by omega),S.box.of_block (hput.block _ (by omega)),h1,h2⟩
end
theorem Res.or {α : Type} (r : Res α) : (∃ j,r = .bad j) ∨ ∃ a j,r = .ok a j:=by
 cases r with
 | ok a j => exact .inr ⟨a,j,rfl⟩
 | bad j => exact .inl ⟨j,rfl⟩
theorem binF_stop {l : List Tk} {p : Ps} {h : Bool} {least : Int} {f : Nat} {t : Tr} {k : Nat} (hf : 0 < f) (hm : ¬ least ≤ rankL (markA l k)) : binF l p h least f t k = .ok t k:=by
 match f,hf with
 | f + 1,_ => simp only [binF]; rw [if_neg hm]
theorem binF_bad {l : List Tk} {p : Ps} {h : Bool} {least : Int} {f : Nat} {t : Tr} {k j : Nat} (hf : 0 < f) (hm : least ≤ rankL (markA l k)) (hp : p.bin h (rankL (markA l k) + 1) (k + 1) = .bad j) : binF l p h least f t k = .bad j:=by
 match f,hf with
 | f + 1,_ => simp only [binF]; rw [if_pos hm,hp]; rfl
theorem binF_step {l : List Tk} {p : Ps} {h : Bool} {least : Int} {f : Nat} {t r : Tr} {k j : Nat} (hf : 0 < f) (hm : least ≤ rankL (markA l k)) (hp : p.bin h (rankL (markA l k) + 1) (k + 1) = .ok r j) : binF l p h least f t k = binF l p h least (f - 1) (.mk 53 (markA l k) 0 [t,r]) j:=by
 match f,hf with
 | f + 1,_ => simp only [binF]; rw [if_pos hm,hp]; rfl
theorem rankL_le (s : List UInt8) : 0 ≤ rankL s ∧ rankL s ≤ 5:=by
 unfold rankL
 repeat' split
 all_goals decide
theorem rank_end {X : Px} {w : World} {i : Nat} {h : Bool} (H : Par X w i h) (hr : 1 ≤ rankL (markA X.l i)) : i + 1 < X.l.length:=by
 refine not_end H (fun hn => ?_)
 have : markA X.l i = []:=by unfold markA; rw [hn.2]; split <;> rfl
 rw [this] at hr
 exact absurd hr (by decide)
set_option maxRecDepth 20000 in
set_option maxHeartbeats 4000000 in
theorem binary_any (X : Px) (n : Nat) (A : Good X n) (w : World) (i : Nat) (h : Bool) (least : Int) (H : Par X w i h) (hl1 : 1 ≤ least) (hl6 : least ≤ 6) (hn : 3 * (X.l.length - i) + 1 ≤ n + 1) :
    Calls Tryz.prog 213 #[X.p,.int .i64 least] w (OutT X w i h (binS X.l (ps X.l n) h least i)):=by
  obtain ⟨W0,hW0,S0⟩:=St.first H
  have lt0:=H.lt
  go_enter Tryz.func213,Tryz.ntmps213
  go_wp2_with fail
  refine (A.una W0 i h S0.par (by omega)).mono ?_
  rintro e w1 ⟨hb1,hr1⟩
  cases hp1 : (ps X.l n).una h i with
  | bad j1 =>
   rw [hp1] at hr1
   obtain ⟨rfl,h1,H1⟩:=hr1
   have HR : Hid (binS X.l (ps X.l n) h least i = .bad j1):=by simp [Hid,binS,Res.bind,hp1]
   exact ⟨rfl,OutT.of HR (S0.bad hb1 H1)⟩
  | ok t1 j1 =>
   rw [hp1] at hr1
   obtain ⟨ij1,H1,sl1,rfl,hk1⟩:=hr1
   obtain ⟨ao1,n1,c1,rfl⟩:=hk1.slice
   have S1:=S0.call hb1 H1
   have Tt1:=Tre.new S0 hk1
   have HS : Hid (binS X.l (ps X.l n) h least i = binF X.l (ps X.l n) h least (X.l.length + 1) t1 j1):=by simp [Hid,binS,Res.bind,hp1]
   have hH:=Held.new S1 Tt1
   have S2:=S1.alloc (.cells #[.int .i64 t1.kind,.string ⟨t1.text.toArray⟩,.int .i64 t1.num,.slice ao1 n1 c1] 24)
   clear hp1 hk1 Tt1
   have hmm : w1.heap.size ≠ w.heap.size:=by have:=S1.lt; omega
   have HP:=S1.plt
   go_wp2_with fail
   go_loopw [6] (fun _ wr => ∃ (k fu : Nat) (t : Tr) (ao : Option Addr) (nn c : Nat),St X w wr k h ∧ Held X w wr w1.heap.size t ao nn c ∧ i < k ∧ Hid (X.l.length - k < fu ∧ binS X.l (ps X.l n) h least i = binF X.l (ps X.l n) h least fu t k)) (fun _ wr => X.l.length - posOf X wr)
   case atStart => exact ⟨j1,X.l.length + 1,t1,ao1,n1,c1,S2,hH,ij1,by omega,HS.out⟩
   case round =>
    obtain ⟨k,fu,t,ao,nn,c,Sk,Tk,hik,HF⟩:=hrel
    clear HS S2 hH S1 H1
    have cM:=mark_any X wr k h Sk.par
    go_wp2_with fail
    refine cM.mono ?_
    rintro e w2 ⟨rfl,hb2⟩
    have S2:=Sk.below hb2
    have T2:=Tk.below hb2
    clear cM
    go_wp2_with fail
    refine (rank_any (markA X.l k) w2).mono ?_
    rintro e w2 ⟨rfl,rfl⟩
    have hrk:=rankL_le (markA X.l k)
    by_cases hle : least ≤ rankL (markA X.l k)
    · have HL:=Lib.hid hle
      have nx:=rank_end S2.par (by omega)
      have bnd:=S2.par.bnd
      have cM:=mark_any X w2 k h S2.par
      go_wp2_with fail
      refine cM.mono ?_
      rintro e w3 ⟨rfl,hb3⟩
      have S3:=S2.below hb3
      have T3:=T2.below hb3
      have p1:=S3.par.c1
      have pf:=S3.par.fz 1
      have S4:=S3.next nx
      have T4:=T3.next S3 1 (.int .i64 ((k : Int) + 1))
      clear cM
      go_wp2_with fail
      clear p1 pf
      generalize w3.setCell ⟨X.P,1,none⟩ (.int .i64 ((k : Int) + 1)) = w4 at *
      have rb : rankL (markA X.l k) + 1 ≤ 6:=by omega
      have rb1 : 1 ≤ rankL (markA X.l k) + 1:=by omega
      have hwr : IntKind.i64.wrap (rankL (markA X.l k) + 1) = rankL (markA X.l k) + 1:=by rw [IntKind.wrap_i64]; omega
      have cB:=A.bin w4.drew (k + 1) h (rankL (markA X.l k) + 1) S4.drew.par rb1 rb (by omega)
      obtain ⟨q0,q1,q2,q3,qf⟩:=T4.cells
      have qf0:=qf 0
      have qf1:=qf 1
      have qf2:=qf 2
      have qf3:=qf 3
      clear qf
      go_region_with (first
        | (go_at_call 183; refine (rank_any _ _).mono ?_; rintro e w' ⟨rfl,rfl⟩)
        | (go_at_call 213; refine cB.mono ?_; rintro e w5 ⟨hb5,hr5⟩; rcases Res.or ((ps X.l n).bin h (rankL (markA X.l k) + 1) (k + 1)) with ⟨j,hp⟩ | ⟨r,j,hp⟩
           · (rw [hp] at hr5; obtain ⟨rfl,h5,H5⟩:=hr5; exact ⟨rfl,OutT.of (Lib.hid (HF.out.2.trans (binF_bad (Nat.lt_of_le_of_lt (Nat.zero_le _) HF.out.1) HL.out hp))) (S4.drew.bad hb5 H5)⟩)
           rw [hp] at hr5
           obtain ⟨ij5,H5,sl5,rfl,hk5⟩:=hr5
           obtain ⟨ao5,n5,c5,rfl⟩:=hk5.slice
           have S5:=S4.drew.call hb5 H5
           have T5:=T4.drew.call S4.drew hb5
           have E5:=Lib.hid hp
           obtain ⟨y0,y1,y2,y3,_⟩:=T5.cells
           clear hp)
        | (go_at_call 59; refine (node_any _ _ _ _ _ _).mono ?_; rintro e w6 ⟨rfl,hb6⟩
           have S6:=(S5.alloc _).below hb6
           have T6:=(T5.alloc _).below hb6
           obtain ⟨r0,r1,r2,r3,rf⟩:=T6.cells
           have rf0:=rf 0
           have rf1:=rf 1
           have rf2:=rf 2
           have rf3:=rf 3
           clear rf))
      all_goals
       have HX : Hid (X.l.length - j < fu - 1 ∧ binS X.l (ps X.l n) h least i = binF X.l (ps X.l n) h least (fu - 1) (.mk 53 (markA X.l k) 0 [t,r]) j):=⟨by have:=HF.out.1; have:=H5.lt; omega,HF.out.2.trans (binF_step (by have:=HF.out.1; omega) HL.out E5.out)⟩
       have l4:=T4.ltz
       have lz5:=hb5.size
       have ls4:=S4.lt
       have lz6:=hb6.size
       rw [World.size_alloc] at lz6
       have l4' : w4.drew.heap.size = w4.heap.size:=rfl
       have hkl : KL w5 (fun b => (w.heap.size + 1 ≤ b ∧ b < w5.heap.size) ∧ b ≠ w1.heap.size) [t,r] [.slice ao nn c,.slice ao5 n5 c5]:=by
        simp only [KL]
        exact ⟨_,_,rfl,T5.tre,_,_,rfl,hk5.fr (Fr.refl _ _) (fun b hb => ⟨⟨by omega,hb.2⟩,by omega⟩),rfl⟩
       have hkt:=kt_made (S':=fun b => (w.heap.size + 1 ≤ b ∧ b < w5.heap.size + 1) ∧ b ≠ w1.heap.size) 53 (markA X.l k) 0 hkl (fun b hb => hb.1.2) (fun b hb => ⟨⟨hb.1.1,by omega⟩,hb.2⟩) ⟨⟨by omega,by omega⟩,by have:=T5.ltz; omega⟩ rfl
       have hT:=Held.put (X:=X) T6.box T6.lt (hkt.fr (fun b hb => hb6.block b (by simp; omega)) (fun b hb => ⟨⟨hb.1.1,by omega⟩,hb.2⟩)) rfl rfl rfl rfl
       have hS:=S6.put ((((Put.refl w1.heap.size w6).setCell 0 (.int .i64 53)).setCell 1 (.string ⟨(markA X.l k).toArray⟩)).setCell 2 (.int .i64 0) |>.setCell 3 (.slice (some ⟨w5.heap.size,0,none⟩) 2 2)) T6.lt
       clear hkl hkt r0 r1 r2 r3 rf0 rf1 rf2 rf3
       go_wp2
       go_roundw
       case rel => exact ⟨j,fu - 1,_,_,_,_,hS,hT,by omega,HX⟩
       case measure => rw [hS.par.pos,Sk.par.pos]; have:=hS.par.lt; omega
    · have HX : Hid (binS X.l (ps X.l n) h least i = .ok t k):=HF.out.2.trans (binF_stop (by have:=HF.out.1; omega) hle)
      obtain ⟨q0,q1,q2,q3,_⟩:=T2.cells
      obtain ⟨u0,u1,u2,u3,b0,b1,b2,b3,bf⟩:=S2.box.open
      have bf0:=bf 0
      have bf1:=bf 1
      have bf2:=bf 2
      have bf3:=bf 3
      clear bf
      go_wp2
      obtain ⟨Wf,hWf,hput,_,d0,d1,d2,d3⟩:=putN4 S2.box (.int .i64 t.kind) (.string ⟨t.text.toArray⟩) (.int .i64 t.num) (.slice ao nn c)
      rw [hWf]
      exact bodyPost_ret (v:=.agg #[.int .i64 t.kind,.string ⟨t.text.toArray⟩,.int .i64 t.num,.slice ao nn c]) (by simp [results,Tryz.results213,go_sem,d0,d1,d2,d3]) rfl (OutT.of HX (S2.done T2.out hput hik))
end Go.Proofs.YtffnaknidofobaaGreatDoor

namespace Go.Proofs.YtffnaknidofobaaGreatDoor
open Go.RowKit
attribute [local go_sem ↓] Go.wp_at_zero Go.wp_at_succ
/-- An own list that keeps to blocks of Q. -/
def OwnQ (Q : Nat → Prop) (w : World) (B : Nat) (v : Value) (ts : List Tr) : Prop :=
  ∃ sls,w.ownsRow B 24 4 v ts.length (cellsOf ts sls) ∧ KL w (fun b => ((B ≤ b ∧ b < w.heap.size) ∧ some b ≠ v.ownBlock) ∧ Q b) ts sls ∧ ∀ k,v.ownBlock = some k → Q k
theorem OwnQ.own {Q : Nat → Prop} {w : World} {B : Nat} {v : Value} {ts : List Tr} (h : OwnQ Q w B v ts) : OwnL w B v ts:=by
 obtain ⟨sls,h1,h2,_⟩:=h
 exact ⟨sls,h1,h2.fr (Fr.refl _ _) (fun _ hb => hb.1)⟩
theorem OwnQ.later {Q : Nat → Prop} {w w' : World} {B : Nat} {v : Value} {ts : List Tr} (h : OwnQ Q w B v ts) (hz : w.heap.size ≤ w'.heap.size) (hw : ∀ b,B ≤ b → b < w.heap.size → w'.heap[b]? = w.heap[b]?) : OwnQ Q w' B v ts:=by
 obtain ⟨sls,h1,h2,h3⟩:=h
 exact ⟨sls,ownsRow_fr hw h1,h2.fr (fun b hb => hw b hb.1.1.1 hb.1.1.2) (fun b hb => ⟨⟨⟨hb.1.1.1,by omega⟩,hb.1.2⟩,hb.2⟩),h3⟩
theorem OwnQ.of {Q : Nat → Prop} {w : World} {B : Nat} {v : Value} {ts : List Tr} (h : OwnL w B v ts) (hQ : ∀ b,B ≤ b → b < w.heap.size → Q b) : OwnQ Q w B v ts:=by
 have hl:=OwnL.lt h
 obtain ⟨sls,h1,h2⟩:=h
 exact ⟨sls,h1,h2.fr (Fr.refl _ _) (fun b hb => ⟨hb,hQ b hb.1.1 hb.1.2⟩),fun k hk => hQ k (hl k hk).1 (hl k hk).2⟩
/-- What keeps clear of block m stays when m is written. -/
theorem OwnQ.put {w w' : World} {B m : Nat} {v : Value} {ts : List Tr} (h : OwnQ (fun b => b ≠ m) w B v ts) (hp : Put m w w') : OwnL w' B v ts:=by
 obtain ⟨sls,h1,h2,h3⟩:=h
 refine ⟨sls,?_,h2.fr (fun b hb => hp.block b hb.2) (fun b hb => ⟨⟨hb.1.1.1,by rw [hp.size]; exact hb.1.1.2⟩,hb.1.2⟩)⟩
 refine ⟨h1.1,?_⟩
 rcases h1.2 with hn | ⟨g,cap,cur,rfl,hb,hg,rest⟩
 · exact .inl hn
 · exact .inr ⟨g,cap,cur,rfl,hb,(hp.block g (h3 g rfl)).trans hg,rest⟩
theorem run_joinQ {W : World} {B C : Nat} {v1 v2 : Value} {ts us : List Tr} {Q : Nat → Prop} (ty : TypeId) (h1 : OwnQ Q W B v1 ts) (h2 : OwnQ Q W C v2 us) (hQ : Q W.heap.size) (hBC : B ≤ C) (hC : C ≤ W.heap.size) (hv : ∀ k,v1.ownBlock = some k → k < C) (hlen : ts.length + us.length ≤ 1000000) :
    ∃ ao cap w',(Builtin.append_ #[22,22] ty #[v1,v2]).run Tryz.prog W = .ok (.slice ao (ts.length + us.length) cap) w' ∧ OwnQ Q w' B (.slice ao (ts.length + us.length) cap) (ts ++ us) ∧ W.grownBy w' v1.ownBlock:=by
  obtain ⟨sls,o1,k1,g1⟩:=h1
  obtain ⟨sls2,o2,k2,g2⟩:=h2
  obtain ⟨i0,hi,hz0,hz1,hz2⟩:=info_parts Tryz.info24
  have key : ∃ v' w',(Builtin.append_ #[22,22] ty #[v1,v2]).run Tryz.prog W = .ok v' w' ∧ w'.ownsRow B 24 4 v' (ts.length + us.length) (cellsOf ts sls ++ cellsOf us sls2) ∧ W.grownBy w' v1.ownBlock ∧ (v'.ownBlock = v1.ownBlock ∨ v'.ownBlock = some W.heap.size):=by
   rcases o2.2 with ⟨rfl,e0⟩ | ⟨g,cap,cur,rfl,hb,hg,hcap,_,hsz,htk⟩
   · have hu : us = []:=List.eq_nil_of_length_eq_zero e0
     subst hu
     refine ⟨v1,W,run_append_owned_none W B 22 ty 24 i0 4 Tryz.underlying22 hi v1 _ _ o1,?_,⟨rfl,rfl,rfl,Nat.le_refl _,fun _ _ _ => rfl⟩,.inl rfl⟩
     cases sls2 with
     | nil => simpa [cellsOf] using o1
     | cons a b => simpa [cellsOf] using o1
   · have hnews : ∀ j u,(cellsOf us sls2)[j]? = some u → W.cell? ((⟨g,0,none⟩ : Addr).add j) = some u:=by
      intro j u hj
      rw [← htk] at hj
      have hj' : cur[j]? = some u:=by
       rw [List.getElem?_take] at hj
       split at hj
       · simpa using hj
       · cases hj
      have ha : (⟨g,0,none⟩ : Addr).add j = ⟨g,j,none⟩:=by cases j <;> simp [Addr.add]
      rw [ha]; simp [World.cell?,hg,hj']
     obtain ⟨v',w',hr,ho,hgr,_,hat⟩:=run_append_own_at (P:=Tryz.prog) W B 22 ty 24 i0 _ 4 56 Tryz.underlying22 hi hz0 hz1 hz2 rfl (by decide) v1 _ _ o1 ⟨g,0,none⟩ us.length cap (cellsOf us sls2) (cellsOf_length k2.length) hnews (cellsOf_one k2.one) (by unfold maxLen; omega) (by omega) (by omega)
     exact ⟨v',w',hr,ho,hgr,hat⟩
  obtain ⟨v',w',hr,ho,hgr,hat⟩:=key
  have hz:=hgr.size
  have hO : OwnQ Q w' B v' (ts ++ us):=by
   refine ⟨sls ++ sls2,?_,KL.append (k1.fr (fun b hb => hgr.block b hb.1.1.2 hb.1.2) (fun b hb => ⟨⟨⟨hb.1.1.1,by omega⟩,?_⟩,hb.2⟩)) (k2.fr (fun b hb => hgr.block b hb.1.1.2 (fun e => by have:=hv b e.symm; omega)) (fun b hb => ⟨⟨⟨by omega,by omega⟩,?_⟩,hb.2⟩)),?_⟩
   · rw [cellsOf_append k1.length,List.length_append]; exact ho
   · rcases hat with e | e
     · rw [e]; exact hb.1.2
     · rw [e]; intro e2; cases e2; omega
   · rcases hat with e | e
     · rw [e]; intro e2; have:=hv b e2.symm; omega
     · rw [e]; intro e2; cases e2; omega
   · intro k hk
     rcases hat with e | e
     · exact g1 k (e ▸ hk)
     · rw [e] at hk; cases hk; exact hQ
  obtain ⟨ao,cap,e⟩:=hO.own.slice
  rw [List.length_append] at e
  rw [e] at hr hO
  exact ⟨ao,cap,w',hr,hO,hgr⟩
theorem step_join {W : World} {ops : Array Oper} {o : Oper} {a : Act} {K : Act → World → Prop} {Q : Exit → Act → World → Prop} {E : Prop} {Z : Nat → Prop} (hgd : o.guard = none) (s x : Operand)
    (ho : o.op = .call { callee:=.builtin .append,args:=#[s,x],argTypes:=#[22,22] }) {B C : Nat} {v1 v2 : Value} {ts us : List Tr} (hs : a.eval s = v1) (hx : a.eval x = v2)
    (h1 : OwnQ Z W B v1 ts) (h2 : OwnQ Z W C v2 us) (hZ : Z W.heap.size) (hBC : B ≤ C) (hC : C ≤ W.heap.size) (hv : ∀ k,v1.ownBlock = some k → k < C) (hlen : ts.length + us.length ≤ 1000000)
    (h : ∀ ao cap w',OwnQ Z w' B (.slice ao (ts.length + us.length) cap) (ts ++ us) → W.grownBy w' v1.ownBlock → K (a.put o.dst (.slice ao (ts.length + us.length) cap)) w') :
    if Region.wanted o (yielded ops a.tmps) = true then Oper.wp Tryz.prog o a W K Q else E:=by
  have hw : Region.wanted o (yielded ops a.tmps) = true:=by simp [Region.wanted,hgd]
  rw [if_pos hw]
  obtain ⟨ao,cap,w',hr,hO,hg⟩:=run_joinQ o.type h1 h2 hZ hBC hC hv hlen
  unfold Oper.wp execOp
  simp only [ho,resolve,invoke,builtin,Sem.run_bind,Sem.run_pure,Result.andThen_ok,List.map_toArray,List.map_cons,List.map_nil,hs,hx,hr]
  exact h ao cap w' hO hg
/-- A node in a box of the walk's own, its kids in an own list that keeps clear of the box. -/
structure NBox (X : Px) (w W : World) (m : Nat) (k : Int) (s : List UInt8) (num : Int) (V : Value) (ts : List Tr) : Prop where
  blk : W.heap[m]? = some (.cells #[.int .i64 k,.string ⟨s.toArray⟩,.int .i64 num,V] 24 (0,0))
  lt : w.heap.size < m
  own : OwnQ (fun b => b ≠ m) W (w.heap.size + 1) V ts
section
variable {X : Px} {w W W' : World} {m i : Nat} {h : Bool} {k num : Int} {s : List UInt8} {V : Value} {ts : List Tr}
theorem NBox.cells (T : NBox X w W m k s num V ts) : W.cell? ⟨m,0,none⟩ = some (.int .i64 k) ∧ W.cell? ⟨m,1,none⟩ = some (.string ⟨s.toArray⟩) ∧ W.cell? ⟨m,2,none⟩ = some (.int .i64 num) ∧ W.cell? ⟨m,3,none⟩ = some V ∧ ∀ o,W.frozen? ⟨m,o,none⟩ = false:=by
 have e:=T.blk
 exact ⟨by simp [World.cell?,e],by simp [World.cell?,e],by simp [World.cell?,e],by simp [World.cell?,e],fun o => by simp [World.frozen?,e]⟩
theorem NBox.ltz (T : NBox X w W m k s num V ts) : m < W.heap.size:=lt_of_block T.blk
theorem NBox.new (hO : Own w W V ts) (hlt : w.heap.size < W.heap.size) : NBox X w (W.alloc (.cells #[.int .i64 k,.string ⟨s.toArray⟩,.int .i64 num,V] 24)) W.heap.size k s num V ts :=
  ⟨heap_alloc_new W _,hlt,(OwnQ.of (Q:=fun b => b ≠ W.heap.size) hO (fun b _ hb => Nat.ne_of_lt hb)).later (by simp) (fun b _ h2 => Below.heap_alloc W _ b h2)⟩
theorem NBox.later (T : NBox X w W m k s num V ts) (hz : W.heap.size ≤ W'.heap.size) (hw : ∀ b,w.heap.size + 1 ≤ b → b < W.heap.size → W'.heap[b]? = W.heap[b]?) : NBox X w W' m k s num V ts :=
  ⟨(hw m T.lt T.ltz).trans T.blk,T.lt,T.own.later hz hw⟩
theorem NBox.call (T : NBox X w W m k s num V ts) (S : St X w W i h) (hb : But X.P W.heap.size W W') : NBox X w W' m k s num V ts :=
  T.later hb.size (fun b h1 h2 => hb.block b h2 (by have:=S.plt; omega))
theorem NBox.drew (T : NBox X w W m k s num V ts) : NBox X w W.drew m k s num V ts:=T.later (Nat.le_refl _) (fun _ _ _ => rfl)
theorem NBox.alloc (T : NBox X w W m k s num V ts) (o : Obj) : NBox X w (W.alloc o) m k s num V ts:=T.later (by simp) (fun b _ h2 => Below.heap_alloc W o b h2)
theorem NBox.tre (T : NBox X w W m k s num V ts) : Tre w W (.mk k s num ts) V:=OwnL.kt T.own.own k s num
/-- Behind an append to its list the box lies as it lay. -/
theorem NBox.grown (T : NBox X w W m k s num V ts) (hg : W.grownBy W' V.ownBlock) : W'.heap[m]? = some (.cells #[.int .i64 k,.string ⟨s.toArray⟩,.int .i64 num,V] 24 (0,0)):=by
 obtain ⟨_,_,_,h3⟩:=T.own
 exact (hg.block m T.ltz (fun e => h3 m e.symm rfl)).trans T.blk
end
theorem cells_of_blk {W : World} {m : Nat} {c0 c1 c2 c3 : Value} {t : TypeId} (e : W.heap[m]? = some (.cells #[c0,c1,c2,c3] t (0,0))) : W.cell? ⟨m,0,none⟩ = some c0 ∧ W.cell? ⟨m,1,none⟩ = some c1 ∧ W.cell? ⟨m,2,none⟩ = some c2 ∧ W.cell? ⟨m,3,none⟩ = some c3 ∧ ∀ o,W.frozen? ⟨m,o,none⟩ = false :=
  ⟨by simp [World.cell?,e],by simp [World.cell?,e],by simp [World.cell?,e],by simp [World.cell?,e],fun o => by simp [World.frozen?,e]⟩
end Go.Proofs.YtffnaknidofobaaGreatDoor

namespace Go.Proofs.YtffnaknidofobaaGreatDoor
open Go.RowKit
attribute [local go_sem ↓] Go.wp_at_zero Go.wp_at_succ
set_option maxRecDepth 20000 in
set_option maxHeartbeats 4000000 in
theorem variable_any (X : Px) (n : Nat) (A : Good X n) (w : World) (i : Nat) (h : Bool) (H : Par X w i h) (hn : 3 * (X.l.length - i) ≤ n + 3) :
    Calls Tryz.prog 197 #[X.p] w (OutT X w i h (variableR X.l (ps X.l n) h i)):=by
  obtain ⟨W0,hW0,S0⟩:=St.first H
  have lt0:=H.lt
  go_enter Tryz.func197,Tryz.ntmps197
  go_wp2_with fail
  cases hm1 : (kindA X.l i == 1) with
  | false =>
   have E1:=Lib.hid (nameR_no hm1)
   refine (name_no X W0 i h S0.par (by simpa using hm1)).mono ?_
   rintro e w1 ⟨rfl,hb1,H1⟩
   have HR : Hid (variableR X.l (ps X.l n) h i = .bad i):=by simp [Hid,variableR,Res.bind,E1.out]
   exact ⟨rfl,OutT.of HR (S0.bad hb1 H1)⟩
  | true =>
   have E1:=Lib.hid (nameR_yes hm1)
   refine (name_yes X W0 i h S0.par (by simpa using hm1)).mono ?_
   rintro e w1 ⟨rfl,hb1,H1⟩
   have S1:=S0.call hb1 H1
   have lt1:=H1.lt
   clear hm1
   go_wp2_with fail
   refine (A.typ w1 (i + 1) h S1.par (by omega)).mono ?_
   rintro e w2 ⟨hb2,hr2⟩
   cases hp2 : (ps X.l n).typ (i + 1) with
   | bad j2 =>
    rw [hp2] at hr2
    obtain ⟨rfl,h2,H2⟩:=hr2
    have E2:=Lib.hid hp2
    have HR : Hid (variableR X.l (ps X.l n) h i = .bad j2):=by simp [Hid,variableR,Res.bind,E1.out,E2.out]
    exact ⟨rfl,OutT.of HR (S1.bad hb2 H2)⟩
   | ok t2 j2 =>
    rw [hp2] at hr2
    obtain ⟨ij2,H2,sl2,rfl,hk2⟩:=hr2
    obtain ⟨ao2,n2,c2,rfl⟩:=hk2.slice
    have E2:=Lib.hid hp2
    have S2:=S1.call hb2 H2
    have lt2:=H2.lt
    have Tt2:=Tre.new S1 hk2
    clear hp2 hk2
    have Tl3:=Own.made1 S2 Tt2
    have S3:=S2.alloc (.cells #[.int .i64 t2.kind,.string ⟨t2.text.toArray⟩,.int .i64 t2.num,.slice ao2 n2 c2] 24)
    go_wp2_with fail
    refine (node_any 21 (textA X.l i) _ _ _ _).mono ?_
    rintro e w4 ⟨rfl,hb4⟩
    have S4:=S3.below hb4
    have Tl3_4:=Tl3.below hb4
    have Tt4:=Tl3_4.tre 21 (textA X.l i) 0
    have N5:=NBox.new (X:=X) (k:=21) (s:=(textA X.l i)) (num:=0) Tl3_4 S4.lt
    have S6:=S4.alloc (.cells #[.int .i64 21,.string ⟨((textA X.l i)).toArray⟩,.int .i64 0,.slice (some ⟨w2.heap.size,0,none⟩) 1 1] 24)
    have Tt4_6:=Tt4.alloc (.cells #[.int .i64 21,.string ⟨((textA X.l i)).toArray⟩,.int .i64 0,.slice (some ⟨w2.heap.size,0,none⟩) 1 1] 24)
    go_wp2_with fail
    cases hm7 : isM X.l j2 [61] with
    | false =>
     refine (take_no X (w4.alloc (.cells #[.int .i64 21,.string ⟨((textA X.l i)).toArray⟩,.int .i64 0,.slice (some ⟨w2.heap.size,0,none⟩) 1 1] 24)) j2 h S6.par [61] hm7).mono ?_
     rintro e w7 ⟨rfl,hb7,H7⟩
     have E7:=Lib.hid hm7
     have S7:=S6.call hb7 H7
     have lt7:=H7.lt
     have N7:=N5.call S6 hb7
     clear hm7
     have Tt8:=N7.tre
     obtain ⟨q0,q1,q2,q3,_⟩:=N7.cells
     have HR : Hid (variableR X.l (ps X.l n) h i = .ok (.mk 21 (textA X.l i) 0 [t2]) j2):=by simp [Hid,variableR,Res.bind,E1.out,E2.out,E7.out]
     obtain ⟨u0,u1,u2,u3,b0,b1,b2,b3,bf⟩:=S7.box.open
     have bf0:=bf 0
     have bf1:=bf 1
     have bf2:=bf 2
     have bf3:=bf 3
     clear bf
     go_wp2
     obtain ⟨Wf,hWf,hput,_,d0,d1,d2,d3⟩:=putN4 S7.box (.int .i64 21) (.string ⟨((textA X.l i)).toArray⟩) (.int .i64 0) (.slice (some ⟨w2.heap.size,0,none⟩) 1 1)
     rw [hWf]
     exact bodyPost_ret (v:=.agg #[.int .i64 21,.string ⟨((textA X.l i)).toArray⟩,.int .i64 0,.slice (some ⟨w2.heap.size,0,none⟩) 1 1]) (by simp [results,Tryz.results197,go_sem,d0,d1,d2,d3]) rfl (OutT.of HR (S7.done Tt8 hput (by omega)))
    | true =>
     refine (take_yes X (w4.alloc (.cells #[.int .i64 21,.string ⟨((textA X.l i)).toArray⟩,.int .i64 0,.slice (some ⟨w2.heap.size,0,none⟩) 1 1] 24)) j2 h S6.par [61] (by decide) hm7).mono ?_
     rintro e w7 ⟨rfl,hb7,H7⟩
     have E7:=Lib.hid hm7
     have S7:=S6.call hb7 H7
     have lt7:=H7.lt
     have N7:=N5.call S6 hb7
     clear hm7
     generalize Value.slice (some ⟨w2.heap.size,0,none⟩) 1 1 = V9 at *
     have lo9:=OwnL.lt N7.own.own
     have cB:=expression_any X n A (w7).drew (j2 + 1) h S7.drew.par (by omega)
     obtain ⟨q0,q1,q2,q3,qf⟩:=N7.cells
     have qf3:=qf 3
     clear qf
     have sb:=S7.lt
     have bd0:=S7.par.bnd
     go_wp2_with fail
     go_region_law (first
       | (go_simp; go_at_call 209; refine cB.mono ?_; rintro e w5 ⟨hb5,hr5⟩; rcases Res.or (exprR (ps X.l n) h (j2 + 1)) with ⟨j,hp⟩ | ⟨r,j,hp⟩
          · (rw [hp] at hr5; obtain ⟨rfl,h5,H5⟩:=hr5; have HR : Hid (variableR X.l (ps X.l n) h i = .bad j):=(by simp [Hid,variableR,Res.bind,E1.out,E2.out,E7.out,hp]); exact ⟨rfl,OutT.of HR (S7.drew.bad hb5 H5)⟩)
          rw [hp] at hr5
          obtain ⟨ij5,H5,sl5,rfl,hk5⟩:=hr5
          obtain ⟨ao5,n5,c5,rfl⟩:=hk5.slice
          have E5:=Lib.hid hp
          have S5:=S7.drew.call hb5 H5
          have N5:=N7.drew.call S7.drew hb5
          have lz5:=hb5.size
          have ld5 : (w7).drew.heap.size = (w7).heap.size:=rfl
          have bd5:=H5.bnd
          have lm5:=N7.ltz
          have hO5:=OwnQ.of (Q:=fun b => b ≠ w4.heap.size) (OwnL.one (B:=(w7).heap.size) lz5 hk5 (Nat.le_refl _) (Nat.le_refl _)) (fun b hb _ => by omega)
          have N5a:=N5.alloc (.cells #[.int .i64 r.kind,.string ⟨r.text.toArray⟩,.int .i64 r.num,.slice ao5 n5 c5] 24)
          have S5a:=S5.alloc (.cells #[.int .i64 r.kind,.string ⟨r.text.toArray⟩,.int .i64 r.num,.slice ao5 n5 c5] 24)
          obtain ⟨y0,y1,y2,y3,yf⟩:=N5.cells
          have yf3:=yf 3
          have ym:=N5.ltz
          have yn : w4.heap.size ≠ w5.heap.size:=Nat.ne_of_lt ym
          have yn2 : w5.heap.size ≠ w4.heap.size:=fun e => yn e.symm
          clear yf hp)
       | (refine step_join (by rfl) _ _ (by rfl) (by rfl) (by rfl) N5a.own hO5 ?_ ?_ ?_ ?_ ?_ ?_
          · simp; omega
          · omega
          · simp; omega
          · exact fun q hq => (lo9 q hq).2
          · simp
          intro ao6 c6 w6 hO6 hg6
          have S6:=S5a.grown hg6 (fun q hq => (lo9 q hq).1)
          have B6:=N5a.grown hg6
          obtain ⟨z0,z1,z2,z3,zf⟩:=cells_of_blk B6
          have zf3:=zf 3
          clear zf))
     all_goals
      have hpx:=(Put.refl (w4.heap.size) w6).setCell 3 (.slice ao6 2 c6)
      have S7x:=S6.put hpx N5a.lt
      have Ttx : Tre w (w6.setCell ⟨w4.heap.size,3,none⟩ (.slice ao6 2 c6)) (.mk 21 (textA X.l i) 0 [t2,r]) (.slice ao6 2 c6):=OwnL.kt (hO6.put hpx) 21 (textA X.l i) 0
      have zz0 : (w6.setCell ⟨w4.heap.size,3,none⟩ (.slice ao6 2 c6)).heap[w4.heap.size]? = some (.cells #[.int .i64 21,.string ⟨((textA X.l i)).toArray⟩,.int .i64 0,.slice ao6 2 c6] 24 (0,0)):=(heap_setCell_same w6 (w4.heap.size) 3 _ B6).trans rfl
      clear z0 z1 z2 z3 zf3 hg6 hO6 B6 y0 y1 y2 y3 yf3 q0 q1 q2 q3 qf3
      generalize w6.setCell ⟨w4.heap.size,3,none⟩ (.slice ao6 2 c6) = w7x at *
      obtain ⟨z0,z1,z2,z3,_⟩:=cells_of_blk zz0
      have HR : Hid (variableR X.l (ps X.l n) h i = .ok (.mk 21 (textA X.l i) 0 [t2,r]) j):=by simp [Hid,variableR,Res.bind,E1.out,E2.out,E7.out,E5.out]
      obtain ⟨u0,u1,u2,u3,b0,b1,b2,b3,bf⟩:=S7x.box.open
      have bf0:=bf 0
      have bf1:=bf 1
      have bf2:=bf 2
      have bf3:=bf 3
      clear bf
      go_wp2
      obtain ⟨Wf,hWf,hput,_,d0,d1,d2,d3⟩:=putN4 S7x.box (.int .i64 21) (.string ⟨((textA X.l i)).toArray⟩) (.int .i64 0) (.slice ao6 2 c6)
      rw [hWf]
      exact bodyPost_ret (v:=.agg #[.int .i64 21,.string ⟨((textA X.l i)).toArray⟩,.int .i64 0,.slice ao6 2 c6]) (by simp [results,Tryz.results197,go_sem,d0,d1,d2,d3]) rfl (OutT.of HR (S7x.done Ttx hput (by omega)))
end Go.Proofs.YtffnaknidofobaaGreatDoor
