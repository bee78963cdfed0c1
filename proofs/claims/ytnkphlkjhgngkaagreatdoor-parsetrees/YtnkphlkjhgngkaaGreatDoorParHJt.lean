/- The parser's binary operators. -/
import Derived.Test.YtnkphlkjhgngkaaGreatDoorParJJt
import Derived.Laws.BitsLemmas
namespace Go.Proofs.YtnkphlkjhgngkaaGreatDoor
open Go.RowKit
attribute [local go_sem ↓] Go.wp_at_zero Go.wp_at_succ
theorem St.drew {X : Px} {w W : World} {i : Nat} {h : Bool} (S : St X w W i h) : St X w W.drew i h:=⟨S.but.drew,S.par.of_blocks rfl rfl,S.box.of_block rfl,S.plt,S.tlt⟩
/-- A tree in a box of the walk's own. -/
structure Held (X : Px) (w W : World) (m : Nat) (t : Tr) (ao : Option Addr) (nn c : Nat) : Prop where
  blk : W.heap[m]? = some (.cells #[.int .i64 t.kind,.string ⟨t.text.toArray⟩,.int .i64 t.num,.slice ao nn c] 24 (0,0))
  lt : w.heap.size < m
  tre : KT W (fun b => (w.heap.size + 1 ≤ b ∧ b < W.heap.size) ∧ b ≠ m) t (.slice ao nn c)
section
variable {X : Px} {w W W' : World} {m i : Nat} {h : Bool} {t : Tr} {ao : Option Addr} {nn c : Nat}
theorem Held.cells (T : Held X w W m t ao nn c) : W.cell? ⟨m,0,none⟩ = some (.int .i64 t.kind) ∧ W.cell? ⟨m,1,none⟩ = some (.string ⟨t.text.toArray⟩) ∧ W.cell? ⟨m,2,none⟩ = some (.int .i64 t.num) ∧ W.cell? ⟨m,3,none⟩ = some (.slice ao nn c) ∧ ∀ o,W.frozen? ⟨m,o,none⟩ = false:=by
 have e:=T.blk
 exact ⟨by simp [World.cell?,e],by simp [World.cell?,e],by simp [World.cell?,e],by simp [World.cell?,e],fun o => by simp [World.frozen?,e]⟩
theorem Held.ltz (T : Held X w W m t ao nn c) : m < W.heap.size:=lt_of_block T.blk
theorem Held.box (T : Held X w W m t ao nn c) : Box W m:=⟨_,_,_,_,T.blk⟩
theorem Held.new (S : St X w W i h) (T : Tre w W t (.slice ao nn c)) : Held X w (W.alloc (.cells #[.int .i64 t.kind,.string ⟨t.text.toArray⟩,.int .i64 t.num,.slice ao nn c] 24)) W.heap.size t ao nn c :=
  ⟨heap_alloc_new W _,S.lt,KT.fr T (fun b hb => Below.heap_alloc W _ b hb.2) (fun b hb => ⟨⟨hb.1,by simp; omega⟩,by omega⟩)⟩
theorem Held.later (T : Held X w W m t ao nn c) (hz : W.heap.size ≤ W'.heap.size) (hw : ∀ b,w.heap.size + 1 ≤ b → b < W.heap.size → W'.heap[b]? = W.heap[b]?) : Held X w W' m t ao nn c :=
  ⟨(hw m T.lt T.ltz).trans T.blk,T.lt,KT.fr T.tre (fun b hb => hw b hb.1.1 hb.1.2) (fun b hb => ⟨⟨hb.1.1,by omega⟩,hb.2⟩)⟩
theorem Held.call (T : Held X w W m t ao nn c) (S : St X w W i h) (hb : But X.P W.heap.size W W') : Held X w W' m t ao nn c :=
  T.later hb.size (fun b h1 h2 => hb.block b h2 (by have:=S.plt; omega))
theorem Held.below (T : Held X w W m t ao nn c) (hb : Below W.heap.size W W') : Held X w W' m t ao nn c:=T.later hb.size (fun b _ h2 => hb.block b h2)
theorem Held.drew (T : Held X w W m t ao nn c) : Held X w W.drew m t ao nn c:=T.later (Nat.le_refl _) (fun _ _ _ => rfl)
theorem Held.next (T : Held X w W m t ao nn c) (S : St X w W i h) (o : Nat) (u : Value) : Held X w (W.setCell ⟨X.P,o,none⟩ u) m t ao nn c :=
  T.later (by simp) (fun b h1 _ => Below.heap_setCell _ _ _ _ (by have:=S.plt; simp only; omega))
theorem Held.alloc (T : Held X w W m t ao nn c) (o : Obj) : Held X w (W.alloc o) m t ao nn c:=T.below ((Below.refl _ _).alloc (Nat.le_refl _) o)
/-- A tree whose kids were laid into a new block. -/
theorem kt_made {S S' : Nat → Prop} {ts : List Tr} {sls : List Value} {a : Array Value} (k : Int) (s : List UInt8) (num : Int) (hk : KL W S ts sls) (hlt : ∀ b,S b → b < W.heap.size) (hS : ∀ b,S b → S' b) (hnew : S' W.heap.size) (hc : a = (cellsOf ts sls).toArray) :
    KT (W.alloc (.cells a 24)) S' (.mk k s num ts) (.slice (some ⟨W.heap.size,0,none⟩) ts.length ts.length):=by
  subst hc
  simp only [KT]
  refine ⟨sls,.inr ⟨W.heap.size,0,_,rfl,Nat.le_refl _,hnew,fun j u hj => ?_⟩,hk.fr (fun b hb => Below.heap_alloc W _ b (hlt b hb)) hS⟩
  rw [Nat.zero_add,World.cell?_alloc_new]
  simpa using hj
/-- What is taken out of the box is a tree of the walk's. -/
theorem Held.out (T : Held X w W m t ao nn c) : Tre w W t (.slice ao nn c):=KT.fr T.tre (Fr.refl _ _) (fun _ hb => hb.1)
/-- Another tree is put into the box. -/
theorem Held.put {u : Tr} {a2 : Option Addr} {n2 c2 : Nat} {v0 v1 v2 v3 : Value} (hB : Box W m) (hlt : w.heap.size < m) (T : KT W (fun b => (w.heap.size + 1 ≤ b ∧ b < W.heap.size) ∧ b ≠ m) u (.slice a2 n2 c2)) (e0 : v0 = .int .i64 u.kind) (e1 : v1 = .string ⟨u.text.toArray⟩) (e2 : v2 = .int .i64 u.num) (e3 : v3 = .slice a2 n2 c2) :
    Held X w ((((W.setCell ⟨m,0,none⟩ v0).setCell ⟨m,1,none⟩ v1).setCell ⟨m,2,none⟩ v2).setCell ⟨m,3,none⟩ v3) m u a2 n2 c2:=by
  subst e0 e1 e2 e3
  obtain ⟨c0,c1,c2',c3,e⟩:=hB
  refine ⟨?_,hlt,KT.fr T (fun b hb => ?_) (fun b hb => by simpa using hb)⟩
  · rw [heap_setCell_same _ m 3 _ (heap_setCell_same _ m 2 _ (heap_setCell_same _ m 1 _ (heap_setCell_same _ m 0 _ e)))]; rfl
  · rw [Below.heap_setCell _ _ _ _ hb.2,Below.heap_setCell _ _ _ _ hb.2,Below.heap_setCell _ _ _ _ hb.2,Below.heap_setCell _ _ _ _ hb.2]
theorem St.put (S : St X w W i h) {Wf : World} (hput : Put m W Wf) (hm : w.heap.size < m) : St X w Wf i h:=by
 have h1:=S.plt
 have h2:=S.tlt
 exact ⟨S.but.put hput (.inr (by omega)),S.par.put hput (by omega) (by omega),S.box.of_block (hput.block _ (by omega)),h1,h2⟩
end
theorem Res.or {α : Type} (r : Res α) : (∃ j,r = .bad j) ∨ ∃ a j,r = .ok a j:=by
 cases r with
 | ok a j => exact .inr ⟨a,j,rfl⟩
 | bad j => exact .inl ⟨j,rfl⟩
theorem binF_stop {l : List Tk} {p : Ps} {h : Bool} {least : Int} {f : Nat} {t : Tr} {k : Nat} (hf : 0 < f) (hm : ¬ least ≤ rankL (markA l k)) : binF l p h least f t k = .ok t k:=by
 match f,hf with
 | f + 1,_ => simp only [binF]; rw [if_neg hm]
theorem binF_bad {l : List Tk} {p : Ps} {h : Bool} {least : Int} {f : Nat} {t : Tr} {k j : Nat} (hf : 0 < f) (hm : least ≤ rankL (markA l k)) (hp : p.bin h (rankL (markA l k) + 1) (k + 1) = .bad j) : binF l p h least f t k = .bad j:=by
 match f,hf with
 | f + 1,_ => simp only [binF]; rw [if_pos hm,hp]; rfl
theorem binF_step {l : List Tk} {p : Ps} {h : Bool} {least : Int} {f : Nat} {t r : Tr} {k j : Nat} (hf : 0 < f) (hm : least ≤ rankL (markA l k)) (hp : p.bin h (rankL (markA l k) + 1) (k + 1) = .ok r j) : binF l p h least f t k = binF l p h least (f - 1) (.mk 53 (markA l k) 0 [t,r]) j:=by
 match f,hf with
 | f + 1,_ => simp only [binF]; rw [if_pos hm,hp]; rfl
theorem rankL_le (s : List UInt8) : 0 ≤ rankL s ∧ rankL s ≤ 5:=by
 unfold rankL
 repeat' split
 all_goals decide
theorem rank_end {X : Px} {w : World} {i : Nat} {h : Bool} (H : Par X w i h) (hr : 1 ≤ rankL (markA X.l i)) : i + 1 < X.l.length:=by
 refine not_end H (fun hn => ?_)
 have : markA X.l i = []:=by unfold markA; rw [hn.2]; split <;> rfl
 rw [this] at hr
 exact absurd hr (by decide)
set_option maxRecDepth 20000 in
set_option maxHeartbeats 4000000 in
theorem binary_any (X : Px) (n : Nat) (A : Good X n) (w : World) (i : Nat) (h : Bool) (least : Int) (H : Par X w i h) (hl1 : 1 ≤ least) (hl6 : least ≤ 6) (hn : 3 * (X.l.length - i) + 1 ≤ n + 1) :
    Calls Tryz.prog 178 #[X.p,.int .i64 least] w (OutT X w i h (binS X.l (ps X.l n) h least i)):=by
  obtain ⟨W0,hW0,S0⟩:=St.first H
  have lt0:=H.lt
  go_enter Tryz.func178,Tryz.ntmps178
  go_wp2_with fail
  refine (A.una W0 i h S0.par (by omega)).mono ?_
  rintro e w1 ⟨hb1,hr1⟩
  cases hp1 : (ps X.l n).una h i with
  | bad j1 =>
   rw [hp1] at hr1
   obtain ⟨rfl,h1,H1⟩:=hr1
   have HR : Hid (binS X.l (ps X.l n) h least i = .bad j1):=by simp [Hid,binS,Res.bind,hp1]
   exact ⟨rfl,OutT.of HR (S0.bad hb1 H1)⟩
  | ok t1 j1 =>
   rw [hp1] at hr1
   obtain ⟨ij1,H1,sl1,rfl,hk1⟩:=hr1
   obtain ⟨ao1,n1,c1,rfl⟩:=hk1.slice
   have S1:=S0.call hb1 H1
   have Tt1:=Tre.new S0 hk1
   have HS : Hid (binS X.l (ps X.l n) h least i = binF X.l (ps X.l n) h least (X.l.length + 1) t1 j1):=by simp [Hid,binS,Res.bind,hp1]
   have hH:=Held.new S1 Tt1
   have S2:=S1.alloc (.cells #[.int .i64 t1.kind,.string ⟨t1.text.toArray⟩,.int .i64 t1.num,.slice ao1 n1 c1] 24)
   clear hp1 hk1 Tt1
   have hmm : w1.heap.size ≠ w.heap.size:=by have:=S1.lt; omega
   have HP:=S1.plt
   go_wp2_with fail
   go_loopw [6] (fun _ wr => ∃ (k fu : Nat) (t : Tr) (ao : Option Addr) (nn c : Nat),St X w wr k h ∧ Held X w wr w1.heap.size t ao nn c ∧ i < k ∧ Hid (X.l.length - k < fu ∧ binS X.l (ps X.l n) h least i = binF X.l (ps X.l n) h least fu t k)) (fun _ wr => X.l.length - posOf X wr)
   case atStart => exact ⟨j1,X.l.length + 1,t1,ao1,n1,c1,S2,hH,ij1,by omega,HS.out⟩
   case round =>
    obtain ⟨k,fu,t,ao,nn,c,Sk,Tk,hik,HF⟩:=hrel
    clear HS S2 hH S1 H1
    have cM:=mark_any X wr k h Sk.par
    go_wp2_with fail
    refine cM.mono ?_
    rintro e w2 ⟨rfl,hb2⟩
    have S2:=Sk.below hb2
    have T2:=Tk.below hb2
    clear cM
    go_wp2_with fail
    refine (rank_any (markA X.l k) w2).mono ?_
    rintro e w2 ⟨rfl,rfl⟩
    have hrk:=rankL_le (markA X.l k)
    by_cases hle : least ≤ rankL (markA X.l k)
    · have HL:=Lib.hid hle
      have nx:=rank_end S2.par (by omega)
      have bnd:=S2.par.bnd
      have cM:=mark_any X w2 k h S2.par
      go_wp2_with fail
      refine cM.mono ?_
      rintro e w3 ⟨rfl,hb3⟩
      have S3:=S2.below hb3
      have T3:=T2.below hb3
      have p1:=S3.par.c1
      have pf:=S3.par.fz 1
      have S4:=S3.next nx
      have T4:=T3.next S3 1 (.int .i64 ((k : Int) + 1))
      clear cM
      go_wp2_with fail
      clear p1 pf
      generalize w3.setCell ⟨X.P,1,none⟩ (.int .i64 ((k : Int) + 1)) = w4 at *
      have rb : rankL (markA X.l k) + 1 ≤ 6:=by omega
      have rb1 : 1 ≤ rankL (markA X.l k) + 1:=by omega
      have hwr : IntKind.i64.wrap (rankL (markA X.l k) + 1) = rankL (markA X.l k) + 1:=by rw [IntKind.wrap_i64]; omega
      have cB:=A.bin w4.drew (k + 1) h (rankL (markA X.l k) + 1) S4.drew.par rb1 rb (by omega)
      obtain ⟨q0,q1,q2,q3,qf⟩:=T4.cells
      have qf0:=qf 0
      have qf1:=qf 1
      have qf2:=qf 2
      have qf3:=qf 3
      clear qf
      go_region_with (first
        | (go_at_call 168; refine (rank_any _ _).mono ?_; rintro e w' ⟨rfl,rfl⟩)
        | (go_at_call 178; refine cB.mono ?_; rintro e w5 ⟨hb5,hr5⟩; rcases Res.or ((ps X.l n).bin h (rankL (markA X.l k) + 1) (k + 1)) with ⟨j,hp⟩ | ⟨r,j,hp⟩
           · (rw [hp] at hr5; obtain ⟨rfl,h5,H5⟩:=hr5; exact ⟨rfl,OutT.of (Lib.hid (HF.out.2.trans (binF_bad (Nat.lt_of_le_of_lt (Nat.zero_le _) HF.out.1) HL.out hp))) (S4.drew.bad hb5 H5)⟩)
           rw [hp] at hr5
           obtain ⟨ij5,H5,sl5,rfl,hk5⟩:=hr5
           obtain ⟨ao5,n5,c5,rfl⟩:=hk5.slice
           have S5:=S4.drew.call hb5 H5
           have T5:=T4.drew.call S4.drew hb5
           have E5:=Lib.hid hp
           obtain ⟨y0,y1,y2,y3,_⟩:=T5.cells
           clear hp)
        | (go_at_call 33; refine (node_any _ _ _ _ _ _).mono ?_; rintro e w6 ⟨rfl,hb6⟩
           have S6:=(S5.alloc _).below hb6
           have T6:=(T5.alloc _).below hb6
           obtain ⟨r0,r1,r2,r3,rf⟩:=T6.cells
           have rf0:=rf 0
           have rf1:=rf 1
           have rf2:=rf 2
           have rf3:=rf 3
           clear rf))
      all_goals
       have HX : Hid (X.l.length - j < fu - 1 ∧ binS X.l (ps X.l n) h least i = binF X.l (ps X.l n) h least (fu - 1) (.mk 53 (markA X.l k) 0 [t,r]) j):=⟨by have:=HF.out.1; have:=H5.lt; omega,HF.out.2.trans (binF_step (by have:=HF.out.1; omega) HL.out E5.out)⟩
       have l4:=T4.ltz
       have lz5:=hb5.size
       have ls4:=S4.lt
       have lz6:=hb6.size
       rw [World.size_alloc] at lz6
       have l4' : w4.drew.heap.size = w4.heap.size:=rfl
       have hkl : KL w5 (fun b => (w.heap.size + 1 ≤ b ∧ b < w5.heap.size) ∧ b ≠ w1.heap.size) [t,r] [.slice ao nn c,.slice ao5 n5 c5]:=by
        simp only [KL]
        exact ⟨_,_,rfl,T5.tre,_,_,rfl,hk5.fr (Fr.refl _ _) (fun b hb => ⟨⟨by omega,hb.2⟩,by omega⟩),rfl⟩
       have hkt:=kt_made (S':=fun b => (w.heap.size + 1 ≤ b ∧ b < w5.heap.size + 1) ∧ b ≠ w1.heap.size) 53 (markA X.l k) 0 hkl (fun b hb => hb.1.2) (fun b hb => ⟨⟨hb.1.1,by omega⟩,hb.2⟩) ⟨⟨by omega,by omega⟩,by have:=T5.ltz; omega⟩ rfl
       have hT:=Held.put (X:=X) T6.box T6.lt (hkt.fr (fun b hb => hb6.block b (by simp; omega)) (fun b hb => ⟨⟨hb.1.1,by omega⟩,hb.2⟩)) rfl rfl rfl rfl
       have hS:=S6.put ((((Put.refl w1.heap.size w6).setCell 0 (.int .i64 53)).setCell 1 (.string ⟨(markA X.l k).toArray⟩)).setCell 2 (.int .i64 0) |>.setCell 3 (.slice (some ⟨w5.heap.size,0,none⟩) 2 2)) T6.lt
       clear hkl hkt r0 r1 r2 r3 rf0 rf1 rf2 rf3
       go_wp2
       go_roundw
       case rel => exact ⟨j,fu - 1,_,_,_,_,hS,hT,by omega,HX⟩
       case measure => rw [hS.par.pos,Sk.par.pos]; have:=hS.par.lt; omega
    · have HX : Hid (binS X.l (ps X.l n) h least i = .ok t k):=HF.out.2.trans (binF_stop (by have:=HF.out.1; omega) hle)
      obtain ⟨q0,q1,q2,q3,_⟩:=T2.cells
      obtain ⟨u0,u1,u2,u3,b0,b1,b2,b3,bf⟩:=S2.box.open
      have bf0:=bf 0
      have bf1:=bf 1
      have bf2:=bf 2
      have bf3:=bf 3
      clear bf
      go_wp2
      obtain ⟨Wf,hWf,hput,_,d0,d1,d2,d3⟩:=putN4 S2.box (.int .i64 t.kind) (.string ⟨t.text.toArray⟩) (.int .i64 t.num) (.slice ao nn c)
      rw [hWf]
      exact bodyPost_ret (v:=.agg #[.int .i64 t.kind,.string ⟨t.text.toArray⟩,.int .i64 t.num,.slice ao nn c]) (by simp [results,Tryz.results178,go_sem,d0,d1,d2,d3]) rfl (OutT.of HX (S2.done T2.out hput hik))
end Go.Proofs.YtnkphlkjhgngkaaGreatDoor
