/- The parser's smallest parts. -/
import Derived.Test.YtffnaknidofobaaGreatDoorParJt
import Derived.Deep.RegionHeld3
import Derived.Deep.DrawnRows
import Derived.Deep.QuietTactic
import Derived.BigQuiet
import Derived.Shelf.Abstract
import Derived.Deep.Onto
import Derived.Laws.Closers25b
namespace Go.Proofs.YtffnaknidofobaaGreatDoor
open Go.RowKit
attribute [local go_sem ↓] Go.wp_at_zero Go.wp_at_succ
abbrev tkV (t : Tk) : Value:=.agg #[.int .i64 t.1,.string ⟨t.2.1.toArray⟩,.int .i64 t.2.2.1,.int .i64 t.2.2.2]
set_option maxHeartbeats 400000 in
theorem fault_any (X : Px) (w : World) : Calls Tryz.prog 141 #[X.p] w fun e w' => e = pan ∧ w' = w:=by
 go_enter Tryz.func141,Tryz.ntmps141
 go_wp2
 exact ⟨rfl,rfl,rfl⟩
set_option maxHeartbeats 800000 in
theorem token_any (X : Px) (w : World) (i : Nat) (h : Bool) (H : Par X w i h) : Calls Tryz.prog 29 #[X.p] w fun e w' => e = .returned (tkV (tkA X.l i)) ∧ Below w.heap.size w w':=by
 have c0:=H.c0
 have c1:=H.c1
 obtain ⟨t0,t1,t2,t3⟩:=H.tok i _ (tkA_some H.lt)
 have hp:=H.plt
 have ht:=H.tlt
 have hlt:=H.lt
 clear H
 generalize tkA X.l i = t at *
 generalize X.l.length = n at *
 have n0:=World.new_ne w _ c0
 have n1:=World.new_ne w _ t0
 have i0 : (0 : Int) ≤ (i : Int):=by omega
 have i1 : (i : Int) < (n : Int):=by omega
 obtain ⟨k,s,m,a⟩:=t
 go_enter Tryz.func29,Tryz.ntmps29
 go_wp2
 go_region_held3 (fun w' => w'.cell? ⟨X.P,0,none⟩ = some (.slice (some ⟨X.tb,0,none⟩) n X.cp) ∧ w'.cell? ⟨X.P,1,none⟩ = some (.int .i64 i) ∧ w'.cell? ⟨X.tb,i * 4,none⟩ = some (.int .i64 k) ∧ w'.cell? ⟨X.tb,i * 4 + 1,none⟩ = some (.string ⟨s.toArray⟩) ∧ w'.cell? ⟨X.tb,i * 4 + 2,none⟩ = some (.int .i64 m) ∧ w'.cell? ⟨X.tb,i * 4 + 3,none⟩ = some (.int .i64 a)) (go_keep) (fail)
 all_goals go_wp2
 exact bodyPost_ret (v:=.agg #[.int .i64 k,.string ⟨s.toArray⟩,.int .i64 m,.int .i64 a]) (by simp [results,Tryz.results29,go_sem]) rfl ⟨rfl,((Below.refl _ _).alloc (Nat.le_refl _) _).drew⟩
set_option maxHeartbeats 800000 in
theorem is_any (X : Px) (w : World) (i : Nat) (h : Bool) (H : Par X w i h) (s : List UInt8) : Calls Tryz.prog 95 #[X.p,.string ⟨s.toArray⟩] w fun e w' => e = .returned (.bool (isM X.l i s)) ∧ Below w.heap.size w w':=by
 have cT:=token_any X w i h H
 unfold isM kindA textA
 generalize tkA X.l i = t at *
 obtain ⟨k,tx,m,a⟩:=t
 clear H
 by_cases h4 : k = 4
 · subst h4
   go_enter Tryz.func95,Tryz.ntmps95
   go_wp2_with fail
   refine cT.mono ?_
   rintro e w1 ⟨rfl,hb⟩
   have hz:=hb.size
   go_wp2
   go_ret
   exact ⟨by simp,(hb.alloc hz _)⟩
 · by_cases h5 : k = 5
   · subst h5
     go_enter Tryz.func95,Tryz.ntmps95
     go_wp2_with fail
     refine cT.mono ?_
     rintro e w1 ⟨rfl,hb⟩
     have hz:=hb.size
     go_wp2
     go_ret
     exact ⟨by simp,(hb.alloc hz _)⟩
   · have e4 : (k == 4) = false:=by simpa using h4
     have e5 : (k == 5) = false:=by simpa using h5
     go_enter Tryz.func95,Tryz.ntmps95
     go_wp2_with fail
     refine cT.mono ?_
     rintro e w1 ⟨rfl,hb⟩
     have hz:=hb.size
     go_wp2
     go_ret
     exact ⟨by simp [e4,e5],(hb.alloc hz _)⟩
/-- take: the mark stands next. -/
theorem take_yes (X : Px) (w : World) (i : Nat) (h : Bool) (H : Par X w i h) (s : List UInt8) (hs : s ≠ []) (hm : isM X.l i s = true) :
    Calls Tryz.prog 96 #[X.p,.string ⟨s.toArray⟩] w fun e w' => e = .returned (.bool true) ∧ But X.P w.heap.size w w' ∧ Par X w' (i + 1) h:=by
  have cI:=is_any X w i h H s
  rw [hm] at cI
  have hj:=isM_end H hs hm
  have hbn:=H.bnd
  clear hm
  go_enter Tryz.func96,Tryz.ntmps96
  go_wp2_with fail
  refine cI.mono ?_
  rintro e w1 ⟨rfl,hb⟩
  have H1:=H.below hb (Nat.le_refl _)
  have c1:=H1.c1
  have f1:=H1.fz 1
  clear cI
  go_wp2
  go_ret
  exact ⟨rfl,(But.of_below hb).setCell (p:=⟨X.P,1,none⟩) (.inl rfl) _,H1.next hj⟩
theorem take_no (X : Px) (w : World) (i : Nat) (h : Bool) (H : Par X w i h) (s : List UInt8) (hm : isM X.l i s = false) :
    Calls Tryz.prog 96 #[X.p,.string ⟨s.toArray⟩] w fun e w' => e = .returned (.bool false) ∧ But X.P w.heap.size w w' ∧ Par X w' i h:=by
  have cI:=is_any X w i h H s
  rw [hm] at cI
  clear hm
  go_enter Tryz.func96,Tryz.ntmps96
  go_wp2_with fail
  refine cI.mono ?_
  rintro e w1 ⟨rfl,hb⟩
  go_wp2
  go_ret
  exact ⟨rfl,But.of_below hb,H.below hb (Nat.le_refl _)⟩
theorem need_yes (X : Px) (w : World) (i : Nat) (h : Bool) (H : Par X w i h) (s : List UInt8) (hs : s ≠ []) (hm : isM X.l i s = true) :
    Calls Tryz.prog 98 #[X.p,.string ⟨s.toArray⟩] w fun e w' => e = .returned (.tuple #[]) ∧ But X.P w.heap.size w w' ∧ Par X w' (i + 1) h:=by
  have cI:=take_yes X w i h H s hs hm
  clear hm
  go_enter Tryz.func98,Tryz.ntmps98
  go_wp2_with fail
  refine cI.mono ?_
  rintro e w1 ⟨rfl,hb,hp⟩
  go_wp2
  exact bodyPost_end (v:=.tuple #[]) (by simp [results,Tryz.results98,go_sem]) rfl ⟨rfl,hb,hp⟩
theorem need_no (X : Px) (w : World) (i : Nat) (h : Bool) (H : Par X w i h) (s : List UInt8) (hm : isM X.l i s = false) :
    Calls Tryz.prog 98 #[X.p,.string ⟨s.toArray⟩] w fun e w' => e = pan ∧ But X.P w.heap.size w w' ∧ Par X w' i h:=by
  have cI:=take_no X w i h H s hm
  clear hm
  go_enter Tryz.func98,Tryz.ntmps98
  go_wp2_with fail
  refine cI.mono ?_
  rintro e w1 ⟨rfl,hb,hp⟩
  go_wp2_with fail
  refine (fault_any X _).mono ?_
  rintro e w2 ⟨rfl,rfl⟩
  exact ⟨rfl,rfl,hb,hp⟩
theorem name_yes (X : Px) (w : World) (i : Nat) (h : Bool) (H : Par X w i h) (hm : kindA X.l i = 1) :
    Calls Tryz.prog 101 #[X.p] w fun e w' => e = .returned (.string ⟨(textA X.l i).toArray⟩) ∧ But X.P w.heap.size w w' ∧ Par X w' (i + 1) h:=by
  have cT:=token_any X w i h H
  have hj:=kind_end H (by decide) hm
  have hbn:=H.bnd
  unfold kindA at hm
  unfold textA
  generalize tkA X.l i = t at *
  obtain ⟨k,tx,m,a⟩:=t
  simp only at hm
  subst hm
  go_enter Tryz.func101,Tryz.ntmps101
  go_wp2_with fail
  refine cT.mono ?_
  rintro e w1 ⟨rfl,hb⟩
  have H1:=H.below hb (Nat.le_refl _)
  have c1:=H1.c1
  have f1:=H1.fz 1
  have hpl:=H1.plt
  have hz:=hb.size
  have nn : X.P ≠ w1.heap.size:=by omega
  clear cT
  go_wp2
  go_ret
  exact ⟨rfl,((But.of_below hb).setCell (p:=⟨X.P,1,none⟩) (.inl rfl) _).alloc (by simpa using hz) _,(H1.next hj).alloc _⟩
theorem name_no (X : Px) (w : World) (i : Nat) (h : Bool) (H : Par X w i h) (hm : ¬ kindA X.l i = 1) :
    Calls Tryz.prog 101 #[X.p] w fun e w' => e = pan ∧ But X.P w.heap.size w w' ∧ Par X w' i h:=by
  have cT:=token_any X w i h H
  unfold kindA at hm
  generalize tkA X.l i = t at *
  obtain ⟨k,tx,m,a⟩:=t
  simp only at hm
  go_enter Tryz.func101,Tryz.ntmps101
  go_wp2_with fail
  refine cT.mono ?_
  rintro e w1 ⟨rfl,hb⟩
  have hz:=hb.size
  clear cT
  go_wp2_with fail
  refine (fault_any X _).mono ?_
  rintro e w2 ⟨rfl,rfl⟩
  exact ⟨rfl,rfl,(But.of_below hb).alloc hz _,(H.below hb (Nat.le_refl _)).alloc _⟩
theorem mark_any (X : Px) (w : World) (i : Nat) (h : Bool) (H : Par X w i h) :
    Calls Tryz.prog 215 #[X.p] w fun e w' => e = .returned (.string ⟨(markA X.l i).toArray⟩) ∧ Below w.heap.size w w':=by
  have cT:=token_any X w i h H
  unfold markA kindA textA
  generalize tkA X.l i = t at *
  obtain ⟨k,tx,m,a⟩:=t
  by_cases h4 : k = 4
  · subst h4
    go_enter Tryz.func215,Tryz.ntmps215
    go_wp2_with fail
    refine cT.mono ?_
    rintro e w1 ⟨rfl,hb⟩
    have hz:=hb.size
    go_wp2
    go_ret
    exact ⟨by simp,hb.alloc hz _⟩
  · go_enter Tryz.func215,Tryz.ntmps215
    go_wp2_with fail
    refine cT.mono ?_
    rintro e w1 ⟨rfl,hb⟩
    have hz:=hb.size
    go_wp2
    go_ret
    exact ⟨by simp,hb.alloc hz _⟩
theorem node_any (k : Int) (s : List UInt8) (ao : Option Addr) (n c : Nat) (w : World) :
    Calls Tryz.prog 59 #[.int .i64 k,.string ⟨s.toArray⟩,.slice ao n c] w fun e w' => e = .returned (.agg #[.int .i64 k,.string ⟨s.toArray⟩,.int .i64 0,.slice ao n c]) ∧ Below w.heap.size w w':=by
  go_enter Tryz.func59,Tryz.ntmps59
  go_wp2
  exact bodyPost_ret (v:=.agg #[.int .i64 k,.string ⟨s.toArray⟩,.int .i64 0,.slice ao n c]) (by simp [results,Tryz.results59,go_sem]) rfl ⟨rfl,(Below.refl _ _).alloc (Nat.le_refl _) _⟩
theorem field_tok0 (a b c d : Value) (w : World) : (Instr.field 56 (.agg #[a,b,c,d]) 0).run Tryz.prog w = .ok a w:=by kernel_rfl
theorem field_tok3 (a b c d : Value) (w : World) : (Instr.field 56 (.agg #[a,b,c,d]) 3).run Tryz.prog w = .ok d w:=by kernel_rfl
def atA (l : List Tk) (i : Nat) : Nat:=(tkA l i).2.2.2
theorem tokenA_any (X : Px) (w : World) (i : Nat) (h : Bool) (H : Par X w i h) : Calls Tryz.prog 29 #[X.p] w fun e w' => e = .returned (.agg #[.int .i64 (kindA X.l i),.string ⟨(textA X.l i).toArray⟩,.int .i64 (numA X.l i),.int .i64 (atA X.l i)]) ∧ Below w.heap.size w w':=token_any X w i h H
end Go.Proofs.YtffnaknidofobaaGreatDoor

namespace Go.Proofs.YtffnaknidofobaaGreatDoor
open Go.RowKit
/-- A node's box: four cells that may be written. -/
def Box (w : World) (n : Nat) : Prop:=∃ c0 c1 c2 c3,w.heap[n]? = some (.cells #[c0,c1,c2,c3] 24 (0,0))
theorem Box.of_block {w w' : World} {n : Nat} (h : Box w n) (hb : w'.heap[n]? = w.heap[n]?) : Box w' n:=let ⟨c0,c1,c2,c3,e⟩:=h; ⟨c0,c1,c2,c3,hb.trans e⟩
theorem Box.new (w : World) (c0 c1 c2 c3 : Value) : Box (w.alloc (.cells #[c0,c1,c2,c3] 24)) w.heap.size:=⟨c0,c1,c2,c3,heap_alloc_new w _⟩
theorem Box.lt {w : World} {n : Nat} (h : Box w n) : n < w.heap.size:=let ⟨_,_,_,_,e⟩:=h; lt_of_block e
theorem Box.open {w : World} {n : Nat} (h : Box w n) : ∃ c0 c1 c2 c3,w.cell? ⟨n,0,none⟩ = some c0 ∧ w.cell? ⟨n,1,none⟩ = some c1 ∧ w.cell? ⟨n,2,none⟩ = some c2 ∧ w.cell? ⟨n,3,none⟩ = some c3 ∧ ∀ o,w.frozen? ⟨n,o,none⟩ = false:=by
 obtain ⟨c0,c1,c2,c3,e⟩:=h
 exact ⟨c0,c1,c2,c3,by simp [World.cell?,e],by simp [World.cell?,e],by simp [World.cell?,e],by simp [World.cell?,e],fun o => by simp [World.frozen?,e]⟩
theorem Box.later {P B : Nat} {w w' : World} {n : Nat} (h : Box w n) (hb : But P B w w') (h1 : n < B) (h2 : n ≠ P) : Box w' n:=h.of_block (hb.block n h1 h2)
theorem Box.below {B : Nat} {w w' : World} {n : Nat} (h : Box w n) (hb : Below B w w') (h1 : n < B) : Box w' n:=h.of_block (hb.block n h1)
/-- w' is w but for block n. -/
structure Put (n : Nat) (w w' : World) : Prop where
  os : w'.os = w.os
  tape : w'.tape = w.tape
  output : w'.output = w.output
  size : w'.heap.size = w.heap.size
  block : ∀ k,k ≠ n → w'.heap[k]? = w.heap[k]?
theorem Put.refl (n : Nat) (w : World) : Put n w w:=⟨rfl,rfl,rfl,rfl,fun _ _ => rfl⟩
theorem Put.setCell {n : Nat} {a w : World} (h : Put n a w) (o : Nat) (u : Value) : Put n a (w.setCell ⟨n,o,none⟩ u) :=
  ⟨h.os,h.tape,h.output,by rw [World.size_setCell]; exact h.size,fun k hk => (Below.heap_setCell w _ u k hk).trans (h.block k hk)⟩
theorem But.put {P B n : Nat} {a w w' : World} (h : But P B a w) (hp : Put n w w') (hn : n = P ∨ B ≤ n) : But P B a w' :=
  ⟨hp.os.trans h.os,hp.tape.trans h.tape,hp.output.trans h.output,by rw [hp.size]; exact h.size,fun k hk hk2 => (hp.block k (by rcases hn with e | e <;> omega)).trans (h.block k hk hk2)⟩
theorem putN4 {n : Nat} {W : World} (hB : Box W n) (v0 v1 v2 v3 : Value) :
    ∃ Wf,((((W.setCell ⟨n,0,none⟩ v0).setCell ⟨n,1,none⟩ v1).setCell ⟨n,2,none⟩ v2).setCell ⟨n,3,none⟩ v3) = Wf ∧ Put n W Wf ∧ Box Wf n ∧
      (Wf.cell? ⟨n,0,none⟩ = some v0 ∧ Wf.cell? ⟨n,1,none⟩ = some v1 ∧ Wf.cell? ⟨n,2,none⟩ = some v2 ∧ Wf.cell? ⟨n,3,none⟩ = some v3):=by
  obtain ⟨c0,c1,c2,c3,e⟩:=hB
  have e4 : ((((W.setCell ⟨n,0,none⟩ v0).setCell ⟨n,1,none⟩ v1).setCell ⟨n,2,none⟩ v2).setCell ⟨n,3,none⟩ v3).heap[n]? = some (.cells #[v0,v1,v2,v3] 24 (0,0)):=by
   rw [heap_setCell_same _ n 3 v3 (heap_setCell_same _ n 2 v2 (heap_setCell_same _ n 1 v1 (heap_setCell_same _ n 0 v0 e)))]; rfl
  refine ⟨_,rfl,((((Put.refl n W).setCell 0 v0).setCell 1 v1).setCell 2 v2).setCell 3 v3,⟨_,_,_,_,e4⟩,?_⟩
  refine ⟨?_,?_,?_,?_⟩ <;> simp [World.cell?,e4]
theorem Par.put {X : Px} {w w' : World} {i n : Nat} {h : Bool} (H : Par X w i h) (hp : Put n w w') (h1 : n ≠ X.P) (h2 : n ≠ X.tb) : Par X w' i h :=
  H.of_blocks (hp.block _ (fun e => h1 e.symm)) (hp.block _ (fun e => h2 e.symm))
/-- What lies in blocks of S lies in w' as in w. -/
def Fr (S : Nat → Prop) (w w' : World) : Prop:=∀ b,S b → w'.heap[b]? = w.heap[b]?
theorem Fr.refl (S : Nat → Prop) (w : World) : Fr S w w:=fun _ _ => rfl
theorem Fr.alloc {S : Nat → Prop} {a w : World} (h : Fr S a w) (hS : ∀ b,S b → b < w.heap.size) (o : Obj) : Fr S a (w.alloc o):=fun b hb => (Below.heap_alloc w o b (hS b hb)).trans (h b hb)
theorem Fr.put {S : Nat → Prop} {a w w' : World} {n : Nat} (h : Fr S a w) (hp : Put n w w') (hn : ∀ b,S b → b ≠ n) : Fr S a w':=fun b hb => (hp.block b (hn b hb)).trans (h b hb)
theorem Fr.but {S : Nat → Prop} {a w w' : World} {P B : Nat} (h : Fr S a w) (hp : But P B w w') (hn : ∀ b,S b → b < B ∧ b ≠ P) : Fr S a w':=fun b hb => (hp.block b (hn b hb).1 (hn b hb).2).trans (h b hb)
theorem Fr.below {S : Nat → Prop} {a w w' : World} {B : Nat} (h : Fr S a w) (hp : Below B w w') (hn : ∀ b,S b → b < B) : Fr S a w':=fun b hb => (hp.block b (hn b hb)).trans (h b hb)
theorem Fr.grown {S : Nat → Prop} {a w w' : World} {row : Option Nat} (h : Fr S a w) (hp : w.grownBy w' row) (hn : ∀ b,S b → b < w.heap.size ∧ some b ≠ row) : Fr S a w':=fun b hb => (hp.block b (hn b hb).1 (hn b hb).2).trans (h b hb)
theorem KT.fr {S S' : Nat → Prop} {w w' : World} {t : Tr} {sl : Value} (h : KT w S t sl) (hf : Fr S w w') (hS : ∀ b,S b → S' b) : KT w' S' t sl:=KT.keep hf hS t sl h
theorem KL.fr {S S' : Nat → Prop} {w w' : World} {ts : List Tr} {sls : List Value} (h : KL w S ts sls) (hf : Fr S w w') (hS : ∀ b,S b → S' b) : KL w' S' ts sls:=KL.keep hf hS ts sls h
set_option maxRecDepth 20000 in
set_option maxHeartbeats 800000 in
theorem withinN_any (X : Px) (w : World) (i : Nat) (h g : Bool) (r : Res Tr) (f : Nat) (bs ls : Array Value) (he : Enters Tryz.prog f) (H : Par X w i h)
    (hI : ∀ w1,But X.P w.heap.size w w1 → Par X w1 i g → Calls Tryz.prog f (bs ++ ls) w1 (OutT X w1 i g r)) :
    Calls Tryz.prog 142 #[X.p,.bool g,.func (.func f) bs ls] w (OutT X w i h r):=by
  have eg : ∀ args w,(callFunc f args).run Tryz.prog w = .ok (.enter f args) w:=he
  have c2:=H.c2
  have f2:=H.fz 2
  have hpl:=H.plt
  have hb1 : But X.P w.heap.size w ((w.setCell ⟨X.P,2,none⟩ (.bool g)).alloc (.cells #[.int .i64 0,.string ⟨#[]⟩,.int .i64 0,.slice none 0 0] 24)):=((But.refl _ _ _).setCell (p:=⟨X.P,2,none⟩) (.inl rfl) _).alloc (by simp) _
  have H1 : Par X ((w.setCell ⟨X.P,2,none⟩ (.bool g)).alloc (.cells #[.int .i64 0,.string ⟨#[]⟩,.int .i64 0,.slice none 0 0] 24)) i g:=(H.head g).alloc _
  have hx1 : Box ((w.setCell ⟨X.P,2,none⟩ (.bool g)).alloc (.cells #[.int .i64 0,.string ⟨#[]⟩,.int .i64 0,.slice none 0 0] 24)) w.heap.size:=by
   have:=Box.new (w.setCell ⟨X.P,2,none⟩ (.bool g)) (.int .i64 0) (.string ⟨#[]⟩) (.int .i64 0) (.slice none 0 0)
   rw [World.size_setCell] at this; exact this
  have hz1 : ((w.setCell ⟨X.P,2,none⟩ (.bool g)).alloc (.cells #[.int .i64 0,.string ⟨#[]⟩,.int .i64 0,.slice none 0 0] 24)).heap.size = w.heap.size + 1:=by simp
  have htl:=H.tlt
  go_enter Tryz.func142,Tryz.ntmps142
  go_wp2_with fail
  clear c2 f2
  generalize ((w.setCell ⟨X.P,2,none⟩ (.bool g)).alloc (.cells #[.int .i64 0,.string ⟨#[]⟩,.int .i64 0,.slice none 0 0] 24)) = W1 at *
  refine (hI W1 hb1 H1).mono ?_
  rintro e w2 ⟨hb2,hr⟩
  cases r with
  | bad j =>
   obtain ⟨rfl,h',H2⟩:=hr
   exact ⟨rfl,hb1.trans (hb2.mono (by omega)),rfl,h',H2⟩
  | ok t j =>
   obtain ⟨hij,H2,sl,rfl,hk⟩:=hr
   obtain ⟨ao,n,cap,rfl⟩:=hk.slice
   have hz2:=hb2.size
   have f2:=H2.fz 2
   have c2:=H2.c2
   obtain ⟨u0,u1,u2,u3,b0,b1,b2,b3,bf⟩:=(hx1.later hb2 (by omega) (by omega)).open
   have hpl2:=H2.plt
   have bf0:=bf 0
   have bf1:=bf 1
   have bf2:=bf 2
   have bf3:=bf 3
   have nn : w.heap.size ≠ X.P:=by omega
   have nm : w2.heap.size ≠ X.P:=by omega
   have no : w.heap.size ≠ w2.heap.size:=by omega
   have nn' : X.P ≠ w.heap.size:=by omega
   have nm' : X.P ≠ w2.heap.size:=by omega
   have no' : w2.heap.size ≠ w.heap.size:=by omega
   have nl : w.heap.size < w2.heap.size:=by omega
   go_wp2
   have H3:=H2.head h
   have hx3 : Box (w2.setCell ⟨X.P,2,none⟩ (.bool h)) w.heap.size:=(hx1.later hb2 (by omega) (by omega)).of_block (Below.heap_setCell _ _ _ _ nn)
   have hb3 : But X.P w.heap.size w (w2.setCell ⟨X.P,2,none⟩ (.bool h)):=(hb1.trans (hb2.mono (by omega))).setCell (p:=⟨X.P,2,none⟩) (.inl rfl) _
   have hk3 : KT (w2.setCell ⟨X.P,2,none⟩ (.bool h)) (Rg W1.heap.size w2.heap.size) t (.slice ao n cap):=hk.fr (fun b hb => Below.heap_setCell _ _ _ _ (by simp only; omega)) (fun _ hb => hb)
   have hz3 : (w2.setCell ⟨X.P,2,none⟩ (.bool h)).heap.size = w2.heap.size:=by simp
   generalize w2.setCell ⟨X.P,2,none⟩ (.bool h) = w3 at *
   obtain ⟨Wf,hWf,hput,hbx,d0,d1,d2,d3⟩:=putN4 hx3 (.int .i64 t.kind) (.string ⟨t.text.toArray⟩) (.int .i64 t.num) (.slice ao n cap)
   rw [hWf]
   have hzf:=hput.size
   have hl : w.heap.size < Wf.heap.size:=by omega
   exact bodyPost_ret (v:=tv t (.slice ao n cap)) (by simp [results,Tryz.results142,go_sem,d0,d1,d2,d3,hl]) rfl
     ⟨(hb3.put hput (.inr (Nat.le_refl _))).alloc (by omega) _,hij,(H3.put hput nn (by omega)).alloc _,_,rfl,
       hk3.fr (((Fr.refl _ _).put hput (fun b hb => by omega)).alloc (fun b hb => by omega) _) (fun b hb => by simp; omega)⟩
theorem held4 {P : Nat} {w w3 : World} {a b c d : Value} (hb : But P (w.alloc (.cells #[a,b,c,d] 24)).heap.size (w.alloc (.cells #[a,b,c,d] 24)) w3) (hP : P < w.heap.size) :
    w3.cell? ⟨w.heap.size,0,none⟩ = some a ∧ w3.cell? ⟨w.heap.size,1,none⟩ = some b ∧ w3.cell? ⟨w.heap.size,2,none⟩ = some c ∧ w3.cell? ⟨w.heap.size,3,none⟩ = some d:=by
  have r : ∀ o,w3.cell? ⟨w.heap.size,o,none⟩ = (w.alloc (.cells #[a,b,c,d] 24)).cell? ⟨w.heap.size,o,none⟩:=fun o => hb.cell (by simp) (by omega)
  refine ⟨?_,?_,?_,?_⟩ <;> rw [r] <;> simp
abbrev zeroN : Obj:=.cells #[.int .i64 0,.string ⟨#[]⟩,.int .i64 0,.slice none 0 0] 24
/-- A function's first step: the box of its result. -/
theorem first_box {X : Px} {w : World} {i : Nat} {h : Bool} (H : Par X w i h) :
    ∃ W,w.alloc (.cells #[.int .i64 0,.string ⟨#[]⟩,.int .i64 0,.slice none 0 0] 24) = W ∧ Par X W i h ∧ But X.P w.heap.size w W ∧ W.heap.size = w.heap.size + 1 ∧ Box W w.heap.size :=
  ⟨_,rfl,H.alloc _,(But.refl _ _ _).alloc (Nat.le_refl _) _,by simp,Box.new _ _ _ _ _⟩
theorem OutT.of {X : Px} {w : World} {i : Nat} {h : Bool} {r r' : Res Tr} {e : Ending} {w' : World} (hr : Hid (r = r')) (o : OutT X w i h r' e w') : OutT X w i h r e w':=by
 have:=hr.out; subst this; exact o
theorem OutL.of {X : Px} {w : World} {i : Nat} {h : Bool} {r r' : Res (List Tr)} {e : Ending} {w' : World} (hr : Hid (r = r')) (o : OutL X w i h r' e w') : OutL X w i h r e w':=by
 have:=hr.out; subst this; exact o
set_option maxRecDepth 20000 in
set_option maxHeartbeats 800000 in
theorem betweenN_any (X : Px) (w : World) (i : Nat) (h : Bool) (pr : Nat → Res Tr) (f : Nat) (bs ls : Array Value) (he : Enters Tryz.prog f) (H : Par X w i h) (o s : List UInt8) (ho : o ≠ []) (hs : s ≠ [])
    (hI : isM X.l i o = true → ∀ w1,But X.P w.heap.size w w1 → Par X w1 (i + 1) false → Calls Tryz.prog f (bs ++ ls) w1 (OutT X w1 (i + 1) false (pr (i + 1)))) :
    Calls Tryz.prog 99 #[X.p,.string ⟨o.toArray⟩,.string ⟨s.toArray⟩,.func (.func f) bs ls] w (OutT X w i h (betweenR X.l o s pr i)):=by
  obtain ⟨W,hW,HW,hbW,hzW,hxW⟩:=first_box H
  have hpl:=H.plt
  have htl:=H.tlt
  cases hm : isM X.l i o with
  | false =>
   have HR : Hid (betweenR X.l o s pr i = .bad i):=by simp [Hid,betweenR,needR,hm,Res.bind]
   have cN:=need_no X W i h HW o hm
   clear hm hI
   go_enter Tryz.func99,Tryz.ntmps99
   go_wp2_with fail
   refine cN.mono ?_
   rintro e w1 ⟨rfl,hb1,H1⟩
   exact ⟨rfl,OutT.of HR ⟨hbW.trans (hb1.mono (by omega)),rfl,h,H1⟩⟩
  | true =>
   have cN:=need_yes X W i h HW o ho hm
   have HI:=hI hm
   have HR : Hid (betweenR X.l o s pr i = (pr (i + 1)).bind fun a i => (needR X.l s i).bind fun _ i => .ok a i):=by simp [Hid,betweenR,needR,hm,Res.bind]
   clear hm hI
   go_enter Tryz.func99,Tryz.ntmps99
   go_wp2_with fail
   refine cN.mono ?_
   rintro e w1 ⟨rfl,hb1,H1⟩
   have hz1:=hb1.size
   have hB1 : But X.P w.heap.size w w1:=hbW.trans (hb1.mono (by omega))
   have hx1:=hxW.later hb1 (by omega) (by omega)
   clear cN
   go_wp2_with fail
   refine (withinN_any X w1 (i + 1) h false (pr (i + 1)) f bs ls he H1 (fun w2 hb2 H2 => HI w2 (hB1.trans (hb2.mono (by omega))) H2)).mono ?_
   rintro e w2 ⟨hb2,hr⟩
   have hz2:=hb2.size
   have hB2 : But X.P w.heap.size w w2:=hB1.trans (hb2.mono (by omega))
   have hx2:=hx1.later hb2 (by omega) (by omega)
   clear HI
   generalize pr (i + 1) = r at *
   cases r with
   | bad j =>
    obtain ⟨rfl,h',H2⟩:=hr
    exact ⟨rfl,OutT.of HR ⟨hB2,rfl,h',H2⟩⟩
   | ok t j =>
    obtain ⟨hij,H2,sl,rfl,hk⟩:=hr
    obtain ⟨ao,n,cap,rfl⟩:=hk.slice
    have H3 : Par X (w2.alloc (.cells #[.int .i64 t.kind,.string ⟨t.text.toArray⟩,.int .i64 t.num,.slice ao n cap] 24)) j h:=H2.alloc _
    cases hm : isM X.l j s with
    | false =>
     have HR2 : Hid (betweenR X.l o s pr i = .bad j):=HR.out.trans (by simp [Res.bind,needR,hm])
     have cN:=need_no X _ j h H3 s hm
     clear hm HR
     go_wp2_with fail
     refine cN.mono ?_
     rintro e w3 ⟨rfl,hb3,H4⟩
     exact ⟨rfl,OutT.of HR2 ⟨(hB2.alloc (by omega) _).trans (hb3.mono (by simp; omega)),rfl,h,H4⟩⟩
    | true =>
     have HR2 : Hid (betweenR X.l o s pr i = .ok t (j + 1)):=HR.out.trans (by simp [Res.bind,needR,hm])
     have cN:=need_yes X _ j h H3 s hs hm
     clear hm HR
     go_wp2_with fail
     refine cN.mono ?_
     rintro e w3 ⟨rfl,hb3,H4⟩
     have hz3:=hb3.size
     rw [World.size_alloc] at hz3
     obtain ⟨q0,q1,q2,q3⟩:=held4 hb3 H2.plt
     have hx3 : Box w3 w.heap.size:=(hx2.of_block (Below.heap_alloc w2 _ _ hx2.lt)).later hb3 (by simp; omega) (by omega)
     have hB3 : But X.P w.heap.size w w3:=(hB2.alloc (by omega) _).trans (hb3.mono (by simp; omega))
     have hk3 : KT w3 (Rg w1.heap.size w2.heap.size) t (.slice ao n cap):=hk.fr (((Fr.refl _ _).alloc (fun b hb => hb.2) _).but hb3 (fun b hb => by simp; omega)) (fun _ hb => hb)
     clear cN hb3 H3 hx2 hB2
     obtain ⟨u0,u1,u2,u3,b0,b1,b2,b3,bf⟩:=hx3.open
     have bf0:=bf 0
     have bf1:=bf 1
     have bf2:=bf 2
     have bf3:=bf 3
     clear bf
     go_wp2
     obtain ⟨Wf,hWf,hput,hbx,d0,d1,d2,d3⟩:=putN4 hx3 (.int .i64 t.kind) (.string ⟨t.text.toArray⟩) (.int .i64 t.num) (.slice ao n cap)
     rw [hWf]
     have hzf:=hput.size
     exact bodyPost_ret (v:=tv t (.slice ao n cap)) (by simp [results,Tryz.results99,go_sem,d0,d1,d2,d3]) rfl
       (OutT.of HR2 ⟨hB3.put hput (.inr (Nat.le_refl _)),by omega,H4.put hput (by omega) (by omega),_,rfl,
         hk3.fr ((Fr.refl _ _).put hput (fun b hb => by omega)) (fun b hb => by omega)⟩)
end Go.Proofs.YtffnaknidofobaaGreatDoor

namespace Go.Proofs.YtffnaknidofobaaGreatDoor
open Go.RowKit
theorem ownsRow_fr {w w' : World} {base : Nat} {e : TypeId} {size : Nat} {v : Value} {n : Nat} {xs : List Value} (hw : ∀ b,base ≤ b → b < w.heap.size → w'.heap[b]? = w.heap[b]?) (h : w.ownsRow base e size v n xs) : w'.ownsRow base e size v n xs:=by
 refine ⟨h.1,?_⟩
 rcases h.2 with hn | ⟨g,cap,cur,rfl,hb,hg,rest⟩
 · exact .inl hn
 · exact .inr ⟨g,cap,cur,rfl,hb,(hw g hb (lt_of_block hg)).trans hg,rest⟩
theorem OwnL.later {w w' : World} {B : Nat} {v : Value} {ts : List Tr} (h : OwnL w B v ts) (hz : w.heap.size ≤ w'.heap.size) (hw : ∀ b,B ≤ b → b < w.heap.size → w'.heap[b]? = w.heap[b]?) : OwnL w' B v ts:=by
 obtain ⟨sls,h1,h2⟩:=h
 exact ⟨sls,ownsRow_fr hw h1,h2.fr (fun b hb => hw b hb.1.1 hb.1.2) (fun b hb => ⟨⟨hb.1.1,by omega⟩,hb.2⟩)⟩
theorem OwnL.wide {w : World} {B C : Nat} {v : Value} {ts : List Tr} (h : OwnL w B v ts) (hC : C ≤ B) : OwnL w C v ts:=by
 obtain ⟨sls,h1,h2⟩:=h
 exact ⟨sls,h1.mono hC,h2.fr (Fr.refl _ _) (fun b hb => ⟨⟨by omega,hb.1.2⟩,hb.2⟩)⟩
theorem OwnL.but {w w' : World} {B P D : Nat} {v : Value} {ts : List Tr} (h : OwnL w B v ts) (hb : But P D w w') (h1 : w.heap.size ≤ D) (h2 : P < B) : OwnL w' B v ts :=
  h.later hb.size (fun b hb1 hb2 => hb.block b (by omega) (by omega))
theorem OwnL.below {w w' : World} {B D : Nat} {v : Value} {ts : List Tr} (h : OwnL w B v ts) (hb : Below D w w') (h1 : w.heap.size ≤ D) : OwnL w' B v ts :=
  h.later hb.size (fun b _ hb2 => hb.block b (by omega))
theorem OwnL.slice {w : World} {B : Nat} {v : Value} {ts : List Tr} (h : OwnL w B v ts) : ∃ ao cap,v = .slice ao ts.length cap:=by
 obtain ⟨sls,h1,_⟩:=h
 rcases h1.2 with ⟨rfl,e⟩ | ⟨g,cap,cur,rfl,_⟩
 · exact ⟨none,0,by rw [e]⟩
 · exact ⟨_,cap,rfl⟩
theorem OwnL.nil (w : World) (B : Nat) : OwnL w B (.slice none 0 0) []:=⟨[],World.ownsRow_nil _ _ _ _,by simp [KL]⟩
/-- A slice that is built of trees. -/
theorem OwnL.made {w : World} {B : Nat} {ts : List Tr} {sls : List Value} {c : Array Value} (hB : B ≤ w.heap.size) (hk : KL w (Rg B w.heap.size) ts sls) (hc : c = (cellsOf ts sls).toArray) (hn : ts.length ≤ 1000000) :
    OwnL (w.alloc (.cells c 24)) B (.slice (some ⟨w.heap.size,0,none⟩) ts.length ts.length) ts:=by
  subst hc
  have hl:=cellsOf_length hk.length
  refine ⟨sls,⟨hl,.inr ⟨w.heap.size,ts.length,_,rfl,hB,heap_alloc_new w _,Nat.le_refl _,by unfold maxLen; omega,by simpa using hl,?_⟩⟩,?_⟩
  · rw [List.take_of_length_le (by simp [hl])]
  · exact hk.fr (fun b hb => Below.heap_alloc w _ b hb.2) (fun b hb => ⟨⟨hb.1,by simp; omega⟩,by simp [Value.ownBlock]; omega⟩)
theorem OwnL.one {w : World} {B lo hi : Nat} {t : Tr} {sl : Value} (hB : B ≤ w.heap.size) (hk : KT w (Rg lo hi) t sl) (h1 : B ≤ lo) (h2 : hi ≤ w.heap.size) :
    OwnL (w.alloc (.cells #[.int .i64 t.kind,.string ⟨t.text.toArray⟩,.int .i64 t.num,sl] 24)) B (.slice (some ⟨w.heap.size,0,none⟩) 1 1) [t] :=
  OwnL.made (ts:=[t]) (sls:=[sl]) hB (by simp only [KL]; exact ⟨sl,[],rfl,hk.fr (Fr.refl _ _) (fun b hb => by omega),rfl⟩) rfl (by simp)
/-- A tree's kids out of an own list. -/
theorem OwnL.kt {w : World} {B : Nat} {v : Value} {ts : List Tr} (h : OwnL w B v ts) (k : Int) (s : List UInt8) (n : Int) : KT w (Rg B w.heap.size) (.mk k s n ts) v:=by
 obtain ⟨sls,h1,h2⟩:=h
 simp only [KT]
 refine ⟨sls,?_,h2.fr (Fr.refl _ _) (fun b hb => hb.1)⟩
 rcases h1.2 with ⟨rfl,e⟩ | ⟨g,cap,cur,rfl,hb,hg,hcap,_,hsz,htk⟩
 · exact .inl ⟨e,none,0,rfl⟩
 · refine .inr ⟨g,0,cap,rfl,hcap,⟨hb,lt_of_block hg⟩,fun j u hj => ?_⟩
   rw [← htk] at hj
   have hj' : cur[j]? = some u:=by
    rw [List.getElem?_take] at hj
    split at hj
    · simpa using hj
    · cases hj
   simp [World.cell?,hg,hj']
/-- One tree more. -/
theorem own_snoc {W w3 : World} {B lo hi : Nat} {v v' : Value} {acc : List Tr} {sls : List Value} {t : Tr} {sl : Value} {g : Nat} (hk : KL W (fun b => (B ≤ b ∧ b < lo) ∧ some b ≠ v.ownBlock) acc sls) (ht : KT W (Rg lo hi) t sl)
    (hB : B ≤ lo) (hlo : lo ≤ W.heap.size) (hv : ∀ k,v.ownBlock = some k → k < lo) (hhi : hi ≤ W.heap.size) (hown : w3.ownsRow B 24 4 v' (acc.length + 1) (cellsOf acc sls ++ [.int .i64 t.kind,.string ⟨t.text.toArray⟩,.int .i64 t.num,sl]))
    (hg : W.grownBy w3 v.ownBlock) (hat : v.ownBlock = some g ∨ g = W.heap.size) (hv' : v'.ownBlock = some g) : OwnL w3 B v' (acc ++ [t]):=by
  have hz:=hg.size
  refine ⟨sls ++ [sl],?_,?_⟩
  · rw [cellsOf_append hk.length]
    simpa [cellsOf] using hown
  · refine KL.append (hk.fr (fun b hb => hg.block b (by omega) hb.2) (fun b hb => ⟨⟨hb.1.1,by omega⟩,?_⟩)) ?_
    · rw [hv']
      rcases hat with e | e
      · rw [← e]; exact hb.2
      · intro e2; cases e2; omega
    · simp only [KL]
      refine ⟨sl,[],rfl,ht.fr (fun b hb => hg.block b (by omega) (fun e => by have:=hv b e.symm; omega)) (fun b hb => ⟨⟨by omega,by omega⟩,?_⟩),rfl⟩
      rw [hv']
      rcases hat with e | e
      · intro e2; cases e2; have:=hv g e; omega
      · intro e2; cases e2; omega
theorem Tryz.info24 : (Tryz.prog.info? 24).map (fun i => (i.zero,i.size,i.bytes)) = some (some (.agg #[.int .i64 0,.string ⟨#[]⟩,.int .i64 0,.slice none 0 0]),4,56):=by kernel_rfl
set_option maxRecDepth 20000 in
set_option maxHeartbeats 800000 in
theorem withinL_any (X : Px) (w : World) (i : Nat) (h g : Bool) (r : Res (List Tr)) (f : Nat) (bs ls : Array Value) (he : Enters Tryz.prog f) (H : Par X w i h)
    (hI : ∀ w1,But X.P w.heap.size w w1 → w1.heap.size = w.heap.size → Par X w1 i g → Calls Tryz.prog f (bs ++ ls) w1 (OutL X w1 i g r)) :
    Calls Tryz.prog 191 #[X.p,.bool g,.func (.func f) bs ls] w (OutL X w i h r):=by
  have eg : ∀ args w,(callFunc f args).run Tryz.prog w = .ok (.enter f args) w:=he
  have c2:=H.c2
  have f2:=H.fz 2
  have hpl:=H.plt
  have hb1 : But X.P w.heap.size w (w.setCell ⟨X.P,2,none⟩ (.bool g)):=(But.refl _ _ _).setCell (p:=⟨X.P,2,none⟩) (.inl rfl) _
  have H1 : Par X (w.setCell ⟨X.P,2,none⟩ (.bool g)) i g:=H.head g
  have hz1 : (w.setCell ⟨X.P,2,none⟩ (.bool g)).heap.size = w.heap.size:=by simp
  go_enter Tryz.func191,Tryz.ntmps191
  go_wp2_with fail
  clear c2 f2
  generalize (w.setCell ⟨X.P,2,none⟩ (.bool g)) = W1 at *
  refine (hI W1 hb1 hz1 H1).mono ?_
  rintro e w2 ⟨hb2,hr⟩
  cases r with
  | bad j =>
   obtain ⟨rfl,h',H2⟩:=hr
   exact ⟨rfl,hb1.trans (hb2.mono (by omega)),rfl,h',H2⟩
  | ok ts j =>
   obtain ⟨hij,H2,v,rfl,hk⟩:=hr
   obtain ⟨ao,cap,rfl⟩:=hk.slice
   have f2:=H2.fz 2
   have c2:=H2.c2
   go_wp2
   go_ret
   exact ⟨(hb1.trans (hb2.mono (by omega))).setCell (p:=⟨X.P,2,none⟩) (.inl rfl) _,hij,H2.head h,_,rfl,(hk.later (by simp) (fun b hb _ => Below.heap_setCell _ _ _ _ (by simp only; omega))).wide (by omega)⟩
set_option maxRecDepth 20000 in
set_option maxHeartbeats 800000 in
theorem betweenL_any (X : Px) (w : World) (i : Nat) (h : Bool) (pr : Nat → Res (List Tr)) (f : Nat) (bs ls : Array Value) (he : Enters Tryz.prog f) (H : Par X w i h) (o s : List UInt8) (ho : o ≠ []) (hs : s ≠ [])
    (hI : isM X.l i o = true → ∀ w1,But X.P w.heap.size w w1 → Par X w1 (i + 1) false → Calls Tryz.prog f (bs ++ ls) w1 (OutL X w1 (i + 1) false (pr (i + 1)))) :
    Calls Tryz.prog 166 #[X.p,.string ⟨o.toArray⟩,.string ⟨s.toArray⟩,.func (.func f) bs ls] w (fun e w' => OutL X w i h (betweenR X.l o s pr i) e w' ∧ ∀ ts j,betweenR X.l o s pr i = .ok ts j → i < j):=by
  have hpl:=H.plt
  have htl:=H.tlt
  cases hm : isM X.l i o with
  | false =>
   have HR : Hid (betweenR X.l o s pr i = .bad i):=by simp [Hid,betweenR,needR,hm,Res.bind]
   have cN:=need_no X w i h H o hm
   clear hm hI
   go_enter Tryz.func166,Tryz.ntmps166
   go_wp2_with fail
   refine cN.mono ?_
   rintro e w1 ⟨rfl,hb1,H1⟩
   exact ⟨rfl,OutL.of HR ⟨hb1,rfl,h,H1⟩,fun ts j e => by rw [HR.out] at e; cases e⟩
  | true =>
   have cN:=need_yes X w i h H o ho hm
   have HI:=hI hm
   have HR : Hid (betweenR X.l o s pr i = (pr (i + 1)).bind fun a i => (needR X.l s i).bind fun _ i => .ok a i):=by simp [Hid,betweenR,needR,hm,Res.bind]
   clear hm hI
   go_enter Tryz.func166,Tryz.ntmps166
   go_wp2_with fail
   refine cN.mono ?_
   rintro e w1 ⟨rfl,hb1,H1⟩
   have hz1:=hb1.size
   clear cN
   go_wp2_with fail
   refine (withinL_any X w1 (i + 1) h false (pr (i + 1)) f bs ls he H1 (fun w2 hb2 _ H2 => HI w2 (hb1.trans (hb2.mono (by omega))) H2)).mono ?_
   rintro e w2 ⟨hb2,hr⟩
   have hz2:=hb2.size
   have hB2 : But X.P w.heap.size w w2:=hb1.trans (hb2.mono (by omega))
   clear HI
   generalize pr (i + 1) = r at *
   cases r with
   | bad j =>
    obtain ⟨rfl,h',H2⟩:=hr
    exact ⟨rfl,OutL.of HR ⟨hB2,rfl,h',H2⟩,fun ts j e => by rw [HR.out] at e; cases e⟩
   | ok ts j =>
    obtain ⟨hij,H2,v,rfl,hk⟩:=hr
    obtain ⟨ao,cap,rfl⟩:=hk.slice
    cases hm : isM X.l j s with
    | false =>
     have HR2 : Hid (betweenR X.l o s pr i = .bad j):=HR.out.trans (by simp [Res.bind,needR,hm])
     have cN:=need_no X _ j h H2 s hm
     clear hm HR
     go_wp2_with fail
     refine cN.mono ?_
     rintro e w3 ⟨rfl,hb3,H4⟩
     exact ⟨rfl,OutL.of HR2 ⟨hB2.trans (hb3.mono (by omega)),rfl,h,H4⟩,fun ts j e => by rw [HR2.out] at e; cases e⟩
    | true =>
     have HR2 : Hid (betweenR X.l o s pr i = .ok ts (j + 1)):=HR.out.trans (by simp [Res.bind,needR,hm])
     have cN:=need_yes X _ j h H2 s hs hm
     clear hm HR
     go_wp2_with fail
     refine cN.mono ?_
     rintro e w3 ⟨rfl,hb3,H4⟩
     go_wp2
     go_ret
     exact ⟨OutL.of HR2 ⟨hB2.trans (hb3.mono (by omega)),by omega,H4,_,rfl,(hk.but hb3 (Nat.le_refl _) (by omega)).wide (by omega)⟩,fun ts' j' e => by rw [HR2.out] at e; cases e; omega⟩
end Go.Proofs.YtffnaknidofobaaGreatDoor
