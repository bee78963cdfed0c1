/- The parser's smallest parts. -/
import Derived.Test.YtnkphlkjhgngkaaGreatDoorParJt
import Derived.Deep.RegionHeld3
import Derived.Deep.DrawnRows
import Derived.Deep.QuietTactic
import Derived.BigQuiet
namespace Go.Proofs.YtnkphlkjhgngkaaGreatDoor
open Go.RowKit
attribute [local go_sem ↓] Go.wp_at_zero Go.wp_at_succ
abbrev tkV (t : Tk) : Value:=.agg #[.int .i64 t.1,.string ⟨t.2.1.toArray⟩,.int .i64 t.2.2.1,.int .i64 t.2.2.2]
set_option maxHeartbeats 400000 in
theorem fault_any (X : Px) (w : World) : Calls Tryz.prog 106 #[X.p] w fun e w' => e = pan ∧ w' = w:=by
 go_enter Tryz.func106,Tryz.ntmps106
 go_wp2
 exact ⟨rfl,rfl,rfl⟩
set_option maxHeartbeats 800000 in
theorem token_any (X : Px) (w : World) (i : Nat) (h : Bool) (H : Par X w i h) : Calls Tryz.prog 20 #[X.p] w fun e w' => e = .returned (tkV (tkA X.l i)) ∧ Below w.heap.size w w':=by
 have c0:=H.c0
 have c1:=H.c1
 obtain ⟨t0,t1,t2,t3⟩:=H.tok i _ (tkA_some H.lt)
 have hp:=H.plt
 have ht:=H.tlt
 have hlt:=H.lt
 clear H
 generalize tkA X.l i = t at *
 generalize X.l.length = n at *
 have n0:=World.new_ne w _ c0
 have n1:=World.new_ne w _ t0
 have i0 : (0 : Int) ≤ (i : Int):=by omega
 have i1 : (i : Int) < (n : Int):=by omega
 obtain ⟨k,s,m,a⟩:=t
 go_enter Tryz.func20,Tryz.ntmps20
 go_wp2
 go_region_held3 (fun w' => w'.cell? ⟨X.P,0,none⟩ = some (.slice (some ⟨X.tb,0,none⟩) n X.cp) ∧ w'.cell? ⟨X.P,1,none⟩ = some (.int .i64 i) ∧ w'.cell? ⟨X.tb,i * 4,none⟩ = some (.int .i64 k) ∧ w'.cell? ⟨X.tb,i * 4 + 1,none⟩ = some (.string ⟨s.toArray⟩) ∧ w'.cell? ⟨X.tb,i * 4 + 2,none⟩ = some (.int .i64 m) ∧ w'.cell? ⟨X.tb,i * 4 + 3,none⟩ = some (.int .i64 a)) (go_keep) (fail)
 all_goals go_wp2
 exact bodyPost_ret (v:=.agg #[.int .i64 k,.string ⟨s.toArray⟩,.int .i64 m,.int .i64 a]) (by simp [results,Tryz.results20,go_sem]) rfl ⟨rfl,((Below.refl _ _).alloc (Nat.le_refl _) _).drew⟩
set_option maxHeartbeats 800000 in
theorem is_any (X : Px) (w : World) (i : Nat) (h : Bool) (H : Par X w i h) (s : List UInt8) : Calls Tryz.prog 58 #[X.p,.string ⟨s.toArray⟩] w fun e w' => e = .returned (.bool (isM X.l i s)) ∧ Below w.heap.size w w':=by
 have cT:=token_any X w i h H
 unfold isM kindA textA
 generalize tkA X.l i = t at *
 obtain ⟨k,tx,m,a⟩:=t
 clear H
 by_cases h4 : k = 4
 · subst h4
   go_enter Tryz.func58,Tryz.ntmps58
   go_wp2_with fail
   refine cT.mono ?_
   rintro e w1 ⟨rfl,hb⟩
   have hz:=hb.size
   go_wp2
   go_ret
   exact ⟨by simp,(hb.alloc hz _)⟩
 · by_cases h5 : k = 5
   · subst h5
     go_enter Tryz.func58,Tryz.ntmps58
     go_wp2_with fail
     refine cT.mono ?_
     rintro e w1 ⟨rfl,hb⟩
     have hz:=hb.size
     go_wp2
     go_ret
     exact ⟨by simp,(hb.alloc hz _)⟩
   · have e4 : (k == 4) = false:=by simpa using h4
     have e5 : (k == 5) = false:=by simpa using h5
     go_enter Tryz.func58,Tryz.ntmps58
     go_wp2_with fail
     refine cT.mono ?_
     rintro e w1 ⟨rfl,hb⟩
     have hz:=hb.size
     go_wp2
     go_ret
     exact ⟨by simp [e4,e5],(hb.alloc hz _)⟩
/-- take: the mark stands next. -/
theorem take_yes (X : Px) (w : World) (i : Nat) (h : Bool) (H : Par X w i h) (s : List UInt8) (hs : s ≠ []) (hm : isM X.l i s = true) :
    Calls Tryz.prog 59 #[X.p,.string ⟨s.toArray⟩] w fun e w' => e = .returned (.bool true) ∧ But X.P w.heap.size w w' ∧ Par X w' (i + 1) h:=by
  have cI:=is_any X w i h H s
  rw [hm] at cI
  have hj:=isM_end H hs hm
  have hbn:=H.bnd
  clear hm
  go_enter Tryz.func59,Tryz.ntmps59
  go_wp2_with fail
  refine cI.mono ?_
  rintro e w1 ⟨rfl,hb⟩
  have H1:=H.below hb (Nat.le_refl _)
  have c1:=H1.c1
  have f1:=H1.fz 1
  clear cI
  go_wp2
  go_ret
  exact ⟨rfl,(But.of_below hb).setCell (p:=⟨X.P,1,none⟩) (.inl rfl) _,H1.next hj⟩
theorem take_no (X : Px) (w : World) (i : Nat) (h : Bool) (H : Par X w i h) (s : List UInt8) (hm : isM X.l i s = false) :
    Calls Tryz.prog 59 #[X.p,.string ⟨s.toArray⟩] w fun e w' => e = .returned (.bool false) ∧ But X.P w.heap.size w w' ∧ Par X w' i h:=by
  have cI:=is_any X w i h H s
  rw [hm] at cI
  clear hm
  go_enter Tryz.func59,Tryz.ntmps59
  go_wp2_with fail
  refine cI.mono ?_
  rintro e w1 ⟨rfl,hb⟩
  go_wp2
  go_ret
  exact ⟨rfl,But.of_below hb,H.below hb (Nat.le_refl _)⟩
theorem need_yes (X : Px) (w : World) (i : Nat) (h : Bool) (H : Par X w i h) (s : List UInt8) (hs : s ≠ []) (hm : isM X.l i s = true) :
    Calls Tryz.prog 61 #[X.p,.string ⟨s.toArray⟩] w fun e w' => e = .returned (.tuple #[]) ∧ But X.P w.heap.size w w' ∧ Par X w' (i + 1) h:=by
  have cI:=take_yes X w i h H s hs hm
  clear hm
  go_enter Tryz.func61,Tryz.ntmps61
  go_wp2_with fail
  refine cI.mono ?_
  rintro e w1 ⟨rfl,hb,hp⟩
  go_wp2
  exact bodyPost_end (v:=.tuple #[]) (by simp [results,Tryz.results61,go_sem]) rfl ⟨rfl,hb,hp⟩
theorem need_no (X : Px) (w : World) (i : Nat) (h : Bool) (H : Par X w i h) (s : List UInt8) (hm : isM X.l i s = false) :
    Calls Tryz.prog 61 #[X.p,.string ⟨s.toArray⟩] w fun e w' => e = pan ∧ But X.P w.heap.size w w' ∧ Par X w' i h:=by
  have cI:=take_no X w i h H s hm
  clear hm
  go_enter Tryz.func61,Tryz.ntmps61
  go_wp2_with fail
  refine cI.mono ?_
  rintro e w1 ⟨rfl,hb,hp⟩
  go_wp2_with fail
  refine (fault_any X _).mono ?_
  rintro e w2 ⟨rfl,rfl⟩
  exact ⟨rfl,rfl,hb,hp⟩
theorem name_yes (X : Px) (w : World) (i : Nat) (h : Bool) (H : Par X w i h) (hm : kindA X.l i = 1) :
    Calls Tryz.prog 64 #[X.p] w fun e w' => e = .returned (.string ⟨(textA X.l i).toArray⟩) ∧ But X.P w.heap.size w w' ∧ Par X w' (i + 1) h:=by
  have cT:=token_any X w i h H
  have hj:=kind_end H (by decide) hm
  have hbn:=H.bnd
  unfold kindA at hm
  unfold textA
  generalize tkA X.l i = t at *
  obtain ⟨k,tx,m,a⟩:=t
  simp only at hm
  subst hm
  go_enter Tryz.func64,Tryz.ntmps64
  go_wp2_with fail
  refine cT.mono ?_
  rintro e w1 ⟨rfl,hb⟩
  have H1:=H.below hb (Nat.le_refl _)
  have c1:=H1.c1
  have f1:=H1.fz 1
  have hpl:=H1.plt
  have hz:=hb.size
  have nn : X.P ≠ w1.heap.size:=by omega
  clear cT
  go_wp2
  go_ret
  exact ⟨rfl,((But.of_below hb).setCell (p:=⟨X.P,1,none⟩) (.inl rfl) _).alloc (by simpa using hz) _,(H1.next hj).alloc _⟩
theorem name_no (X : Px) (w : World) (i : Nat) (h : Bool) (H : Par X w i h) (hm : ¬ kindA X.l i = 1) :
    Calls Tryz.prog 64 #[X.p] w fun e w' => e = pan ∧ But X.P w.heap.size w w' ∧ Par X w' i h:=by
  have cT:=token_any X w i h H
  unfold kindA at hm
  generalize tkA X.l i = t at *
  obtain ⟨k,tx,m,a⟩:=t
  simp only at hm
  go_enter Tryz.func64,Tryz.ntmps64
  go_wp2_with fail
  refine cT.mono ?_
  rintro e w1 ⟨rfl,hb⟩
  have hz:=hb.size
  clear cT
  go_wp2_with fail
  refine (fault_any X _).mono ?_
  rintro e w2 ⟨rfl,rfl⟩
  exact ⟨rfl,rfl,(But.of_below hb).alloc hz _,(H.below hb (Nat.le_refl _)).alloc _⟩
theorem mark_any (X : Px) (w : World) (i : Nat) (h : Bool) (H : Par X w i h) :
    Calls Tryz.prog 184 #[X.p] w fun e w' => e = .returned (.string ⟨(markA X.l i).toArray⟩) ∧ Below w.heap.size w w':=by
  have cT:=token_any X w i h H
  unfold markA kindA textA
  generalize tkA X.l i = t at *
  obtain ⟨k,tx,m,a⟩:=t
  by_cases h4 : k = 4
  · subst h4
    go_enter Tryz.func184,Tryz.ntmps184
    go_wp2_with fail
    refine cT.mono ?_
    rintro e w1 ⟨rfl,hb⟩
    have hz:=hb.size
    go_wp2
    go_ret
    exact ⟨by simp,hb.alloc hz _⟩
  · go_enter Tryz.func184,Tryz.ntmps184
    go_wp2_with fail
    refine cT.mono ?_
    rintro e w1 ⟨rfl,hb⟩
    have hz:=hb.size
    go_wp2
    go_ret
    exact ⟨by simp,hb.alloc hz _⟩
theorem node_any (k : Int) (s : List UInt8) (ao : Option Addr) (n c : Nat) (w : World) :
    Calls Tryz.prog 33 #[.int .i64 k,.string ⟨s.toArray⟩,.slice ao n c] w fun e w' => e = .returned (.agg #[.int .i64 k,.string ⟨s.toArray⟩,.int .i64 0,.slice ao n c]) ∧ Below w.heap.size w w':=by
  go_enter Tryz.func33,Tryz.ntmps33
  go_wp2
  exact bodyPost_ret (v:=.agg #[.int .i64 k,.string ⟨s.toArray⟩,.int .i64 0,.slice ao n c]) (by simp [results,Tryz.results33,go_sem]) rfl ⟨rfl,(Below.refl _ _).alloc (Nat.le_refl _) _⟩
theorem field_tok0 (a b c d : Value) (w : World) : (Instr.field 46 (.agg #[a,b,c,d]) 0).run Tryz.prog w = .ok a w:=by kernel_rfl
theorem field_tok3 (a b c d : Value) (w : World) : (Instr.field 46 (.agg #[a,b,c,d]) 3).run Tryz.prog w = .ok d w:=by kernel_rfl
def atA (l : List Tk) (i : Nat) : Nat:=(tkA l i).2.2.2
theorem tokenA_any (X : Px) (w : World) (i : Nat) (h : Bool) (H : Par X w i h) : Calls Tryz.prog 20 #[X.p] w fun e w' => e = .returned (.agg #[.int .i64 (kindA X.l i),.string ⟨(textA X.l i).toArray⟩,.int .i64 (numA X.l i),.int .i64 (atA X.l i)]) ∧ Below w.heap.size w w':=token_any X w i h H
end Go.Proofs.YtnkphlkjhgngkaaGreatDoor
