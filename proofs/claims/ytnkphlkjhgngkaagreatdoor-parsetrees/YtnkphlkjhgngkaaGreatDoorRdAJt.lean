/- The document's reader: its memory; now, kind, take, need, name. -/
import Derived.Test.YtnkphlkjhgngkaaGreatDoorRdMJt
import Derived.Test.YtnkphlkjhgngkaaGreatDoorParAJt
import Derived.Deep.QuietTactic
import Derived.BigQuiet
import Derived.Lib.Hide
namespace Go.Proofs.YtnkphlkjhgngkaaGreatDoor
open Go.RowKit
attribute [local go_sem ↓] Go.wp_at_zero Go.wp_at_succ
/-- The document's reader lies in w, at a place, with or without a fault, in a head or not. -/
structure Rdr (X : Px) (w : World) (s : Sg) (h : Bool) : Prop where
  blk : w.heap[X.P]? = some (.cells #[.slice (some ⟨X.tb,0,none⟩) X.toks.length X.cp,.int .i64 s.1,.bool s.2,.bool h] 50 (0,0))
  tok : ∀ (j : Nat) (t : Tk),X.toks[j]? = some t → w.cell? ⟨X.tb,j * 4,none⟩ = some (.int .i64 t.1) ∧ w.cell? ⟨X.tb,j * 4 + 1,none⟩ = some (.string ⟨t.2.1.toArray⟩) ∧ w.cell? ⟨X.tb,j * 4 + 2,none⟩ = some (.int .i64 t.2.2.1) ∧ w.cell? ⟨X.tb,j * 4 + 3,none⟩ = some (.int .i64 t.2.2.2)
  ne : X.P ≠ X.tb
  le : s.1 ≤ X.toks.length
  cap : X.toks.length ≤ 65536
  tlt : X.tb < w.heap.size
section
variable {X : Px} {w w' : World} {s : Sg} {h : Bool}
theorem Rdr.plt (H : Rdr X w s h) : X.P < w.heap.size:=lt_of_block H.blk
theorem Rdr.c0 (H : Rdr X w s h) : w.cell? ⟨X.P,0,none⟩ = some (.slice (some ⟨X.tb,0,none⟩) X.toks.length X.cp):=by simp [World.cell?,H.blk]
theorem Rdr.c1 (H : Rdr X w s h) : w.cell? ⟨X.P,1,none⟩ = some (.int .i64 s.1):=by simp [World.cell?,H.blk]
theorem Rdr.c2 (H : Rdr X w s h) : w.cell? ⟨X.P,2,none⟩ = some (.bool s.2):=by simp [World.cell?,H.blk]
theorem Rdr.c3 (H : Rdr X w s h) : w.cell? ⟨X.P,3,none⟩ = some (.bool h):=by simp [World.cell?,H.blk]
theorem Rdr.fz (H : Rdr X w s h) (o : Nat) : w.frozen? ⟨X.P,o,none⟩ = false:=by simp [World.frozen?,H.blk]
theorem Rdr.of_blocks (H : Rdr X w s h) (h1 : w'.heap[X.P]? = w.heap[X.P]?) (h2 : w'.heap[X.tb]? = w.heap[X.tb]?) (hz : w.heap.size ≤ w'.heap.size) : Rdr X w' s h :=
  have r : ∀ o,w'.cell? ⟨X.tb,o,none⟩ = w.cell? ⟨X.tb,o,none⟩:=fun o => World.cell?_of_block (w:=w) (a:=⟨X.tb,o,none⟩) h2
  ⟨h1.trans H.blk,fun j t hj => by simp only [r]; exact H.tok j t hj,H.ne,H.le,H.cap,Nat.lt_of_lt_of_le H.tlt hz⟩
theorem Rdr.below (H : Rdr X w s h) {B : Nat} (hb : Below B w w') (hB : w.heap.size ≤ B) : Rdr X w' s h :=
  H.of_blocks (hb.block _ (Nat.lt_of_lt_of_le H.plt hB)) (hb.block _ (Nat.lt_of_lt_of_le H.tlt hB)) hb.size
/-- A cell of the reader is set. -/
theorem Rdr.set (H : Rdr X w s h) {s' : Sg} {h' : Bool} {o : Nat} {u : Value} (hs : (#[.slice (some ⟨X.tb,0,none⟩) X.toks.length X.cp,.int .i64 s.1,.bool s.2,.bool h] : Array Value).setIfInBounds o u = #[.slice (some ⟨X.tb,0,none⟩) X.toks.length X.cp,.int .i64 s'.1,.bool s'.2,.bool h']) (hl : s'.1 ≤ X.toks.length) :
    Rdr X (w.setCell ⟨X.P,o,none⟩ u) s' h':=by
  have r : ∀ q,(w.setCell ⟨X.P,o,none⟩ u).cell? ⟨X.tb,q,none⟩ = w.cell? ⟨X.tb,q,none⟩:=fun q => World.cell?_of_block (w:=w) (a:=⟨X.tb,q,none⟩) (Below.heap_setCell w _ _ _ (fun e => H.ne e.symm))
  refine ⟨?_,fun k t hk => by simp only [r]; exact H.tok k t hk,H.ne,hl,H.cap,by rw [World.size_setCell]; exact H.tlt⟩
  rw [heap_setCell_same w X.P o u H.blk,hs]
theorem tk_in {j : Nat} (hj : j < X.toks.length) : X.toks[j]? = some (tkA X.l j):=by
 have h1 : X.l[j]? = X.toks[j]?:=by simp [Px.l,List.getElem?_append_left hj]
 rw [← h1]
 exact tkA_some (by rw [X.length]; omega)
end
theorem Below.drewN' {B : Nat} {a w : World} (h : Below B a w) (q : Nat) : Below B a (w.drewN q):=⟨h.os,h.tape,h.output,h.size,h.block⟩
/-- The next token's kind, as the reader tells it: none behind the end. -/
def kindRd (X : Px) (s : Sg) : Int:=if s.2 then 0 else if s.1 < X.toks.length then kindA X.l s.1 else 0
theorem nowV_end (X : Px) (i : Nat) (hi : ¬ i < X.toks.length) (hl : i ≤ X.toks.length) : nowV X.l (i,false) = []:=by
 obtain rfl : i = X.toks.length:=by omega
 simp [nowV,kindA,textA,tkA_last]
set_option maxRecDepth 20000 in
set_option maxHeartbeats 4000000 in
theorem kindV_any (X : Px) (w : World) (i : Nat) (b h : Bool) (H : Rdr X w (i,b) h) : Calls Tryz.prog 74 #[X.p] w fun e w' => e = .returned (.int .i64 (kindRd X (i,b))) ∧ Below w.heap.size w w':=by
 have c0:=H.c0
 have c1 : w.cell? ⟨X.P,1,none⟩ = some (.int .i64 i):=H.c1
 have c2 : w.cell? ⟨X.P,2,none⟩ = some (.bool b):=H.c2
 cases b with
 | true =>
  have HK : Hid (kindRd X (i,true) = 0):=rfl
  clear H
  go_enter Tryz.func74,Tryz.ntmps74
  go_wp2_with fail
  go_quiet (fail)
  go_wp2
  exact bodyPost_ret (v:=.int .i64 0) (by simp [results,Tryz.results74,go_sem]) rfl ⟨congrArg (fun z => Ending.returned (Value.int .i64 z)) HK.out.symm,Below.drewN' (Below.refl _ _) _⟩
 | false =>
  by_cases hi : i < X.toks.length
  · obtain ⟨t0,t1,t2,t3⟩:=H.tok i _ (tk_in hi)
    have HK : Hid (kindRd X (i,false) = (tkA X.l i).1):=Lib.hid (by simp [kindRd,hi,kindA])
    generalize tkA X.l i = t at *
    generalize X.toks.length = n at *
    obtain ⟨k,x,m,a⟩:=t
    have i0 : (0 : Int) ≤ (i : Int):=by omega
    have i1 : (i : Int) < (n : Int):=by omega
    have hd : decide ((n : Int) ≤ i) = false:=decide_eq_false (by omega)
    have hd' : decide (n ≤ i) = false:=decide_eq_false (by omega)
    clear H
    go_enter Tryz.func74,Tryz.ntmps74
    go_wp2_with fail
    go_quiet (fail)
    go_wp2_with fail
    go_quiet (fail)
    go_wp2
    exact bodyPost_ret (v:=.int .i64 k) (by simp [results,Tryz.results74,go_sem]) rfl ⟨congrArg (fun z => Ending.returned (Value.int .i64 z)) HK.out.symm,Below.drewN' (Below.drewN' (Below.refl _ _) _) _⟩
  · have HK : Hid (kindRd X (i,false) = 0):=Lib.hid (by simp [kindRd,hi])
    generalize X.toks.length = n at *
    have hd : decide ((n : Int) ≤ i) = true:=decide_eq_true (by omega)
    have hd' : decide (n ≤ i) = true:=decide_eq_true (by omega)
    clear H
    go_enter Tryz.func74,Tryz.ntmps74
    go_wp2_with fail
    go_quiet (fail)
    go_wp2
    exact bodyPost_ret (v:=.int .i64 0) (by simp [results,Tryz.results74,go_sem]) rfl ⟨congrArg (fun z => Ending.returned (Value.int .i64 z)) HK.out.symm,Below.drewN' (Below.refl _ _) _⟩
set_option maxRecDepth 20000 in
set_option maxHeartbeats 4000000 in
theorem nowV_any (X : Px) (w : World) (i : Nat) (b h : Bool) (H : Rdr X w (i,b) h) : Calls Tryz.prog 73 #[X.p] w fun e w' => e = .returned (.string ⟨(nowV X.l (i,b)).toArray⟩) ∧ Below w.heap.size w w':=by
 have c0:=H.c0
 have c1 : w.cell? ⟨X.P,1,none⟩ = some (.int .i64 i):=H.c1
 have c2 : w.cell? ⟨X.P,2,none⟩ = some (.bool b):=H.c2
 cases b with
 | true =>
  have HK : Hid (nowV X.l (i,true) = []):=rfl
  clear H
  go_enter Tryz.func73,Tryz.ntmps73
  go_wp2_with fail
  go_quiet (fail)
  go_wp2
  exact bodyPost_ret (v:=.string ⟨([] : List UInt8).toArray⟩) (by simp [results,Tryz.results73,go_sem]) rfl ⟨congrArg (fun z => Ending.returned (Value.string ⟨z.toArray⟩)) HK.out.symm,Below.drewN' (Below.refl _ _) _⟩
 | false =>
  by_cases hi : i < X.toks.length
  · obtain ⟨t0,t1,t2,t3⟩:=H.tok i _ (tk_in hi)
    have HK : Hid (nowV X.l (i,false) = if (tkA X.l i).1 == 4 || (tkA X.l i).1 == 5 then (tkA X.l i).2.1 else []):=rfl
    generalize tkA X.l i = t at *
    generalize X.toks.length = n at *
    obtain ⟨k,x,m,a⟩:=t
    have i0 : (0 : Int) ≤ (i : Int):=by omega
    have i1 : (i : Int) < (n : Int):=by omega
    have hd : decide ((n : Int) ≤ i) = false:=decide_eq_false (by omega)
    have hd' : decide (n ≤ i) = false:=decide_eq_false (by omega)
    clear H
    by_cases h4 : k = 4
    · subst h4
      have HK2 : Hid (nowV X.l (i,false) = x):=HK.out
      clear HK
      go_enter Tryz.func73,Tryz.ntmps73
      go_wp2_with fail
      go_quiet (fail)
      go_wp2_with fail
      go_quiet (fail)
      go_wp2
      exact bodyPost_ret (v:=.string ⟨x.toArray⟩) (by simp [results,Tryz.results73,go_sem]) rfl ⟨congrArg (fun z => Ending.returned (Value.string ⟨z.toArray⟩)) HK2.out.symm,Below.drewN' (Below.drewN' (Below.refl _ _) _) _⟩
    have e4 : (k == 4) = false:=beq_false_of_ne h4
    by_cases h5 : k = 5
    · subst h5
      have HK2 : Hid (nowV X.l (i,false) = x):=HK.out
      clear HK
      go_enter Tryz.func73,Tryz.ntmps73
      go_wp2_with fail
      go_quiet (fail)
      go_wp2_with fail
      go_quiet (fail)
      go_wp2
      exact bodyPost_ret (v:=.string ⟨x.toArray⟩) (by simp [results,Tryz.results73,go_sem]) rfl ⟨congrArg (fun z => Ending.returned (Value.string ⟨z.toArray⟩)) HK2.out.symm,Below.drewN' (Below.drewN' (Below.refl _ _) _) _⟩
    have e5 : (k == 5) = false:=beq_false_of_ne h5
    have HK2 : Hid (nowV X.l (i,false) = []):=Lib.hid (HK.out.trans (by simp [e4,e5]))
    have n4 : (k != 4) = true:=by simp [h4]
    have n5 : (k != 5) = true:=by simp [h5]
    clear HK
    go_enter Tryz.func73,Tryz.ntmps73
    go_wp2_with fail
    go_quiet (fail)
    go_wp2
    exact bodyPost_ret (v:=.string ⟨([] : List UInt8).toArray⟩) (by simp [results,Tryz.results73,go_sem]) rfl ⟨congrArg (fun z => Ending.returned (Value.string ⟨z.toArray⟩)) HK2.out.symm,Below.drewN' (Below.refl _ _) _⟩
  · have HK : Hid (nowV X.l (i,false) = []):=Lib.hid (nowV_end X i hi H.le)
    generalize X.toks.length = n at *
    have hd : decide ((n : Int) ≤ i) = true:=decide_eq_true (by omega)
    have hd' : decide (n ≤ i) = true:=decide_eq_true (by omega)
    clear H
    go_enter Tryz.func73,Tryz.ntmps73
    go_wp2_with fail
    go_quiet (fail)
    go_wp2
    exact bodyPost_ret (v:=.string ⟨([] : List UInt8).toArray⟩) (by simp [results,Tryz.results73,go_sem]) rfl ⟨congrArg (fun z => Ending.returned (Value.string ⟨z.toArray⟩)) HK.out.symm,Below.drewN' (Below.refl _ _) _⟩
end Go.Proofs.YtnkphlkjhgngkaaGreatDoor
