/- The law TypesSound. -/
import Derived.Test.YtbejkphekfbfnaaGreatDcU
import Derived.Deep.RegionHeld3
namespace Go.Proofs.YtbejkphekfbfnaaGreat
open Go.RowKit
attribute [local go_sem ↓] Go.wp_at_zero Go.wp_at_succ

abbrev tcs (k : Int) (s : List UInt8) (m : Int) (sl : Value) : Array Value := #[.int .i64 k, .string ⟨s.toArray⟩, .int .i64 m, sl]
def Hs (w : World) (k : Int) (s : List UInt8) (m : Int) (sl : Value) (W : World) : Prop := Hb w (tcs k s m sl) 27 W ∧ W.cell? ⟨w.heap.size, 0, none⟩ = some (.int .i64 k) ∧ W.cell? ⟨w.heap.size, 1, none⟩ = some (.string ⟨s.toArray⟩) ∧ W.cell? ⟨w.heap.size, 2, none⟩ = some (.int .i64 m) ∧ W.cell? ⟨w.heap.size, 3, none⟩ = some sl
theorem Hs.of {w : World} {k : Int} {s : List UInt8} {m : Int} {sl : Value} {W : World} (h : Hb w (tcs k s m sl) 27 W) : Hb w (tcs k s m sl) 27 W ∧ W.cell? ⟨w.heap.size, 0, none⟩ = some (.int .i64 k) ∧ W.cell? ⟨w.heap.size, 1, none⟩ = some (.string ⟨s.toArray⟩) ∧ W.cell? ⟨w.heap.size, 2, none⟩ = some (.int .i64 m) ∧ W.cell? ⟨w.heap.size, 3, none⟩ = some sl := ⟨h, h.cell 0 rfl, h.cell 1 rfl, h.cell 2 rfl, h.cell 3 rfl⟩
set_option maxRecDepth 20000 in
set_option maxHeartbeats 8000000 in
theorem sound_law (ds : List Dc) (tb : Value) (k : Int) (s : List UInt8) (m : Int) (ks : List Tr) (ao : Option Addr) (c : Nat) (w : World) (hL : DL w ds tb) (h : Ty w (.mk k s m ks) (.slice ao ks.length c)) :
    Calls Tryz.prog 5 #[tb, .agg #[.int .i64 k, .string ⟨s.toArray⟩, .int .i64 m, .slice ao ks.length c]] w fun e w' => e = .returned (.bool true) ∧ Below w.heap.size w w' := by
  obtain ⟨a0, c0, rfl⟩ := hL.slice
  have hX0 := (Hb.start (w := w) (cs := tcs k s m (.slice ao ks.length c)) (T := 27)).drew
  have hs0 := Hs.of hX0
  have HA : Hid (∀ W, Hb w (tcs k s m (.slice ao ks.length c)) 27 W → Calls Tryz.prog 11 #[] W fun e w' => e = .returned (.bool true) ∧ Hb w (tcs k s m (.slice ao ks.length c)) 27 w') := fun W hh => (awake_any W).mono fun e w' ⟨h1, h2⟩ => ⟨h1, hh.next h2⟩
  have HS : Hid (∀ W, Hb w (tcs k s m (.slice ao ks.length c)) 27 W → Calls Tryz.prog 17 #[.slice a0 ds.length c0] W fun e w' => e = .returned (.int .i64 (errP ds)) ∧ Hb w (tcs k s m (.slice ao ks.length c)) 27 w') := fun W hh => (psound_any ds _ W (hL.later hh.out)).mono fun e w' ⟨h1, h2⟩ => ⟨h1, hh.next h2⟩
  have HR : Hid (∀ W, Hb w (tcs k s m (.slice ao ks.length c)) 27 W → Calls Tryz.prog 18 #[.slice a0 ds.length c0] W fun e w' => e = .returned (.int .i64 (errP ds)) ∧ Hb w (tcs k s m (.slice ao ks.length c)) 27 w') := fun W hh => (rtable_any ds _ W (hL.later hh.out)).mono fun e w' ⟨h1, h2⟩ => ⟨h1, hh.next h2⟩
  have HK : Hid (∀ W, Hb w (tcs k s m (.slice ao ks.length c)) 27 W → Calls Tryz.prog 19 #[.slice a0 ds.length c0, .agg #[.int .i64 k, .string ⟨s.toArray⟩, .int .i64 m, .slice ao ks.length c]] W fun e w' => e = .returned (.bool (pkP ds (.mk k s m ks))) ∧ Hb w (tcs k s m (.slice ao ks.length c)) 27 w') := fun W hh => (pknown_any ds _ k s m ks ao c W (hL.later hh.out) (h.later hh.out)).mono fun e w' ⟨h1, h2⟩ => ⟨h1, hh.next h2⟩
  have HT : Hid (∀ W, Hb w (tcs k s m (.slice ao ks.length c)) 27 W → Calls Tryz.prog 20 #[.slice a0 ds.length c0, .agg #[.int .i64 k, .string ⟨s.toArray⟩, .int .i64 m, .slice ao ks.length c]] W fun e w' => e = .returned (.bool (pkP ds (.mk k s m ks))) ∧ Hb w (tcs k s m (.slice ao ks.length c)) 27 w') := fun W hh => (rknownT_any ds _ k s m ks ao c W (hL.later hh.out) (h.later hh.out)).mono fun e w' ⟨h1, h2⟩ => ⟨h1, hh.next h2⟩
  generalize errP ds = er at *
  generalize pkP ds (.mk k s m ks) = bb at *
  clear h hL
  go_enter Tryz.func5, Tryz.ntmps5
  go_wp2_with fail
  go_region_held3 (fun WW => Hb w (tcs k s m (.slice ao ks.length c)) 27 WW ∧ WW.cell? ⟨w.heap.size, 0, none⟩ = some (.int .i64 k) ∧ WW.cell? ⟨w.heap.size, 1, none⟩ = some (.string ⟨s.toArray⟩) ∧ WW.cell? ⟨w.heap.size, 2, none⟩ = some (.int .i64 m) ∧ WW.cell? ⟨w.heap.size, 3, none⟩ = some (.slice ao ks.length c)) (first | assumption | go_keep) (first
    | (have kk := hs4; clear kk; go_simp; go_at_call 20; refine (HT.out _ hX4).mono ?_; rintro e w5 ⟨rfl, hX5⟩; have hs5 := Hs.of hX5)
    | (have kk := hs3; clear kk; go_simp; go_at_call 19; refine (HK.out _ hX3).mono ?_; rintro e w4 ⟨rfl, hX4⟩; have hs4 := Hs.of hX4)
    | (have kk := hs2; clear kk; go_simp; go_at_call 18; refine (HR.out _ hX2).mono ?_; rintro e w3 ⟨rfl, hX3⟩; have hs3 := Hs.of hX3)
    | (have kk := hs1; clear kk; go_simp; go_at_call 17; refine (HS.out _ hX1).mono ?_; rintro e w2 ⟨rfl, hX2⟩; have hs2 := Hs.of hX2)
    | (go_simp; go_at_call 11; refine (HA.out _ hX0).mono ?_; rintro e w1 ⟨rfl, hX1⟩; have hs1 := Hs.of hX1))
  all_goals
    go_wp2
    exact bodyPost_ret (v := .bool true) (by simp [results, Tryz.results5, go_sem]) rfl ⟨rfl, hX5.out⟩
end Go.Proofs.YtbejkphekfbfnaaGreat
