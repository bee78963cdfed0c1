/- The law ParseSound. -/
import Derived.Test.YtnkphlkjhgngkaaGreatDoorRfKJo
namespace Go.Proofs.YtnkphlkjhgngkaaGreatDoor
open Go.RowKit
attribute [local go_sem ↓] Go.wp_at_zero Go.wp_at_succ

set_option maxRecDepth 20000 in
set_option maxHeartbeats 8000000 in
theorem soundLaw_any (t : Tr) (sl : Value) (S : Nat → Prop) (w : World) (hG : Gl w) (hS : ∀ b, S b → b < w.heap.size) (hn : cntN t ≤ 10000000) (ht : ∀ n, txtT n t) (hk : KT w S t sl) :
    Calls Tryz.prog 4 #[tv t sl] w fun e w' => e = .returned (.bool true) ∧ Below w.heap.size w w' := by
  obtain ⟨k, x, m, ks⟩ := t
  obtain ⟨ao, c, rfl⟩ := (Lst.of hk).slice
  have hX0 := (Hx.start (w := w) (c0 := .int .i64 k) (c1 := .string ⟨x.toArray⟩) (c2 := .int .i64 m) (c3 := .slice ao ks.length c)).drew
  have HA : Hid (∀ W, Hx w (.int .i64 k) (.string ⟨x.toArray⟩) (.int .i64 m) (.slice ao ks.length c) W → Calls Tryz.prog 10 #[] W fun e w' => e = .returned (.bool true) ∧ Hx w (.int .i64 k) (.string ⟨x.toArray⟩) (.int .i64 m) (.slice ao ks.length c) w') :=
    Lib.hid fun W h => (awake_any W (hG.later h.out)).mono fun e w' ⟨h1, h2⟩ => ⟨h1, h.next h2⟩
  have HP : Hid (∀ W, Hx w (.int .i64 k) (.string ⟨x.toArray⟩) (.int .i64 m) (.slice ao ks.length c) W → Calls Tryz.prog 12 #[.agg #[.int .i64 k, .string ⟨x.toArray⟩, .int .i64 m, .slice ao ks.length c]] W fun e w' => e = .returned (.bool (soundT (.mk k x m ks))) ∧ Hx w (.int .i64 k) (.string ⟨x.toArray⟩) (.int .i64 m) (.slice ao ks.length c) w') :=
    Lib.hid fun W h => (sound_any (.mk k x m ks) (.slice ao ks.length c) S W (hG.later h.out) (fun b hb => Nat.lt_of_lt_of_le (hS b hb) h.out.size) ht (hk.fr (fun b hb => h.out.block b (hS b hb)) (fun _ h => h))).mono fun e w' ⟨h1, h2⟩ => ⟨h1, h.next h2⟩
  have HQ : Hid (∀ W, Hx w (.int .i64 k) (.string ⟨x.toArray⟩) (.int .i64 m) (.slice ao ks.length c) W → Calls Tryz.prog 13 #[.agg #[.int .i64 k, .string ⟨x.toArray⟩, .int .i64 m, .slice ao ks.length c]] W fun e w' => e = .returned (.bool (soundT (.mk k x m ks))) ∧ Hx w (.int .i64 k) (.string ⟨x.toArray⟩) (.int .i64 m) (.slice ao ks.length c) w') :=
    Lib.hid fun W h => (refSound_any k x m ks ao c S W hn ht (fun b hb => Nat.lt_of_lt_of_le (hS b hb) h.out.size) (hk.fr (fun b hb => h.out.block b (hS b hb)) (fun _ h => h))).mono fun e w' ⟨h1, h2⟩ => ⟨h1, h.next h2⟩
  obtain ⟨b, hb⟩ : ∃ b, soundT (.mk k x m ks) = b := ⟨_, rfl⟩
  rw [hb] at HP HQ
  clear hb hn ht hk hS hG
  change Calls Tryz.prog 4 #[.agg #[.int .i64 k, .string ⟨x.toArray⟩, .int .i64 m, .slice ao ks.length c]] w _
  go_enter Tryz.func4, Tryz.ntmps4
  go_wp2_with fail
  (first | go_region_with (first
    | (go_at_call 10; refine (HA.out _ (by first | assumption | exact hX0)).mono ?_; rintro e w1 ⟨rfl, hX1⟩
       obtain ⟨x0, x1, x2, x3⟩ := hX1.cells)
    | (go_at_call 12; refine (HP.out _ (by assumption)).mono ?_; rintro e w2 ⟨rfl, hX2⟩
       obtain ⟨y0, y1, y2, y3⟩ := hX2.cells)
    | (go_at_call 13; refine (HQ.out _ (by assumption)).mono ?_; rintro e w3 ⟨rfl, hX3⟩
       obtain ⟨z0, z1, z2, z3⟩ := hX3.cells)) | fail)
  all_goals
    go_wp2
    first
      | exact bodyPost_ret (v := .bool true) (by simp [results, Tryz.results4, go_sem]) rfl ⟨rfl, hX3.out⟩
      | exact bodyPost_ret (v := .bool true) (by simp [results, Tryz.results4, go_sem]) rfl ⟨rfl, hX2.out⟩
end Go.Proofs.YtnkphlkjhgngkaaGreatDoor
