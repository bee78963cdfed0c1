/- The queue: newQueue, add. -/
import Derived.Test.YtkdojpnihinpbaaDoorVfQ
namespace Go.Proofs.YtkdojpnihinpbaaDoor
open Go.RowKit
theorem info_u64 : (Tryd.prog.info? 129).map (fun i => (i.zero, i.size, i.bytes)) = some (some (.int .u64 0), 1, 8) := by kernel_rfl
abbrev wds (ws : List Nat) : Array Value := (ws.map (fun x : Nat => Value.int .u64 x)).toArray
theorem made_u64 (n : Nat) : madeCells #[Value.int .u64 0] n = wds (List.replicate n 0) := by
  apply Array.ext
  · simp [madeCells]
  · intro i h1 h2
    simp [madeCells, Nat.mod_one]
theorem run_queue (w : World) (n : Nat) (hn : n ≤ 65536) : (Instr.makeSlice 73 (.int .i64 ((n : Int) / 64 + 1)) (.int .i64 ((n : Int) / 64 + 1))).run Tryd.prog w = .ok (qv w.heap.size n) (w.alloc (.cells (wds (List.replicate (n / 64 + 1) 0)) 129)) := by
  obtain ⟨i0, hi, hz0, hz1, hz2⟩ := info_parts info_u64
  have hmk := run_make (P := Tryd.prog) w 73 129 i0 (.int .u64 0) Tryd.underlying73 hi hz0 .i64 .i64 ((n : Int) / 64 + 1) ((n : Int) / 64 + 1) (by omega) (Int.le_refl _) (by rw [hz2]; omega) (by omega)
  rw [hz1] at hmk
  rw [show ((n : Int) / 64 + 1).toNat = n / 64 + 1 by omega, Nat.mul_one] at hmk
  rw [show (Value.int .u64 0).cells = #[Value.int .u64 0] from rfl, made_u64] at hmk
  exact hmk
theorem newQueue_any (w : World) (n : Nat) (hn : n ≤ 65536) : Calls Tryd.prog 60 #[.int .i64 n] w fun e w' => e = .returned (qv w.heap.size n) ∧ w' = w.alloc (.cells (wds (List.replicate (n / 64 + 1) 0)) 129) := by
  have h1 : (n : Int) ≤ 65536 := by omega
  have hr := run_queue w n hn
  generalize w.alloc (.cells (wds (List.replicate (n / 64 + 1) 0)) 129) = W at *
  go_enter Tryd.func60, Tryd.ntmps60
  go_wp2
  go_ret
  exact ⟨rfl, rfl⟩
section
variable {w w' : World} {b n : Nat} {wt : List Bool}
theorem QuAt.keep (h : QuAt w b n wt) (hk : w'.heap[b]? = w.heap[b]?) : QuAt w' b n wt := by
  obtain ⟨h1, ws, h2, h3, h4⟩ := h
  exact ⟨h1, ws, h2, hk.trans h3, h4⟩
theorem qu_new (w : World) (n : Nat) : QuAt (w.alloc (.cells (wds (List.replicate (n / 64 + 1) 0)) 129)) w.heap.size n (List.replicate n false) := by
  refine ⟨by simp, List.replicate (n / 64 + 1) 0, by simp, heap_new _ _ rfl, fun q x hx => ?_⟩
  rw [List.getElem?_replicate] at hx
  split at hx
  · cases hx
    refine ⟨by decide, fun j _ => ?_⟩
    rw [Nat.zero_testBit, List.getElem?_replicate]
    split <;> rfl
  · cases hx
/-- Behind a change of one word. -/
theorem qu_set {x q : Nat} {v : Bool} (h : QuAt w b n wt) (hq : x / 64 = q) {y : Nat} (hy : WdR y q (wt.set x v)) {W : World} (hW : W.heap[b]? = (w.setCell ⟨b, q, none⟩ (.int .u64 y)).heap[b]?) : QuAt W b n (wt.set x v) := by
  obtain ⟨h1, ws, h2, h3, h4⟩ := h
  refine ⟨by rw [List.length_set]; exact h1, ws.set q y, by rw [List.length_set]; exact h2, ?_, fun r z hz => ?_⟩
  · rw [hW, heap_setCell_same _ _ _ _ h3]
    congr 2
    simp [List.map_set]
  · by_cases hr : q = r
    · subst hr
      rw [List.getElem?_set_self'] at hz
      cases hw : ws[q]? with
      | none => rw [hw] at hz; cases hz
      | some u => rw [hw] at hz; cases hz; exact hy
    · rw [List.getElem?_set_ne hr] at hz
      exact wd_other (h4 r z hz) (by omega)
set_option maxHeartbeats 1000000 in
theorem add_any {x : Nat} (h : QuAt w b n wt) (hx : x < n) (hn : n ≤ 65536) : Calls Tryd.prog 76 #[qv b n, .int .i64 x] w fun e w' => (∃ v, e = .returned v) ∧ QuAt w' b n (wt.set x true) ∧ Kp (fun j => j = b) w w' := by
  have HQ := hide h
  obtain ⟨h1, ws, h2, h3, h4⟩ := h
  obtain ⟨y, hy⟩ : ∃ y, ws[x / 64]? = some y := ⟨ws[x / 64]'(by omega), by simp⟩
  have hwd := h4 _ y hy
  have hc : w.cell? ⟨b, x / 64, none⟩ = some (.int .u64 y) := cell_of h3 (by simp [hy])
  have hf : w.frozen? ⟨b, x / 64, none⟩ = false := by simp [World.frozen?, h3]
  have hb := lt_of_block h3
  have hlt : x / 64 < n / 64 + 1 := by omega
  have hp : 2 ^ (x % 64) < 18446744073709551616 := by
    have : 2 ^ (x % 64) < 2 ^ 64 := Nat.pow_lt_pow_right (by decide) (Nat.mod_lt _ (by decide))
    exact this
  have hor : bits .or .u64 (y : Int) (IntKind.u64.wrap (2 ^ (x % 64))) = ((y ||| 2 ^ (x % 64) : Nat) : Int) := by
    rw [show (2 : Int) ^ (x % 64) = ((2 ^ (x % 64) : Nat) : Int) by simp, IntKind.wrap_u64, show ((2 ^ (x % 64) : Nat) : Int) % 18446744073709551616 = ((2 ^ (x % 64) : Nat) : Int) from Int.emod_eq_of_lt (Int.natCast_nonneg _) (Int.ofNat_lt.mpr hp)]
    exact bits_or_u64_nat _ _ hwd.1 hp
  have HK := hide (fun (W : World) (hW : (w.setCell ⟨b, x / 64, none⟩ (.int .u64 ((y ||| 2 ^ (x % 64) : Nat) : Int))).drew = W) => show QuAt W b n (wt.set x true) ∧ Kp (fun j => j = b) w W from ⟨qu_set HQ.out rfl (wd_set hwd (by rw [h1]; exact hx) rfl) (by rw [← hW]; rfl), by rw [← hW]; exact ⟨rfl, rfl, rfl, by show w.heap.size ≤ (w.setCell _ _).heap.size; simp, fun j hj hx => Below.heap_setCell _ _ _ j hx⟩⟩)
  have hx1 : (x : Int) ≤ 65536 := by omega
  have e1 : (x : Int) / 64 = ((x / 64 : Nat) : Int) := by omega
  have e2 : (x : Int) % 64 = ((x % 64 : Nat) : Int) := by omega
  have hr : x % 64 < 64 := Nat.mod_lt _ (by decide)
  clear h1 h2 h3 h4 hwd hy hp
  unfold qv
  generalize x / 64 = k at *
  generalize x % 64 = r at *
  generalize n / 64 + 1 = N at *
  have e3 : decide (k < N) = true := by simpa using hlt
  go_enter Tryd.func76, Tryd.ntmps76
  go_wp2_with fail
  go_region
  go_returns
  exact ⟨⟨_, rfl⟩, HK.out _ rfl⟩
end
end Go.Proofs.YtkdojpnihinpbaaDoor
