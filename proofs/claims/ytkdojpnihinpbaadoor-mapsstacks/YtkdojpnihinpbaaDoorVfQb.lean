/- The queue: least. -/
import Derived.Test.YtkdojpnihinpbaaDoorVfQa
namespace Go.Proofs.YtkdojpnihinpbaaDoor
open Go.RowKit
section
variable {w w' : World} {b n : Nat} {wt : List Bool}
/-- What least answers: the least that waits, which waits no more. -/
def LsO (w : World) (b n : Nat) (wt : List Bool) (e : Ending) (W : World) : Prop := match leastP wt with
  | none => e = .returned (.tuple #[.int .i64 0, .bool false]) ∧ W = w
  | some x => e = .returned (.tuple #[.int .i64 x, .bool true]) ∧ QuAt W b n (wt.set x false) ∧ Kp (fun j => j = b) w W
def LsR (ws : List Nat) (w : World) (a : Value) (wr : World) : Prop := ∃ j : Nat, a = .int .i64 j ∧ j ≤ ws.length ∧ (∀ q, q < j → ws[q]? = some 0) ∧ wr = w
theorem none_upto {ws : List Nat} (h4 : ∀ q x, ws[q]? = some x → WdR x q wt) {j : Nat} (h : ∀ q, q < j → ws[q]? = some 0) {m : Nat} (hm : m < 64 * j) : (wt[m]?).getD false = false := by
  have h1 := wd_none (h4 (m / 64) 0 (h (m / 64) (by omega))) (m % 64) (Nat.mod_lt _ (by decide))
  rwa [show 64 * (m / 64) + m % 64 = m by omega] at h1
set_option maxHeartbeats 1000000 in
theorem least_any (h : QuAt w b n wt) (hn : n ≤ 65536) (T : Tb w) (hb0 : b ≠ 0) : Calls Tryd.prog 62 #[qv b n] w (LsO w b n wt) := by
  have HQ := hide h
  obtain ⟨h1, ws, h2, h3, h4⟩ := h
  have hlen : ws.length = n / 64 + 1 := h2
  have HWS := hide h4
  have HNN := hide (show (∀ q, q < ws.length → ws[q]? = some 0) → LsO w b n wt (.returned (.tuple #[.int .i64 0, .bool false])) w from fun hz => by
    have : leastP wt = none := least_none fun m => by
      rcases Nat.lt_or_ge m (64 * ws.length) with hm | hm
      · exact none_upto h4 hz hm
      · rw [List.getElem?_eq_none (by omega)]; rfl
    unfold LsO
    rw [this]
    exact ⟨rfl, rfl⟩)
  have HYY := hide (show ∀ (j y : Nat), ws[j]? = some y → y ≠ 0 → (∀ q, q < j → ws[q]? = some 0) → ∀ W : World, w.setCell ⟨b, j, none⟩ (.int .u64 ((y &&& (y - 1) : Nat) : Int)) = W → LsO w b n wt (.returned (.tuple #[.int .i64 (64 * (j : Int) + (Lib.ctz 64 y : Int)), .bool true])) W from fun j y hy h0 hz W hW => by
    obtain ⟨t1, t2, t3⟩ := wd_low (h4 j y hy) h0
    have hl : leastP wt = some (64 * j + Lib.ctz 64 y) := least_some t2 fun m hm => by
      rcases Nat.lt_or_ge m (64 * j) with hm2 | hm2
      · exact none_upto h4 hz hm2
      · have := t3 (m - 64 * j) (by omega)
        rwa [show 64 * j + (m - 64 * j) = m by omega] at this
    unfold LsO
    rw [hl]
    refine ⟨by rw [show ((64 * j + Lib.ctz 64 y : Nat) : Int) = 64 * (j : Int) + (Lib.ctz 64 y : Int) by omega], qu_set HQ.out (by omega) (wd_clr (h4 j y hy) h0) (by rw [← hW]), ?_⟩
    rw [← hW]
    exact ⟨rfl, rfl, rfl, by simp, fun j hj hx => Below.heap_setCell _ _ _ j hx⟩)
  have HC := hide (show ∀ (j y : Nat), ws[j]? = some y → w.cell? ⟨b, j, none⟩ = some (.int .u64 y) ∧ w.frozen? ⟨b, j, none⟩ = false from fun j y hy => ⟨cell_of h3 (by simp [hy]), by simp [World.frozen?, h3]⟩)
  have hb := lt_of_block h3
  have HT := hide T
  have HB0 := hide hb0
  clear h4 h1 h3 T hb0
  unfold qv
  rw [← hlen]
  have HL := hide (show ws.length ≤ 1025 by omega)
  clear hlen h2 hn
  go_enter Tryd.func62, Tryd.ntmps62
  go_wp2
  go_loopw [8] (fun a wr => LsR ws w a wr) (fun a _ => ws.length - (intOf a).toNat)
  case atStart => exact ⟨0, rfl, Nat.zero_le _, fun q hq => by omega, rfl⟩
  case round =>
    obtain ⟨j, rfl, hj, hz, rfl⟩ := hrel
    have HZ := hide hz
    clear hz
    by_cases hlt : j < ws.length
    · obtain ⟨y, hy⟩ : ∃ y, ws[j]? = some y := ⟨ws[j], by simp [hlt]⟩
      obtain ⟨hc, hf⟩ := HC.out j y hy
      have d1 : decide (j < ws.length) = true := by simpa using hlt
      have hj1 : (j : Int) ≤ 1025 := by have := HL.out; omega
      have hj0 : (0 : Int) ≤ (j : Int) := by omega
      have HY := hide hy
      clear hy
      by_cases h0 : y = 0
      · have z0 : ((y : Int) != 0) = false := by simp [h0]
        generalize hl : ws.length = l at *
        have HLL := hide hl
        clear hl
        go_wp2
        go_roundw
        case rel => exact ⟨j + 1, by first | exact num_next hlt (by have := HL.out; omega) | go_num, by rw [HLL.out]; exact hlt, fun q hq => (by
          rcases Nat.lt_or_ge q j with h | h
          · exact HZ.out q h
          · rw [show q = j by omega, HY.out, h0]), rfl⟩
        case measure => first | exact meas_int hlt (by have := HL.out; omega) | (rw [intOf_int, intOf_int]; omega)
      · have z0 : ((y : Int) != 0) = true := by simp; omega
        have hy64 : y < 18446744073709551616 := (HWS.out j y HY.out).1
        obtain ⟨W, hW⟩ : ∃ W, wr.setCell ⟨b, j, none⟩ (.int .u64 ((y &&& (y - 1) : Nat) : Int)) = W := ⟨_, rfl⟩
        have HF := hide (HYY.out j y HY.out h0 HZ.out W hW)
        have hs1 : IntKind.u64.wrap ((y : Int) - 1) = ((y - 1 : Nat) : Int) := by rw [IntKind.wrap_u64, show (y : Int) - 1 = ((y - 1 : Nat) : Int) by omega]; exact Int.emod_eq_of_lt (by omega) (by omega)
        have hand : bits .and .u64 (y : Int) ((y - 1 : Nat) : Int) = ((y &&& (y - 1) : Nat) : Int) := bits_and_u64_nat _ _ hy64 (by omega)
        have TW : Tb W := HT.out.keep (by rw [← hW]; exact Below.heap_setCell _ _ _ 0 (fun e => HB0.out e.symm))
        have CT := hide (tz64_any y hy64 h0 W TW)
        have hct : Lib.ctz 64 y < 64 := (ctz_form h0 hy64).choose_spec.2
        clear TW hy64 h0
        generalize ws.length = l at *
        generalize Lib.ctz 64 y = t at *
        generalize y - 1 = y1 at *
        generalize y &&& y1 = y2 at *
        go_wp2_with fail
        refine CT.out.mono ?_
        rintro e w2 ⟨rfl, rfl⟩
        have ht1 : (t : Int) < 64 := by omega
        have ht0 : (0 : Int) ≤ (t : Int) := by omega
        go_wp2
        go_ret2
        exact HF.out
    · obtain rfl : j = ws.length := by omega
      have d1 : decide (ws.length < ws.length) = false := by simp
      have HF := hide (HNN.out HZ.out)
      generalize ws.length = l at *
      go_wp2
      go_ret2
      exact HF.out
end
end Go.Proofs.YtkdojpnihinpbaaDoor
