/- The document's Class, and the law ArenaClasses. -/
import Derived.Test.YtimpmgbahgganaaArN
namespace Go.Proofs.Ytimpmgbahgganaa
open Go.RowKit Go.Maps

theorem rclass_none (n : Int) (w : World) (h : n < 1 ∨ 65536 < n) : Calls Try.prog 52 #[.int .i64 n] w fun e w' => e = .returned (.int .i64 0) ∧ w' = w := by
  rcases h with h | h
  · have h1 : decide (n < 1) = true := by simpa using h
    go_enter Try.func52, Try.ntmps52
    go_wp2
    go_ret
    exact ⟨rfl, rfl⟩
  · have h1 : decide (n < 1) = false := by simp; omega
    have h2 : decide (65536 < n) = true := by simpa using h
    go_enter Try.func52, Try.ntmps52
    go_wp2
    go_ret
    exact ⟨rfl, rfl⟩
theorem rclass_big (n : Nat) (w : World) (h : 4096 < n) (h' : n ≤ 65536) : Calls Try.prog 52 #[.int .i64 n] w fun e w' => e = .returned (.int .i64 (((n + 1023) / 1024 * 1024 : Nat) : Int)) ∧ w' = w := by
  have h1 : decide ((n : Int) < 1) = false := by simp; omega
  have h2 : decide (65536 < (n : Int)) = false := by simp; omega
  have h3 : decide (4096 < (n : Int)) = true := by simp; omega
  have b1 : 4096 < (n : Int) := by omega
  have b2 : (n : Int) ≤ 65536 := by omega
  go_enter Try.func52, Try.ntmps52
  go_wp2
  go_ret
  exact ⟨ret_int (by omega), rfl⟩
set_option maxHeartbeats 1000000 in
theorem rclass_small (n : Nat) (w : World) (h : 1 ≤ n) (h' : n ≤ 4096) : Calls Try.prog 52 #[.int .i64 n] w fun e w' => e = .returned (.int .i64 (clsN n : Nat)) ∧ w' = w := by
  have h1 : decide ((n : Int) < 1) = false := by simp; omega
  have h2 : decide (65536 < (n : Int)) = false := by simp; omega
  have h3 : decide (4096 < (n : Int)) = false := by simp; omega
  have b1 : 1 ≤ (n : Int) := by omega
  have b2 : (n : Int) ≤ 4096 := by omega
  have hr := hide (okC_parts h h').2.2.2.2.1
  have hpos : clsN n ≠ 0 := by have := (okC_parts h h').1; omega
  generalize clsN n = r at hr hpos ⊢
  go_enter Try.func52, Try.ntmps52
  go_wp2
  go_loop [3] (fun kv => ∃ (k f : Nat), 1 ≤ k ∧ k ≤ 8192 ∧ kv = .int .i64 k ∧ Hid (rcl f k n = r)) (fun kv => 8192 - (intOf kv).toNat)
  case atStart => exact ⟨1, 13, by omega, by omega, rfl, hr⟩
  case round =>
    obtain ⟨k, f, hk, hk2, rfl, hf⟩ := hrel
    cases f with
    | zero => exact absurd hf.out.symm hpos
    | succ f =>
      by_cases c1 : n ≤ k
      · have e1 : decide ((n : Int) ≤ (k : Int)) = true := by simpa using c1
        have hR := hide (show r = k by rw [← hf.out]; simp only [rcl]; rw [if_pos c1])
        go_wp2
        go_ret
        exact ⟨ret_int (by rw [hR.out]), rfl⟩
      · have e1 : decide ((n : Int) ≤ (k : Int)) = false := by simp; omega
        have b3 : 1 ≤ (k : Int) := by omega
        have b4 : (k : Int) < 4096 := by omega
        by_cases c2 : 1 < k
        · have e2 : decide (1 < (k : Int)) = true := by simp; omega
          by_cases c3 : n ≤ k / 2 * 3
          · have e3 : decide ((n : Int) ≤ (k : Int) / 2 * 3) = true := by simp; omega
            have hR := hide (show r = k / 2 * 3 by rw [← hf.out]; simp only [rcl]; rw [if_neg c1, if_pos ⟨c2, c3⟩])
            go_wp2
            go_ret
            exact ⟨ret_int (by rw [hR.out]; omega), rfl⟩
          · have e3 : decide ((n : Int) ≤ (k : Int) / 2 * 3) = false := by simp; omega
            have hR := hide (show rcl f (k * 2) n = r by rw [← hf.out]; simp only [rcl]; rw [if_neg c1, if_neg (fun h => c3 h.2)])
            go_wp2
            go_round
            case rel => exact ⟨k * 2, f, by omega, by omega, by go_num, hR⟩
            case measure => simp [intOf]; omega
        · have e2 : decide (1 < (k : Int)) = false := by simp; omega
          have hR := hide (show rcl f (k * 2) n = r by rw [← hf.out]; simp only [rcl]; rw [if_neg c1, if_neg (fun h => c2 h.1)])
          go_wp2
          go_round
          case rel => exact ⟨k * 2, f, by omega, by omega, by go_num, hR⟩
          case measure => simp [intOf]; omega
/-- The document's Class of any number is the program's. -/
theorem rclass_any (n : Int) (w : World) : Calls Try.prog 52 #[.int .i64 n] w fun e w' => e = .returned (.int .i64 (clsN n.toNat : Nat)) ∧ w' = w := by
  rcases Int.lt_or_le n 1 with h | h
  · rw [show clsN n.toNat = 0 from cls_none (.inl (by omega))]; exact rclass_none n w (.inl h)
  · rcases Int.lt_or_le 65536 n with h2 | h2
    · rw [show clsN n.toNat = 0 from cls_none (.inr (by omega))]; exact rclass_none n w (.inr h2)
    · obtain ⟨m, rfl⟩ := Int.eq_ofNat_of_zero_le (show 0 ≤ n by omega)
      rw [Int.toNat_natCast]
      rcases Nat.lt_or_ge 4096 m with h3 | h3
      · rw [cls_big h3 (by omega)]; exact rclass_big m w h3 (by omega)
      · exact rclass_small m w (by omega) h3
end Go.Proofs.Ytimpmgbahgganaa
