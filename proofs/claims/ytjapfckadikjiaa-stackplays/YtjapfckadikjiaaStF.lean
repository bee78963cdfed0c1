/- What is done for each pointer: Pop and Move. -/
import Derived.Test.YtjapfckadikjiaaStE
namespace Go.Proofs.Ytjapfckadikjiaa
open Go.RowKit
section
variable {X : Sx} {s : Sk} {w : World}
set_option maxHeartbeats 1000000 in
theorem each_pop {ao : Option Addr} {g n cap : Nat} {c1 c2 c3 : Value} (J : Nat → World → Prop) (hn : n ≤ 65536) (hao : 0 < n → ao = some ⟨g, 0, none⟩) (w : World) (h0 : J 0 w)
    (hs : ∀ (i : Nat) (wr : World), i < n → J i wr → ∃ q, wr.cell? ⟨g, i * 2 + 1, none⟩ = some (.bool q) ∧ (q = false → J (i + 1) wr) ∧ (q = true → Calls Try.prog 29 #[.pointer (some ⟨g, i * 2, none⟩), c1, c2, c3] wr fun e w' => e = .returned (.tuple #[]) ∧ J (i + 1) w')) :
    Calls Try.prog 28 #[.slice ao n cap, .func (.func 29) #[] #[c1, c2, c3]] w fun e w' => e = .returned (.tuple #[]) ∧ J n w' := by
  have b0 : (n : Int) ≤ 65536 := by omega
  have HS := hide hs
  have HA := hide hao
  clear hs hao
  go_enter Try.func28, Try.ntmps28
  go_wp2
  go_loopw [7] (fun i wr => ∃ j : Nat, j ≤ n ∧ i = .int .i64 j ∧ Hid (J j wr)) (fun i _ => n - (intOf i).toNat)
  case atStart => exact ⟨0, Nat.zero_le _, rfl, h0⟩
  case round =>
    obtain ⟨j, hj, rfl, hJ⟩ := hrel
    by_cases hlt : j < n
    · obtain ⟨q, cq, h1, h2⟩ := HS.out j wr hlt hJ.out
      obtain rfl := HA.out (by omega)
      have bj : (j : Int) < (n : Int) := by omega
      cases q with
      | false =>
        have h1' := hide (h1 rfl)
        clear h1 h2 hJ
        go_wp2
        go_roundw
        case rel => exact ⟨j + 1, by omega, by go_num, h1'⟩
        case measure => simp [intOf]; omega
      | true =>
        have h2' := hide (h2 rfl)
        clear h1 h2 hJ
        go_wp2_with (go_at_call 29; refine h2'.out.mono ?_; rintro e w2 ⟨rfl, hJ2⟩; have hJ3 := hide hJ2; clear hJ2)
        go_roundw
        case rel => exact ⟨j + 1, by omega, by go_num, hJ3⟩
        case measure => simp [intOf]; omega
    · obtain rfl : j = n := by omega
      go_wp2
      go_end0
      exact ⟨rfl, hJ.out⟩
set_option maxHeartbeats 1000000 in
theorem each_move {ao : Option Addr} {g n cap : Nat} {c1 c2 c3 : Value} (J : Nat → World → Prop) (hn : n ≤ 65536) (hao : 0 < n → ao = some ⟨g, 0, none⟩) (w : World) (h0 : J 0 w)
    (hs : ∀ (i : Nat) (wr : World), i < n → J i wr → ∃ q, wr.cell? ⟨g, i * 2 + 1, none⟩ = some (.bool q) ∧ (q = false → J (i + 1) wr) ∧ (q = true → Calls Try.prog 35 #[.pointer (some ⟨g, i * 2, none⟩), c1, c2, c3] wr fun e w' => e = .returned (.tuple #[]) ∧ J (i + 1) w')) :
    Calls Try.prog 28 #[.slice ao n cap, .func (.func 35) #[] #[c1, c2, c3]] w fun e w' => e = .returned (.tuple #[]) ∧ J n w' := by
  have b0 : (n : Int) ≤ 65536 := by omega
  have HS := hide hs
  have HA := hide hao
  clear hs hao
  go_enter Try.func28, Try.ntmps28
  go_wp2
  go_loopw [7] (fun i wr => ∃ j : Nat, j ≤ n ∧ i = .int .i64 j ∧ Hid (J j wr)) (fun i _ => n - (intOf i).toNat)
  case atStart => exact ⟨0, Nat.zero_le _, rfl, h0⟩
  case round =>
    obtain ⟨j, hj, rfl, hJ⟩ := hrel
    by_cases hlt : j < n
    · obtain ⟨q, cq, h1, h2⟩ := HS.out j wr hlt hJ.out
      obtain rfl := HA.out (by omega)
      have bj : (j : Int) < (n : Int) := by omega
      cases q with
      | false =>
        have h1' := hide (h1 rfl)
        clear h1 h2 hJ
        go_wp2
        go_roundw
        case rel => exact ⟨j + 1, by omega, by go_num, h1'⟩
        case measure => simp [intOf]; omega
      | true =>
        have h2' := hide (h2 rfl)
        clear h1 h2 hJ
        go_wp2_with (go_at_call 35; refine h2'.out.mono ?_; rintro e w2 ⟨rfl, hJ2⟩; have hJ3 := hide hJ2; clear hJ2)
        go_roundw
        case rel => exact ⟨j + 1, by omega, by go_num, hJ3⟩
        case measure => simp [intOf]; omega
    · obtain rfl : j = n := by omega
      go_wp2
      go_end0
      exact ⟨rfl, hJ.out⟩
end
end Go.Proofs.Ytjapfckadikjiaa
