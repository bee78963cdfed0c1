/- each: something is done for all of a set, rising. -/
import Derived.Test.YtaejhppfcmeopaaLvB
import Derived.Test.YtaejhppfcmeopaaLvS
namespace Go.Proofs.Ytaejhppfcmeopaa
open Go.RowKit
abbrev pp (b : Nat) : Value := .pointer (some ⟨b, 0, none⟩)
theorem run_index (m : Nat) (w : World) {j : Nat} (h : j < 8) : (Instr.index 64 (.agg #[.int .u64 (wd m 0), .int .u64 (wd m 1), .int .u64 (wd m 2), .int .u64 (wd m 3), .int .u64 (wd m 4), .int .u64 (wd m 5), .int .u64 (wd m 6), .int .u64 (wd m 7)]) (.int .i64 j)).run Try.prog w = .ok (.int .u64 (wd m j)) w := by
  match j, h with
  | 0, _ => rfl | 1, _ => rfl | 2, _ => rfl | 3, _ => rfl | 4, _ => rfl | 5, _ => rfl | 6, _ => rfl | 7, _ => rfl
theorem bitLenAux_lt : ∀ (f x : Nat), x < 2 ^ f → x < 2 ^ Lib.bitLenAux f x
  | 0, x, h => by simpa [Lib.bitLenAux] using h
  | f + 1, x, h => by
    unfold Lib.bitLenAux
    split
    · omega
    · have h2 := bitLenAux_lt f (x / 2) (by rw [Nat.pow_succ] at h; omega)
      rw [Nat.add_comm, Nat.pow_succ]
      omega
theorem bitLen_lt {x : Nat} (h : x < 18446744073709551616) : x < 2 ^ Lib.bitLen x := bitLenAux_lt 64 x h
theorem bits_above {m j b : Nat} (h : Lib.bitLen (wd m j) ≤ b) (hb : b < 64) : m.testBit (64 * j + b) = false := by
  have h1 : (wd m j).testBit b = false := Nat.testBit_lt_two_pow (Nat.lt_of_lt_of_le (bitLen_lt (wd_lt m j)) (Nat.pow_le_pow_right (by decide) h))
  rw [wd_bit, decide_eq_true hb, Bool.true_and] at h1
  exact h1
theorem bit_fact {x m j b : Nat} (hx : x = wd m j) (hb : b < 64) : (bits .and .u64 ((x : Int) / 2 ^ b) 1 != 0) = m.testBit (64 * j + b) := by
  have h := has_fact (x := x) m (64 * j + b) (by rw [hx]; congr 1; omega)
  rwa [show (64 * j + b) % 64 = b by omega] at h
theorem skip_to {J : Nat → World → Prop} {m : Nat} (hk : ∀ x w, m.testBit x = false → J x w → J (x + 1) w) {j : Nat} {w : World} : ∀ (n b : Nat), b + n = 64 → (∀ c, b ≤ c → c < 64 → m.testBit (64 * j + c) = false) → J (64 * j + b) w → J (64 * j + 64) w
  | 0, b, h, _, hj => by rw [show b = 64 by omega] at hj; exact hj
  | n + 1, b, h, hz, hj => skip_to hk n (b + 1) (by omega) (fun c h1 h2 => hz c (by omega) h2) (hk _ _ (hz b (Nat.le_refl _) (by omega)) hj)
set_option maxHeartbeats 2000000 in
theorem each_need {m : Nat} {p1 p2 p3 p4 p5 : Nat} {J : Nat → World → Prop} (w : World) (h0 : J 0 (w.alloc (.cells (wc m) 64)))
    (hs : ∀ x w', x < 512 → m.testBit x = true → J x w' → Calls Try.prog 49 #[.int .i64 x, pp p1, pp p2, pp p3, pp p4, pp p5] w' fun e w'' => (∃ v, e = .returned v) ∧ J (x + 1) w'')
    (hk : ∀ x w', m.testBit x = false → J x w' → J (x + 1) w') :
    Calls Try.prog 37 #[setV m, .func (.func 49) #[] #[pp p1, pp p2, pp p3, pp p4, pp p5]] w fun e w' => (∃ v, e = .returned v) ∧ J 512 w' := by
  obtain ⟨a0, a1, a2, a3, a4, a5, a6, a7⟩ := (BoxS.new w m).all
  have H0 := hide h0
  have HK := hide hk
  have HS := hide hs
  clear h0 hk hs
  go_enter Try.func37, Try.ntmps37
  go_wp2
  clear a0 a1 a2 a3 a4 a5 a6 a7
  go_loopw [4, 5, 6, 8] (fun _ _ _ i wr => ∃ j : Nat, j ≤ 8 ∧ i = .int .i64 j ∧ Hid (J (64 * j) wr)) (fun _ _ _ i _ => 8 - (intOf i).toNat)
  case atStart => exact ⟨0, Nat.zero_le _, rfl, H0.out⟩
  case round =>
    obtain ⟨j, hj, rfl, HJ⟩ := hrel
    by_cases hlt : j < 8
    · have hgj := run_index m wr hlt
      have b1 : (j : Int) < 8 := by omega
      have xl : wd m j < 18446744073709551616 := wd_lt m j
      have xl2 : (wd m j : Int) ≤ 18446744073709551615 := by omega
      have hcall := Try.bits_Len64 (wd m j : Int) wr (by omega) xl2
      rw [Int.toNat_natCast] at hcall
      have HL : Hid (Lib.bitLen (wd m j) ≤ 64) := Lib.bitLen_le _ 64 (by omega) (by omega)
      clear xl xl2
      obtain ⟨x, hx⟩ : ∃ x, x = wd m j := ⟨_, rfl⟩
      have HX := hide hx
      rw [← hx] at hcall HL
      rw [← hx] at hgj
      clear hx
      generalize hL : Lib.bitLen x = L at *
      have HLX := hide hL
      clear hL
      have hL64 : L ≤ 64 := HL.out
      go_wp2_with (go_at_call 52; refine hcall.mono ?_; rintro e w2 ⟨rfl, rfl⟩)
      go_loopw [6, 14] (fun _ i wq => ∃ b : Nat, b ≤ L ∧ i = .int .i64 b ∧ Hid (J (64 * j + b) wq)) (fun _ i _ => L - (intOf i).toNat)
      case atStart => exact ⟨0, Nat.zero_le _, rfl, HJ.out⟩
      case round =>
        obtain ⟨b, hb, rfl, HB⟩ := hrel
        by_cases hbl : b < L
        · have hb64 : b < 64 := by omega
          have hbi : (b : Int) < (L : Int) := by omega
          have hbi2 : (b : Int) < 64 := by omega
          have hf := bit_fact HX.out hb64
          cases ht : m.testBit (64 * j + b) with
          | true =>
            rw [ht] at hf
            have hc := HS.out (64 * j + b) wr (by omega) ht HB.out
            have ec : ((64 * j + b : Nat) : Int) = (j : Int) * 64 + (b : Int) := by omega
            rw [ec] at hc
            clear ec ht
            go_wp2_with (go_at_call 49; refine hc.mono ?_; rintro e w3 ⟨⟨v, rfl⟩, hj3⟩)
            go_roundw
            case rel => exact ⟨b + 1, by omega, by go_num, hj3⟩
            case measure => simp [intOf]; omega
          | false =>
            rw [ht] at hf
            have hn := hide (HK.out _ _ ht HB.out)
            clear ht
            go_wp2
            go_roundw
            case rel => exact ⟨b + 1, by omega, by go_num, hn.out⟩
            case measure => simp [intOf]; omega
        · obtain rfl : b = L := by omega
          have hn := hide (skip_to HK.out (64 - b) b (by omega) (fun c h1 h2 => bits_above (by rw [← HX.out, HLX.out]; exact h1) h2) HB.out)
          go_wp2
          go_roundw
          case rel => exact ⟨j + 1, by omega, by go_num, by have := hn.out; rwa [show 64 * j + 64 = 64 * (j + 1) by omega] at this⟩
          case measure => simp [intOf]; omega
    · obtain rfl : j = 8 := by omega
      have hn := hide HJ.out
      go_wp2
      go_returns
      exact ⟨⟨_, rfl⟩, hn.out⟩
set_option maxHeartbeats 2000000 in
theorem each_in {m : Nat} {p1 p2 : Nat} {J : Nat → World → Prop} (w : World) (h0 : J 0 (w.alloc (.cells (wc m) 64)))
    (hs : ∀ x w', x < 512 → m.testBit x = true → J x w' → Calls Try.prog 38 #[.int .i64 x, pp p1, pp p2] w' fun e w'' => (∃ v, e = .returned v) ∧ J (x + 1) w'')
    (hk : ∀ x w', m.testBit x = false → J x w' → J (x + 1) w') :
    Calls Try.prog 37 #[setV m, .func (.func 38) #[] #[pp p1, pp p2]] w fun e w' => (∃ v, e = .returned v) ∧ J 512 w' := by
  obtain ⟨a0, a1, a2, a3, a4, a5, a6, a7⟩ := (BoxS.new w m).all
  have H0 := hide h0
  have HK := hide hk
  have HS := hide hs
  clear h0 hk hs
  go_enter Try.func37, Try.ntmps37
  go_wp2
  clear a0 a1 a2 a3 a4 a5 a6 a7
  go_loopw [4, 5, 6, 8] (fun _ _ _ i wr => ∃ j : Nat, j ≤ 8 ∧ i = .int .i64 j ∧ Hid (J (64 * j) wr)) (fun _ _ _ i _ => 8 - (intOf i).toNat)
  case atStart => exact ⟨0, Nat.zero_le _, rfl, H0.out⟩
  case round =>
    obtain ⟨j, hj, rfl, HJ⟩ := hrel
    by_cases hlt : j < 8
    · have hgj := run_index m wr hlt
      have b1 : (j : Int) < 8 := by omega
      have xl : wd m j < 18446744073709551616 := wd_lt m j
      have xl2 : (wd m j : Int) ≤ 18446744073709551615 := by omega
      have hcall := Try.bits_Len64 (wd m j : Int) wr (by omega) xl2
      rw [Int.toNat_natCast] at hcall
      have HL : Hid (Lib.bitLen (wd m j) ≤ 64) := Lib.bitLen_le _ 64 (by omega) (by omega)
      clear xl xl2
      obtain ⟨x, hx⟩ : ∃ x, x = wd m j := ⟨_, rfl⟩
      have HX := hide hx
      rw [← hx] at hcall HL
      rw [← hx] at hgj
      clear hx
      generalize hL : Lib.bitLen x = L at *
      have HLX := hide hL
      clear hL
      have hL64 : L ≤ 64 := HL.out
      go_wp2_with (go_at_call 52; refine hcall.mono ?_; rintro e w2 ⟨rfl, rfl⟩)
      go_loopw [6, 14] (fun _ i wq => ∃ b : Nat, b ≤ L ∧ i = .int .i64 b ∧ Hid (J (64 * j + b) wq)) (fun _ i _ => L - (intOf i).toNat)
      case atStart => exact ⟨0, Nat.zero_le _, rfl, HJ.out⟩
      case round =>
        obtain ⟨b, hb, rfl, HB⟩ := hrel
        by_cases hbl : b < L
        · have hb64 : b < 64 := by omega
          have hbi : (b : Int) < (L : Int) := by omega
          have hbi2 : (b : Int) < 64 := by omega
          have hf := bit_fact HX.out hb64
          cases ht : m.testBit (64 * j + b) with
          | true =>
            rw [ht] at hf
            have hc := HS.out (64 * j + b) wr (by omega) ht HB.out
            have ec : ((64 * j + b : Nat) : Int) = (j : Int) * 64 + (b : Int) := by omega
            rw [ec] at hc
            clear ec ht
            go_wp2_with (go_at_call 38; refine hc.mono ?_; rintro e w3 ⟨⟨v, rfl⟩, hj3⟩)
            go_roundw
            case rel => exact ⟨b + 1, by omega, by go_num, hj3⟩
            case measure => simp [intOf]; omega
          | false =>
            rw [ht] at hf
            have hn := hide (HK.out _ _ ht HB.out)
            clear ht
            go_wp2
            go_roundw
            case rel => exact ⟨b + 1, by omega, by go_num, hn.out⟩
            case measure => simp [intOf]; omega
        · obtain rfl : b = L := by omega
          have hn := hide (skip_to HK.out (64 - b) b (by omega) (fun c h1 h2 => bits_above (by rw [← HX.out, HLX.out]; exact h1) h2) HB.out)
          go_wp2
          go_roundw
          case rel => exact ⟨j + 1, by omega, by go_num, by have := hn.out; rwa [show 64 * j + 64 = 64 * (j + 1) by omega] at this⟩
          case measure => simp [intOf]; omega
    · obtain rfl : j = 8 := by omega
      have hn := hide HJ.out
      go_wp2
      go_returns
      exact ⟨⟨_, rfl⟩, hn.out⟩
set_option maxHeartbeats 2000000 in
theorem each_out {m : Nat} {p1 p2 : Nat} {J : Nat → World → Prop} (w : World) (h0 : J 0 (w.alloc (.cells (wc m) 64)))
    (hs : ∀ x w', x < 512 → m.testBit x = true → J x w' → Calls Try.prog 39 #[.int .i64 x, pp p1, pp p2] w' fun e w'' => (∃ v, e = .returned v) ∧ J (x + 1) w'')
    (hk : ∀ x w', m.testBit x = false → J x w' → J (x + 1) w') :
    Calls Try.prog 37 #[setV m, .func (.func 39) #[] #[pp p1, pp p2]] w fun e w' => (∃ v, e = .returned v) ∧ J 512 w' := by
  obtain ⟨a0, a1, a2, a3, a4, a5, a6, a7⟩ := (BoxS.new w m).all
  have H0 := hide h0
  have HK := hide hk
  have HS := hide hs
  clear h0 hk hs
  go_enter Try.func37, Try.ntmps37
  go_wp2
  clear a0 a1 a2 a3 a4 a5 a6 a7
  go_loopw [4, 5, 6, 8] (fun _ _ _ i wr => ∃ j : Nat, j ≤ 8 ∧ i = .int .i64 j ∧ Hid (J (64 * j) wr)) (fun _ _ _ i _ => 8 - (intOf i).toNat)
  case atStart => exact ⟨0, Nat.zero_le _, rfl, H0.out⟩
  case round =>
    obtain ⟨j, hj, rfl, HJ⟩ := hrel
    by_cases hlt : j < 8
    · have hgj := run_index m wr hlt
      have b1 : (j : Int) < 8 := by omega
      have xl : wd m j < 18446744073709551616 := wd_lt m j
      have xl2 : (wd m j : Int) ≤ 18446744073709551615 := by omega
      have hcall := Try.bits_Len64 (wd m j : Int) wr (by omega) xl2
      rw [Int.toNat_natCast] at hcall
      have HL : Hid (Lib.bitLen (wd m j) ≤ 64) := Lib.bitLen_le _ 64 (by omega) (by omega)
      clear xl xl2
      obtain ⟨x, hx⟩ : ∃ x, x = wd m j := ⟨_, rfl⟩
      have HX := hide hx
      rw [← hx] at hcall HL
      rw [← hx] at hgj
      clear hx
      generalize hL : Lib.bitLen x = L at *
      have HLX := hide hL
      clear hL
      have hL64 : L ≤ 64 := HL.out
      go_wp2_with (go_at_call 52; refine hcall.mono ?_; rintro e w2 ⟨rfl, rfl⟩)
      go_loopw [6, 14] (fun _ i wq => ∃ b : Nat, b ≤ L ∧ i = .int .i64 b ∧ Hid (J (64 * j + b) wq)) (fun _ i _ => L - (intOf i).toNat)
      case atStart => exact ⟨0, Nat.zero_le _, rfl, HJ.out⟩
      case round =>
        obtain ⟨b, hb, rfl, HB⟩ := hrel
        by_cases hbl : b < L
        · have hb64 : b < 64 := by omega
          have hbi : (b : Int) < (L : Int) := by omega
          have hbi2 : (b : Int) < 64 := by omega
          have hf := bit_fact HX.out hb64
          cases ht : m.testBit (64 * j + b) with
          | true =>
            rw [ht] at hf
            have hc := HS.out (64 * j + b) wr (by omega) ht HB.out
            have ec : ((64 * j + b : Nat) : Int) = (j : Int) * 64 + (b : Int) := by omega
            rw [ec] at hc
            clear ec ht
            go_wp2_with (go_at_call 39; refine hc.mono ?_; rintro e w3 ⟨⟨v, rfl⟩, hj3⟩)
            go_roundw
            case rel => exact ⟨b + 1, by omega, by go_num, hj3⟩
            case measure => simp [intOf]; omega
          | false =>
            rw [ht] at hf
            have hn := hide (HK.out _ _ ht HB.out)
            clear ht
            go_wp2
            go_roundw
            case rel => exact ⟨b + 1, by omega, by go_num, hn.out⟩
            case measure => simp [intOf]; omega
        · obtain rfl : b = L := by omega
          have hn := hide (skip_to HK.out (64 - b) b (by omega) (fun c h1 h2 => bits_above (by rw [← HX.out, HLX.out]; exact h1) h2) HB.out)
          go_wp2
          go_roundw
          case rel => exact ⟨j + 1, by omega, by go_num, by have := hn.out; rwa [show 64 * j + 64 = 64 * (j + 1) by omega] at this⟩
          case measure => simp [intOf]; omega
    · obtain rfl : j = 8 := by omega
      have hn := hide HJ.out
      go_wp2
      go_returns
      exact ⟨⟨_, rfl⟩, hn.out⟩
set_option maxHeartbeats 2000000 in
theorem each_around {m : Nat} {p1 p2 p3 : Nat} {J : Nat → World → Prop} (w : World) (h0 : J 0 (w.alloc (.cells (wc m) 64)))
    (hs : ∀ x w', x < 512 → m.testBit x = true → J x w' → Calls Try.prog 54 #[.int .i64 x, pp p1, pp p2, pp p3] w' fun e w'' => (∃ v, e = .returned v) ∧ J (x + 1) w'')
    (hk : ∀ x w', m.testBit x = false → J x w' → J (x + 1) w') :
    Calls Try.prog 37 #[setV m, .func (.func 54) #[] #[pp p1, pp p2, pp p3]] w fun e w' => (∃ v, e = .returned v) ∧ J 512 w' := by
  obtain ⟨a0, a1, a2, a3, a4, a5, a6, a7⟩ := (BoxS.new w m).all
  have H0 := hide h0
  have HK := hide hk
  have HS := hide hs
  clear h0 hk hs
  go_enter Try.func37, Try.ntmps37
  go_wp2
  clear a0 a1 a2 a3 a4 a5 a6 a7
  go_loopw [4, 5, 6, 8] (fun _ _ _ i wr => ∃ j : Nat, j ≤ 8 ∧ i = .int .i64 j ∧ Hid (J (64 * j) wr)) (fun _ _ _ i _ => 8 - (intOf i).toNat)
  case atStart => exact ⟨0, Nat.zero_le _, rfl, H0.out⟩
  case round =>
    obtain ⟨j, hj, rfl, HJ⟩ := hrel
    by_cases hlt : j < 8
    · have hgj := run_index m wr hlt
      have b1 : (j : Int) < 8 := by omega
      have xl : wd m j < 18446744073709551616 := wd_lt m j
      have xl2 : (wd m j : Int) ≤ 18446744073709551615 := by omega
      have hcall := Try.bits_Len64 (wd m j : Int) wr (by omega) xl2
      rw [Int.toNat_natCast] at hcall
      have HL : Hid (Lib.bitLen (wd m j) ≤ 64) := Lib.bitLen_le _ 64 (by omega) (by omega)
      clear xl xl2
      obtain ⟨x, hx⟩ : ∃ x, x = wd m j := ⟨_, rfl⟩
      have HX := hide hx
      rw [← hx] at hcall HL
      rw [← hx] at hgj
      clear hx
      generalize hL : Lib.bitLen x = L at *
      have HLX := hide hL
      clear hL
      have hL64 : L ≤ 64 := HL.out
      go_wp2_with (go_at_call 52; refine hcall.mono ?_; rintro e w2 ⟨rfl, rfl⟩)
      go_loopw [6, 14] (fun _ i wq => ∃ b : Nat, b ≤ L ∧ i = .int .i64 b ∧ Hid (J (64 * j + b) wq)) (fun _ i _ => L - (intOf i).toNat)
      case atStart => exact ⟨0, Nat.zero_le _, rfl, HJ.out⟩
      case round =>
        obtain ⟨b, hb, rfl, HB⟩ := hrel
        by_cases hbl : b < L
        · have hb64 : b < 64 := by omega
          have hbi : (b : Int) < (L : Int) := by omega
          have hbi2 : (b : Int) < 64 := by omega
          have hf := bit_fact HX.out hb64
          cases ht : m.testBit (64 * j + b) with
          | true =>
            rw [ht] at hf
            have hc := HS.out (64 * j + b) wr (by omega) ht HB.out
            have ec : ((64 * j + b : Nat) : Int) = (j : Int) * 64 + (b : Int) := by omega
            rw [ec] at hc
            clear ec ht
            go_wp2_with (go_at_call 54; refine hc.mono ?_; rintro e w3 ⟨⟨v, rfl⟩, hj3⟩)
            go_roundw
            case rel => exact ⟨b + 1, by omega, by go_num, hj3⟩
            case measure => simp [intOf]; omega
          | false =>
            rw [ht] at hf
            have hn := hide (HK.out _ _ ht HB.out)
            clear ht
            go_wp2
            go_roundw
            case rel => exact ⟨b + 1, by omega, by go_num, hn.out⟩
            case measure => simp [intOf]; omega
        · obtain rfl : b = L := by omega
          have hn := hide (skip_to HK.out (64 - b) b (by omega) (fun c h1 h2 => bits_above (by rw [← HX.out, HLX.out]; exact h1) h2) HB.out)
          go_wp2
          go_roundw
          case rel => exact ⟨j + 1, by omega, by go_num, by have := hn.out; rwa [show 64 * j + 64 = 64 * (j + 1) by omega] at this⟩
          case measure => simp [intOf]; omega
    · obtain rfl : j = 8 := by omega
      have hn := hide HJ.out
      go_wp2
      go_returns
      exact ⟨⟨_, rfl⟩, hn.out⟩
end Go.Proofs.Ytaejhppfcmeopaa
