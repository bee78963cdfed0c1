/- The reader: bits. -/
import Derived.Test.YtnkdlbiicfnmcaaCdR0
namespace Go.Proofs.Ytnkdlbiicfnmcaa
open Go.RowKit
theorem and_127 : ∀ a : Fin 256, bits .and .u8 (a.val : Int) 127 = ((a.val % 128 : Nat) : Int) := by decide +kernel
theorem and_byte (b : UInt8) : bits .and .u8 (b.toNat : Int) 127 = ((b.toNat % 128 : Nat) : Int) := and_127 ⟨b.toNat, b.toNat_lt⟩
theorem sevens {j z bn : Nat} (hz : z < 128 ^ j) (hj : j ≤ 9) (hb : bn < 256) (h9 : j = 9 → bn ≤ 1) : bits .or .u64 (z : Int) (IntKind.u64.wrap ((bn : Int) % 128 * 2 ^ (7 * j))) = ((z + bn % 128 * 128 ^ j : Nat) : Int) := by
  have hp : (128 : Nat) ^ j = 2 ^ (7 * j) := by rw [Nat.pow_mul]
  have h98 : (128 : Nat) ^ 9 = 9223372036854775808 := by decide
  have hx : bn % 128 * 128 ^ j < 18446744073709551616 := by
    rcases Nat.lt_or_ge j 9 with h | h
    · have h1 : (128 : Nat) ^ (j + 1) ≤ 128 ^ 9 := Nat.pow_le_pow_right (by omega) (by omega)
      have h2 := pow_7 j
      have h3 : bn % 128 * 128 ^ j ≤ 127 * 128 ^ j := Nat.mul_le_mul_right _ (by omega)
      omega
    · obtain rfl : j = 9 := by omega
      have h3 : bn % 128 * 128 ^ 9 ≤ 1 * 128 ^ 9 := Nat.mul_le_mul_right _ (by have := h9 rfl; omega)
      omega
  have hz2 : z < 18446744073709551616 := by
    have h1 : (128 : Nat) ^ j ≤ 128 ^ 9 := Nat.pow_le_pow_right (by omega) hj
    omega
  have e1 : (bn : Int) % 128 * 2 ^ (7 * j) = ((bn % 128 * 128 ^ j : Nat) : Int) := by rw [hp]; push_cast; rfl
  have e2 : IntKind.u64.wrap ((bn % 128 * 128 ^ j : Nat) : Int) = ((bn % 128 * 128 ^ j : Nat) : Int) := by
    generalize bn % 128 * 128 ^ j = x at *
    have h1 : (x : Int) < 18446744073709551616 := by omega
    clear hx e1
    go_arith
  rw [e1, e2, bits_or_u64_nat _ _ hz2 hx, hp, Nat.mul_comm (bn % 128), Nat.or_comm, ← Nat.two_pow_add_eq_or_of_lt (by rw [← hp]; exact hz), Nat.add_comm]
theorem BytesAt.drop {B : Nat} {w : World} {l : By} {g o cap k : Nat} (R : BytesAt B w (.slice (some ⟨g, o, none⟩) l.length cap) l) (hk : k < l.length) : BytesAt B w (.slice (some ⟨g, o + (k + 1), none⟩) (l.length - (k + 1)) (cap - (k + 1))) (l.drop (k + 1)) := by
  obtain ⟨ao, c, h1, h2, h3, h4, h5, h6⟩ := R
  cases h1
  refine ⟨_, _, by rw [List.length_drop], by rw [List.length_drop]; omega, by omega, (by intro h; cases h), (fun _ _ => trivial), fun j b hb => ?_⟩
  rw [List.getElem?_drop] at hb
  obtain ⟨g', o', h7, h8, h9⟩ := h6 _ b hb
  cases h7
  exact ⟨g, o + (k + 1), rfl, h8, by rw [Nat.add_assoc]; exact h9⟩
theorem BytesAt.drop0 {B : Nat} {w : World} {l : By} {g o cap k : Nat} (R : BytesAt B w (.slice (some ⟨g, o, none⟩) l.length cap) l) (_hk : k < l.length) (hc : cap = k + 1) : BytesAt B w (.slice (some ⟨g, o, none⟩) (l.length - (k + 1)) 0) (l.drop (k + 1)) := by
  obtain ⟨ao, c, h1, h2, h3, h4, h5, h6⟩ := R
  cases h1
  have hn : l.drop (k + 1) = [] := List.drop_eq_nil_of_le (by omega)
  refine ⟨some ⟨g, o, none⟩, 0, by rw [hn, List.length_nil, Nat.sub_eq_zero_of_le (by omega)], by rw [hn]; simp, by decide, (by intro h; cases h), (fun _ _ => trivial), fun j b hb => ?_⟩
  rw [hn] at hb
  simp at hb
section
variable {B A : Nat} {w w' : World} {s : Rs}
/-- The loop by sevens. -/
def BitR (w : World) (l : By) (a i : Value) (wr : World) : Prop := ∃ (j z : Nat), i = .int .i64 j ∧ a = .int .u64 z ∧ j ≤ 9 ∧ j ≤ l.length ∧ z < 128 ^ j ∧ bitsR j z (l.drop j) = bitsR 0 0 l ∧ wr = w
set_option maxRecDepth 100000 in
set_option maxHeartbeats 2000000 in
theorem rbits_any (L : Rl B A w s) (hl : s.rest.length ≤ MB) : Calls Try.prog 72 #[.pointer (some ⟨A, 0, none⟩)] w fun e w' => e = .returned (.int .u64 ((bitsS s).1 : Nat)) ∧ Rl B A w' (bitsS s).2 ∧ Fr A w w' := by
  have HL := hide L
  have HFL := hide (rfail_any L)
  obtain ⟨h1, v, h2, h3⟩ := L
  have H3 := hide h3
  obtain ⟨ao, cap, rfl, hcap, hcm, hno, hsp, hel⟩ := h3
  have c0 : w.cell? ⟨A, 0, none⟩ = some (.slice ao s.rest.length cap) := cell_of h2 rfl
  have f0 : w.frozen? ⟨A, 0, none⟩ = false := by simp [World.frozen?, h2]
  have hlt := lt_of_block h2
  have HEL := hide hel
  have HCAP := hide hcap
  have HCM := hide hcm
  have bl : (s.rest.length : Int) ≤ 4194304 := by simp only [MB] at hl; omega
  have HB := hide (show bitsS s = match bitsR 0 0 s.rest with | some (z, r) => (z, ⟨r, s.bad⟩) | none => (0, failS) from rfl)
  clear h2 hel hcap hcm hno hsp hl h1
  go_enter Try.func72, Try.ntmps72
  go_wp2
  go_loopw [3, 11] (fun a i wr => BitR w s.rest a i wr) (fun _ i _ => s.rest.length - (intOf i).toNat)
  case atStart => exact ⟨0, 0, rfl, rfl, by omega, Nat.zero_le _, by decide, by simp, rfl⟩
  case round =>
    obtain ⟨j, z, rfl, rfl, hj9, hjl, hz, hbr, rfl⟩ := hrel
    have HBR := hide hbr
    have HZ := hide hz
    clear hbr hz
    by_cases hlt2 : j < s.rest.length
    · obtain ⟨b, hb⟩ : ∃ b, s.rest[j]? = some b := ⟨s.rest[j], by simp [hlt2]⟩
      obtain ⟨g, o, hao, hgB, hc⟩ := HEL.out j b hb
      subst hao
      have d1 : decide (j < s.rest.length) = true := by simpa using hlt2
      have HD := hide (show s.rest.drop j = b :: s.rest.drop (j + 1) by rw [List.drop_eq_getElem_cons hlt2]; rw [List.getElem?_eq_getElem hlt2, Option.some.injEq] at hb; rw [hb])
      have ha := and_byte b
      have hb8 := b.toNat_lt
      clear hb
      have hcase : (j = 9 ∧ 1 < b.toNat) ∨ (j ≠ 9 ∧ 0 < j ∧ b.toNat = 0) ∨ (j = 9 ∧ b.toNat = 0) ∨ (j = 0 ∧ b.toNat < 128) ∨ (j = 0 ∧ 128 ≤ b.toNat) ∨ (j ≠ 9 ∧ 0 < j ∧ b.toNat ≠ 0 ∧ b.toNat < 128) ∨ (j ≠ 9 ∧ 0 < j ∧ 128 ≤ b.toNat) ∨ (j = 9 ∧ b.toNat = 1) := by omega
      rcases hcase with hc0 | hc1 | hc2 | hc3 | hc4 | hc5 | hc6 | hc7
      · have e1 : decide (j = 9) = true := by simp; omega
        have e2 : ((j : Int) == 9) = true := by simp; omega
        have e3 : decide (1 < b.toNat) = true := by simp; omega
        have e4 : decide ((1 : Int) < (b.toNat : Int)) = true := by simp; omega
        have HNO := hide (show bitsR 0 0 s.rest = none by rw [← HBR.out, HD.out]; unfold bitsR; rw [if_pos (by omega)])
        clear hc0 hb8 ha
        generalize b.toNat = bn at *
        generalize hn : s.rest.length = n at *
        clear hn
        go_wp2_with fail
        refine HFL.out.mono ?_
        rintro e w2 ⟨rfl, L2, F2⟩
        have HL2 := hide L2
        have HF2 := hide F2
        clear L2 F2
        go_wp2
        go_ret
        rw [HB.out, HNO.out]
        exact ⟨rfl, HL2.out, HF2.out⟩
      · have e1 : decide (j = 9) = false := by simp; omega
        have e2 : ((j : Int) == 9) = false := by simp; omega
        have e5 : decide (0 < j) = true := by simp; omega
        have e6 : decide ((0 : Int) < (j : Int)) = true := by simp; omega
        have e7 : decide (b.toNat = 0) = true := by simp; omega
        have e8 : ((b.toNat : Int) == 0) = true := by simp; omega
        have HNO := hide (show bitsR 0 0 s.rest = none by rw [← HBR.out, HD.out]; unfold bitsR; rw [if_pos (by omega)])
        clear hc1 hb8 ha
        generalize b.toNat = bn at *
        generalize hn : s.rest.length = n at *
        clear hn
        go_wp2_with fail
        refine HFL.out.mono ?_
        rintro e w2 ⟨rfl, L2, F2⟩
        have HL2 := hide L2
        have HF2 := hide F2
        clear L2 F2
        go_wp2
        go_ret
        rw [HB.out, HNO.out]
        exact ⟨rfl, HL2.out, HF2.out⟩
      · have e1 : decide (j = 9) = true := by simp; omega
        have e2 : ((j : Int) == 9) = true := by simp; omega
        have e3 : decide (1 < b.toNat) = false := by simp; omega
        have e4 : decide ((1 : Int) < (b.toNat : Int)) = false := by simp; omega
        have e5 : decide (0 < j) = true := by simp; omega
        have e6 : decide ((0 : Int) < (j : Int)) = true := by simp; omega
        have e7 : decide (b.toNat = 0) = true := by simp; omega
        have e8 : ((b.toNat : Int) == 0) = true := by simp; omega
        have HNO := hide (show bitsR 0 0 s.rest = none by rw [← HBR.out, HD.out]; unfold bitsR; rw [if_pos (by omega)])
        clear hc2 hb8 ha
        generalize b.toNat = bn at *
        generalize hn : s.rest.length = n at *
        clear hn
        go_wp2_with fail
        refine HFL.out.mono ?_
        rintro e w2 ⟨rfl, L2, F2⟩
        have HL2 := hide L2
        have HF2 := hide F2
        clear L2 F2
        go_wp2
        go_ret
        rw [HB.out, HNO.out]
        exact ⟨rfl, HL2.out, HF2.out⟩
      · have e1 : decide (j = 9) = false := by simp; omega
        have e2 : ((j : Int) == 9) = false := by simp; omega
        have e5 : decide (0 < j) = false := by simp; omega
        have e6 : decide ((0 : Int) < (j : Int)) = false := by simp; omega
        have e9 : decide (b.toNat < 128) = true := by simp; omega
        have e10 : decide ((b.toNat : Int) < 128) = true := by simp; omega
        have hj8 : j ≤ 9 := by omega
        have hb2 : j = 9 → b.toNat ≤ 1 := by omega
        have HOR := hide (sevens HZ.out hj8 hb8 hb2)
        have H128 := hide (show b.toNat < 128 by omega)
        have HBD := hide (show ¬ ((j = 9 ∧ 1 < b.toNat) ∨ (0 < j ∧ b.toNat = 0)) by omega)
        have HE := hide (show bitsS s = (z + b.toNat % 128 * 128 ^ j, ⟨s.rest.drop (j + 1), s.bad⟩) by
          rw [HB.out, ← HBR.out, HD.out]; unfold bitsR; rw [if_neg HBD.out, if_pos H128.out])
        have HV1 := hide (BytesAt.drop H3.out hlt2)
        have HV2 := hide (BytesAt.drop0 H3.out hlt2)
        clear hc3 hb8 hb2
        generalize hbn : b.toNat = bn at *
        clear hbn
        generalize hn : s.rest.length = n at *
        have HNl := hide hn
        clear hn
        go_wp2_with fail
        · go_ret
          rw [HE.out]
          have := HL.out.set (s' := ⟨s.rest.drop (j + 1), s.bad⟩) (HV2.out (by have := HCAP.out; omega)) rfl
          exact ⟨congrArg (fun x => Ending.returned (Value.int .u64 x)) HOR.out, this.1, this.2⟩
        · go_ret
          rw [HE.out]
          have := HL.out.set (s' := ⟨s.rest.drop (j + 1), s.bad⟩) HV1.out rfl
          exact ⟨congrArg (fun x => Ending.returned (Value.int .u64 x)) HOR.out, this.1, this.2⟩
      · have e1 : decide (j = 9) = false := by simp; omega
        have e2 : ((j : Int) == 9) = false := by simp; omega
        have e5 : decide (0 < j) = false := by simp; omega
        have e6 : decide ((0 : Int) < (j : Int)) = false := by simp; omega
        have e9 : decide (b.toNat < 128) = false := by simp; omega
        have e10 : decide ((b.toNat : Int) < 128) = false := by simp; omega
        have hj8 : j ≤ 9 := by omega
        have hb2 : j = 9 → b.toNat ≤ 1 := by omega
        have HOR := hide (sevens HZ.out hj8 hb8 hb2)
        have H128 := hide (show ¬ b.toNat < 128 by omega)
        have HBD := hide (show ¬ ((j = 9 ∧ 1 < b.toNat) ∨ (0 < j ∧ b.toNat = 0)) by omega)
        have HE := hide (show bitsR (j + 1) (z + b.toNat % 128 * 128 ^ j) (s.rest.drop (j + 1)) = bitsR 0 0 s.rest by
          rw [← HBR.out, HD.out]; conv => rhs; unfold bitsR; rw [if_neg HBD.out, if_neg H128.out])
        have HZ2 := hide (show z + b.toNat % 128 * 128 ^ j < 128 ^ (j + 1) by
          have h1 := HZ.out
          have h2 := pow_7 j
          have h3 : b.toNat % 128 * 128 ^ j ≤ 127 * 128 ^ j := Nat.mul_le_mul_right _ (by omega)
          omega)
        have HJ := hide (show j + 1 ≤ 9 by omega)
        clear hc4 hb8 hb2
        generalize hbn : b.toNat = bn at *
        clear hbn
        generalize hn : s.rest.length = n at *
        have HNl := hide hn
        clear hn
        go_wp2
        go_roundw
        case rel => exact ⟨j + 1, _, by go_num, congrArg (Value.int .u64) HOR.out, HJ.out, by rw [HNl.out]; exact hlt2, HZ2.out, HE.out, rfl⟩
        case measure => first | (rw [intOf_int, intOf_int]; omega) | (simp [intOf]; omega) | (simp [intOf])
      · have e1 : decide (j = 9) = false := by simp; omega
        have e2 : ((j : Int) == 9) = false := by simp; omega
        have e5 : decide (0 < j) = true := by simp; omega
        have e6 : decide ((0 : Int) < (j : Int)) = true := by simp; omega
        have e7 : decide (b.toNat = 0) = false := by simp; omega
        have e8 : ((b.toNat : Int) == 0) = false := by simp; omega
        have e9 : decide (b.toNat < 128) = true := by simp; omega
        have e10 : decide ((b.toNat : Int) < 128) = true := by simp; omega
        have hj8 : j ≤ 9 := by omega
        have hb2 : j = 9 → b.toNat ≤ 1 := by omega
        have HOR := hide (sevens HZ.out hj8 hb8 hb2)
        have H128 := hide (show b.toNat < 128 by omega)
        have HBD := hide (show ¬ ((j = 9 ∧ 1 < b.toNat) ∨ (0 < j ∧ b.toNat = 0)) by omega)
        have HE := hide (show bitsS s = (z + b.toNat % 128 * 128 ^ j, ⟨s.rest.drop (j + 1), s.bad⟩) by
          rw [HB.out, ← HBR.out, HD.out]; unfold bitsR; rw [if_neg HBD.out, if_pos H128.out])
        have HV1 := hide (BytesAt.drop H3.out hlt2)
        have HV2 := hide (BytesAt.drop0 H3.out hlt2)
        clear hc5 hb8 hb2
        generalize hbn : b.toNat = bn at *
        clear hbn
        generalize hn : s.rest.length = n at *
        have HNl := hide hn
        clear hn
        go_wp2_with fail
        · go_ret
          rw [HE.out]
          have := HL.out.set (s' := ⟨s.rest.drop (j + 1), s.bad⟩) (HV2.out (by have := HCAP.out; omega)) rfl
          exact ⟨congrArg (fun x => Ending.returned (Value.int .u64 x)) HOR.out, this.1, this.2⟩
        · go_ret
          rw [HE.out]
          have := HL.out.set (s' := ⟨s.rest.drop (j + 1), s.bad⟩) HV1.out rfl
          exact ⟨congrArg (fun x => Ending.returned (Value.int .u64 x)) HOR.out, this.1, this.2⟩
      · have e1 : decide (j = 9) = false := by simp; omega
        have e2 : ((j : Int) == 9) = false := by simp; omega
        have e5 : decide (0 < j) = true := by simp; omega
        have e6 : decide ((0 : Int) < (j : Int)) = true := by simp; omega
        have e7 : decide (b.toNat = 0) = false := by simp; omega
        have e8 : ((b.toNat : Int) == 0) = false := by simp; omega
        have e9 : decide (b.toNat < 128) = false := by simp; omega
        have e10 : decide ((b.toNat : Int) < 128) = false := by simp; omega
        have hj8 : j ≤ 9 := by omega
        have hb2 : j = 9 → b.toNat ≤ 1 := by omega
        have HOR := hide (sevens HZ.out hj8 hb8 hb2)
        have H128 := hide (show ¬ b.toNat < 128 by omega)
        have HBD := hide (show ¬ ((j = 9 ∧ 1 < b.toNat) ∨ (0 < j ∧ b.toNat = 0)) by omega)
        have HE := hide (show bitsR (j + 1) (z + b.toNat % 128 * 128 ^ j) (s.rest.drop (j + 1)) = bitsR 0 0 s.rest by
          rw [← HBR.out, HD.out]; conv => rhs; unfold bitsR; rw [if_neg HBD.out, if_neg H128.out])
        have HZ2 := hide (show z + b.toNat % 128 * 128 ^ j < 128 ^ (j + 1) by
          have h1 := HZ.out
          have h2 := pow_7 j
          have h3 : b.toNat % 128 * 128 ^ j ≤ 127 * 128 ^ j := Nat.mul_le_mul_right _ (by omega)
          omega)
        have HJ := hide (show j + 1 ≤ 9 by omega)
        clear hc6 hb8 hb2
        generalize hbn : b.toNat = bn at *
        clear hbn
        generalize hn : s.rest.length = n at *
        have HNl := hide hn
        clear hn
        go_wp2
        go_roundw
        case rel => exact ⟨j + 1, _, by go_num, congrArg (Value.int .u64) HOR.out, HJ.out, by rw [HNl.out]; exact hlt2, HZ2.out, HE.out, rfl⟩
        case measure => first | (rw [intOf_int, intOf_int]; omega) | (simp [intOf]; omega) | (simp [intOf])
      · have e1 : decide (j = 9) = true := by simp; omega
        have e2 : ((j : Int) == 9) = true := by simp; omega
        have e3 : decide (1 < b.toNat) = false := by simp; omega
        have e4 : decide ((1 : Int) < (b.toNat : Int)) = false := by simp; omega
        have e5 : decide (0 < j) = true := by simp; omega
        have e6 : decide ((0 : Int) < (j : Int)) = true := by simp; omega
        have e7 : decide (b.toNat = 0) = false := by simp; omega
        have e8 : ((b.toNat : Int) == 0) = false := by simp; omega
        have e9 : decide (b.toNat < 128) = true := by simp; omega
        have e10 : decide ((b.toNat : Int) < 128) = true := by simp; omega
        have hj8 : j ≤ 9 := by omega
        have hb2 : j = 9 → b.toNat ≤ 1 := by omega
        have HOR := hide (sevens HZ.out hj8 hb8 hb2)
        have H128 := hide (show b.toNat < 128 by omega)
        have HBD := hide (show ¬ ((j = 9 ∧ 1 < b.toNat) ∨ (0 < j ∧ b.toNat = 0)) by omega)
        have HE := hide (show bitsS s = (z + b.toNat % 128 * 128 ^ j, ⟨s.rest.drop (j + 1), s.bad⟩) by
          rw [HB.out, ← HBR.out, HD.out]; unfold bitsR; rw [if_neg HBD.out, if_pos H128.out])
        have HV1 := hide (BytesAt.drop H3.out hlt2)
        have HV2 := hide (BytesAt.drop0 H3.out hlt2)
        clear hc7 hb8 hb2
        generalize hbn : b.toNat = bn at *
        clear hbn
        generalize hn : s.rest.length = n at *
        have HNl := hide hn
        clear hn
        go_wp2_with fail
        · go_ret
          rw [HE.out]
          have := HL.out.set (s' := ⟨s.rest.drop (j + 1), s.bad⟩) (HV2.out (by have := HCAP.out; omega)) rfl
          exact ⟨congrArg (fun x => Ending.returned (Value.int .u64 x)) HOR.out, this.1, this.2⟩
        · go_ret
          rw [HE.out]
          have := HL.out.set (s' := ⟨s.rest.drop (j + 1), s.bad⟩) HV1.out rfl
          exact ⟨congrArg (fun x => Ending.returned (Value.int .u64 x)) HOR.out, this.1, this.2⟩
    · obtain rfl : j = s.rest.length := by omega
      have d1 : decide (s.rest.length < s.rest.length) = false := by simp
      have HNO := hide (show bitsR 0 0 s.rest = none by rw [← HBR.out, List.drop_length]; rfl)
      generalize hn : s.rest.length = n at *
      clear hn
      go_wp2_with fail
      refine HFL.out.mono ?_
      rintro e w2 ⟨rfl, L2, F2⟩
      have HL2 := hide L2
      have HF2 := hide F2
      clear L2 F2
      go_wp2
      go_ret
      rw [HB.out, HNO.out]
      exact ⟨rfl, HL2.out, HF2.out⟩
end
end Go.Proofs.Ytnkdlbiicfnmcaa
