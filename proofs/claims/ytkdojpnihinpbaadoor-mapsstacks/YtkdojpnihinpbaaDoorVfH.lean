/- The heads: free, parameters, headOf. -/
import Derived.Test.YtkdojpnihinpbaaDoorVfT
namespace Go.Proofs.YtkdojpnihinpbaaDoor
open Go.RowKit
section
variable {w : World} {B : Nat} {v : Value}
theorem all_take {α : Type} {l : List α} {p : α → Bool} {j : Nat} {x : α} (h : (l.take j).all p = true) (hx : l[j]? = some x) (hp : p x = true) : (l.take (j + 1)).all p = true := by
  rw [List.take_add_one, hx, Option.toList_some, List.all_append, h]
  simpa using hp
/-- An item of a list of numbers that lies. -/
theorem ints_at {l : List Int} {ao : Option Addr} (hel : ∀ (j : Nat) (x : Int), l[j]? = some x → ∃ g o cs, ao = some ⟨g, o, none⟩ ∧ g < B ∧ (∀ (r : Nat) (u : Value), cs[r]? = some u → w.cell? ⟨g, o + j * 1 + r, none⟩ = some u) ∧ IntP w cs x) {j : Nat} {x : Int} (hx : l[j]? = some x) : ∃ g o, ao = some ⟨g, o, none⟩ ∧ g < B ∧ w.cell? ⟨g, o + j, none⟩ = some (.int .i64 x) ∧ -9223372036854775808 ≤ x ∧ x ≤ 9223372036854775807 := by
  obtain ⟨g, o, cs, h1, h2, h3, rfl, h4⟩ := hel j x hx
  refine ⟨g, o, h1, h2, ?_, h4⟩
  have := h3 0 _ rfl
  rwa [Nat.mul_one, Nat.add_zero] at this
def AlR (p : Int → Bool) (ks : List Int) (w : World) (a : Value) (wr : World) : Prop := ∃ j : Nat, a = .int .i64 j ∧ j ≤ ks.length ∧ (ks.take j).all p = true ∧ wr = w
set_option maxHeartbeats 1000000 in
theorem free_any {ks : List Int} (n : Nat) (R : SlAt 1 IntP B w v ks) : Calls Tryd.prog 67 #[v, .int .i64 n] w fun e w' => e = .returned (.bool (ks.all (freeB n))) ∧ w' = w := by
  obtain ⟨ao, cap, rfl, hN, hel⟩ := R
  have HEL := hide hel
  have HN := hide hN
  clear hel hN
  go_enter Tryd.func67, Tryd.ntmps67
  go_wp2
  go_loopw [9] (fun a wr => AlR (freeB n) ks w a wr) (fun a _ => ks.length - (intOf a).toNat)
  case atStart => exact ⟨0, rfl, Nat.zero_le _, rfl, rfl⟩
  case round =>
    obtain ⟨j, rfl, hj, ht, rfl⟩ := hrel
    have HT := hide ht
    clear ht
    by_cases hlt : j < ks.length
    · obtain ⟨x, hx⟩ : ∃ x, ks[j]? = some x := ⟨ks[j], by simp [hlt]⟩
      obtain ⟨g, o, rfl, _, hc, hb⟩ := ints_at HEL.out hx
      have d1 : decide (j < ks.length) = true := by simpa using hlt
      have HX := hide hx
      have HBN := hide hb
      clear hx hb
      cases hkb : isKB n x with
      | false =>
        have HBAD := hide (show ks.all (freeB n) = false from all_bad HX.out (by unfold freeB; rw [hkb]; rfl))
        generalize ks.length = l at *
        go_wp2_with fail
        refine (isKind_any _ _ _ HBN.out).mono ?_
        rintro e w2 ⟨rfl, rfl⟩
        rw [hkb]
        go_wp2
        go_ret
        exact ⟨by rw [HBAD.out]; rfl, rfl⟩
      | true =>
        by_cases hx8 : x < 1048576
        · have d2 : decide (1048576 ≤ x) = false := by simpa using hx8
          have HNX := hide (all_take HT.out HX.out (show freeB n x = true by unfold freeB; rw [hkb]; simpa using hx8))
          generalize hl : ks.length = l at *
          have HL := hide hl
          clear hl
          go_wp2_with fail
          refine (isKind_any _ _ _ HBN.out).mono ?_
          rintro e w2 ⟨rfl, rfl⟩
          rw [hkb]
          go_wp2
          go_roundw
          case rel => exact ⟨j + 1, by first | exact num_next hlt HN.out.1 | go_num, by rw [HL.out]; exact hlt, HNX.out, rfl⟩
          case measure => first | exact meas_int hlt HN.out.1 | (rw [intOf_int, intOf_int]; omega)
        · have d2 : decide (1048576 ≤ x) = true := by simpa using hx8
          have HBAD := hide (show ks.all (freeB n) = false from all_bad HX.out (by unfold freeB; rw [hkb]; simpa using hx8))
          generalize ks.length = l at *
          go_wp2_with fail
          refine (isKind_any _ _ _ HBN.out).mono ?_
          rintro e w2 ⟨rfl, rfl⟩
          rw [hkb]
          go_wp2
          go_ret
          exact ⟨by rw [HBAD.out]; rfl, rfl⟩
    · obtain rfl : j = ks.length := by omega
      have d1 : decide (ks.length < ks.length) = false := by simp
      have HEQ := hide (show ks.all (freeB n) = true from by
        have := HT.out
        rwa [List.take_length] at this)
      generalize ks.length = l at *
      go_wp2
      go_ret
      exact ⟨by rw [HEQ.out]; rfl, rfl⟩
set_option maxHeartbeats 1000000 in
theorem headOf_any {f : Fd} {v1 v2 v3 v4 : Value} (n : Nat) (hB : B ≤ w.heap.size) (R1 : SlAt 1 IntP B w v1 f.lo) (R2 : SlAt 1 IntP B w v2 f.re) (R3 : SlAt 1 IntP B w v3 f.ar) (R4 : SlAt 3 InsP B w v4 f.co) : Calls Tryd.prog 68 #[.agg #[.int .i64 f.pa, v1, v2, v3, v4], .int .i64 n] w fun e w' => e = .returned (.bool (headB n f)) ∧ Below w.heap.size w w' := by
  obtain ⟨W1, hW1⟩ : ∃ W1, w.alloc (.cells #[.int .i64 f.pa, v1, v2, v3, v4] 50) = W1 := ⟨_, rfl⟩
  have BW := hide (show Below w.heap.size w W1 from hW1 ▸ (Below.refl _ _).alloc (Nat.le_refl _) _)
  have hk : ∀ j, j < B → W1.heap[j]? = w.heap[j]? := fun j hj => BW.out.block j (by omega)
  have hb1 : W1.heap[w.heap.size]? = some (.cells #[.int .i64 f.pa, v1, v2, v3, v4] 50 (0, 0)) := hW1 ▸ heap_new _ _ rfl
  have c1 : W1.cell? ⟨w.heap.size, 1, none⟩ = some v1 := cell_of hb1 rfl
  have c2 : W1.cell? ⟨w.heap.size, 2, none⟩ = some v2 := cell_of hb1 rfl
  have c3 : W1.cell? ⟨w.heap.size, 3, none⟩ = some v3 := cell_of hb1 rfl
  have c4 : W1.cell? ⟨w.heap.size, 4, none⟩ = some v4 := cell_of hb1 rfl
  have CF := hide (free_any n (ints_keep (Nat.le_refl _) hk R2))
  replace R1 := ints_keep (Nat.le_refl _) hk R1
  replace R3 := ints_keep (Nat.le_refl _) hk R3
  obtain ⟨a1, k1, rfl, hN1, hel1⟩ := R1
  obtain ⟨a3, k3, rfl, hN3, hel3⟩ := R3
  obtain ⟨a4, k4, rfl, hN4, hel4⟩ := R4
  have HE1 := hide hel1
  have HE3 := hide hel3
  have HN1 := hide hN1
  have HN3 := hide hN3
  clear hel1 hel3 hel4 hN1 hN3 hN4 hb1 hk R2
  have HB := hide hB
  clear hB
  obtain ⟨l1, hl1⟩ : ∃ l, f.lo.length = l := ⟨_, rfl⟩
  obtain ⟨l3, hl3⟩ : ∃ l, f.ar.length = l := ⟨_, rfl⟩
  obtain ⟨l4, hl4⟩ : ∃ l, f.co.length = l := ⟨_, rfl⟩
  have HHB := hide (show headB n f = (f.lo.all (isKB n) && f.ar.all (fun t => inB t n) && f.re.all (freeB n) && decide (0 < l4)) by rw [← hl4]; rfl)
  simp only [hl1, hl3, hl4] at c1 c3 c4 hW1 ⊢
  have HL1 := hide hl1
  have HL3 := hide hl3
  clear hl1 hl3 hl4
  go_enter Tryd.func68, Tryd.ntmps68
  go_wp2
  go_loopw [12] (fun a wr => AlR (isKB n) f.lo W1 a wr) (fun a _ => l1 - (intOf a).toNat)
  case atStart => exact ⟨0, rfl, Nat.zero_le _, rfl, rfl⟩
  case round =>
    clear hW1
    obtain ⟨j, rfl, hj, ht, rfl⟩ := hrel
    have HT := hide ht
    clear ht
    rw [HL1.out] at hj
    by_cases hlt : j < l1
    · obtain ⟨x, hx⟩ : ∃ x, f.lo[j]? = some x := ⟨f.lo[j]'(by rw [HL1.out]; exact hlt), by simp⟩
      obtain ⟨g, o, rfl, _, hc, hb⟩ := ints_at HE1.out hx
      have d1 : decide (j < l1) = true := by simpa using hlt
      have HX := hide hx
      have HBN := hide hb
      clear hx hb
      cases hkb : isKB n x with
      | false =>
        have HBAD := hide (show headB n f = false by rw [HHB.out, all_bad HX.out hkb]; rfl)
        go_wp2_with fail
        refine (isKind_any _ _ _ HBN.out).mono ?_
        rintro e w2 ⟨rfl, rfl⟩
        rw [hkb]
        go_wp2
        go_ret
        exact ⟨by rw [HBAD.out]; rfl, BW.out⟩
      | true =>
        have HNX := hide (all_next HX.out HT.out hkb)
        go_wp2_with fail
        refine (isKind_any _ _ _ HBN.out).mono ?_
        rintro e w2 ⟨rfl, rfl⟩
        rw [hkb]
        go_wp2
        go_roundw
        case rel => exact ⟨j + 1, by first | exact num_next hlt (HL1.out ▸ HN1.out.1) | go_num, by rw [HL1.out]; exact hlt, HNX.out, rfl⟩
        case measure => first | exact meas_int hlt (HL1.out ▸ HN1.out.1) | (rw [intOf_int, intOf_int]; omega)
    · obtain rfl : j = l1 := by omega
      have d1 : decide (j < j) = false := by simp
      have HA1 := hide (show f.lo.all (isKB n) = true by have := HT.out; rwa [← HL1.out, List.take_length] at this)
      go_wp2
      go_loopw [24] (fun a wr' => AlR (fun t => inB t n) f.ar wr a wr') (fun a _ => l3 - (intOf a).toNat)
      case atStart => exact ⟨0, rfl, Nat.zero_le _, rfl, rfl⟩
      case round =>
        obtain ⟨i, rfl, hi, ht, rfl⟩ := hrel
        have HT3 := hide ht
        clear ht
        rw [HL3.out] at hi
        by_cases hlt : i < l3
        · obtain ⟨x, hx⟩ : ∃ x, f.ar[i]? = some x := ⟨f.ar[i]'(by rw [HL3.out]; exact hlt), by simp⟩
          obtain ⟨g, o, rfl, _, hc, hb⟩ := ints_at HE3.out hx
          have d2 : decide (i < l3) = true := by simpa using hlt
          have HX := hide hx
          clear hx hb
          cases hkb : inB x n with
          | false =>
            have HBAD := hide (show headB n f = false by rw [HHB.out, all_bad (s := fun t => inB t n) HX.out hkb, Bool.and_false]; rfl)
            go_wp2_with fail
            refine (within_any _ _ _).mono ?_
            rintro e w2 ⟨rfl, rfl⟩
            rw [hkb]
            go_wp2
            go_ret
            exact ⟨by rw [HBAD.out]; rfl, BW.out⟩
          | true =>
            have HNX := hide (all_next (s := fun t => inB t n) HX.out HT3.out hkb)
            go_wp2_with fail
            refine (within_any _ _ _).mono ?_
            rintro e w2 ⟨rfl, rfl⟩
            rw [hkb]
            go_wp2
            go_roundw
            case rel => exact ⟨i + 1, by first | exact num_next hlt (HL3.out ▸ HN3.out.1) | go_num, by rw [HL3.out]; exact hlt, HNX.out, rfl⟩
            case measure => first | exact meas_int hlt (HL3.out ▸ HN3.out.1) | (rw [intOf_int, intOf_int]; omega)
        · obtain rfl : i = l3 := by omega
          have d2 : decide (i < i) = false := by simp
          have HA3 := hide (show f.ar.all (fun t => inB t n) = true by have := HT3.out; rwa [← HL3.out, List.take_length] at this)
          have HE := hide (show headB n f = (f.re.all (freeB n) && decide (0 < l4)) by rw [HHB.out, HA1.out, HA3.out]; rfl)
          go_wp2_with fail
          refine CF.out.mono ?_
          rintro e w2 ⟨rfl, rfl⟩
          cases hr : f.re.all (freeB n) with
          | false =>
            go_wp2
            go_ret
            exact ⟨by rw [HE.out, hr]; rfl, BW.out⟩
          | true =>
            go_wp2
            go_ret
            refine ⟨?_, BW.out⟩
            rw [HE.out, hr]
            simp [Array.getD]
end
end Go.Proofs.YtkdojpnihinpbaaDoor
