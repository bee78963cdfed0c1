/- The document's reader: num. -/
import Derived.Test.YtnkdlbiicfnmcaaCdR2
namespace Go.Proofs.Ytnkdlbiicfnmcaa
open Go.RowKit
/-- The document's reader. -/
def Rd (B A : Nat) (w : World) (s : Rs) : Prop := B ≤ A ∧ ∃ v, w.heap[A]? = some (.cells #[v, .bool s.bad] 74 (0, 0)) ∧ BytesAt B w v s.rest
/-- It answers as the program's reader does, or both come to a fault. -/
def Agn {α : Type} (it : Rs → α × Rs) (s : Rs) (x : α) (s' : Rs) : Prop := (s'.bad = false ∧ s.bad = false ∧ it s = (x, s')) ∨ (s'.bad = true ∧ s'.rest.length ≤ s.rest.length ∧ (s.bad = true ∨ (it s).2 = failS))
theorem addsevens {j z bn : Nat} (hz : z < 128 ^ j) (hj : j ≤ 9) (hb : bn < 256) (h9 : j = 9 → bn ≤ 1) : IntKind.u64.wrap ((z : Int) + IntKind.u64.wrap ((bn : Int) % 128 * 2 ^ (7 * j))) = ((z + bn % 128 * 128 ^ j : Nat) : Int) ∧ z + bn % 128 * 128 ^ j < 18446744073709551616 := by
  have hp : (128 : Nat) ^ j = 2 ^ (7 * j) := by rw [Nat.pow_mul]
  have h98 : (128 : Nat) ^ 9 = 9223372036854775808 := by decide
  have hx : z + bn % 128 * 128 ^ j < 18446744073709551616 := by
    rcases Nat.lt_or_ge j 9 with h | h
    · have h1 : (128 : Nat) ^ (j + 1) ≤ 128 ^ 9 := Nat.pow_le_pow_right (by omega) (by omega)
      have h2 := pow_7 j
      have h3 : bn % 128 * 128 ^ j ≤ 127 * 128 ^ j := Nat.mul_le_mul_right _ (by omega)
      omega
    · obtain rfl : j = 9 := by omega
      have h3 : bn % 128 * 128 ^ 9 ≤ 1 * 128 ^ 9 := Nat.mul_le_mul_right _ (by have := h9 rfl; omega)
      omega
  refine ⟨?_, hx⟩
  have e1 : (bn : Int) % 128 * 2 ^ (7 * j) = ((bn % 128 * 128 ^ j : Nat) : Int) := by rw [hp]; push_cast; rfl
  rw [e1]
  generalize bn % 128 * 128 ^ j = x at *
  have h1 : (x : Int) < 18446744073709551616 := by omega
  have h2 : (z : Int) + (x : Int) < 18446744073709551616 := by omega
  clear hx e1 hz hj hb h9 hp h98
  go_arith
def In64' (n : Int) : Prop := -9223372036854775808 ≤ n ∧ n ≤ 9223372036854775807
section
variable {B A : Nat} {w w' : World} {s : Rs}
theorem Rd.lt (L : Rd B A w s) : A < w.heap.size := by obtain ⟨_, v, h, _⟩ := L; exact lt_of_block h
theorem Rd.keep (L : Rd B A w s) (h : ∀ j, j < B → w'.heap[j]? = w.heap[j]?) (hA : w'.heap[A]? = w.heap[A]?) : Rd B A w' s := by
  obtain ⟨h1, v, h2, h3⟩ := L
  exact ⟨h1, v, hA.trans h2, h3.keep h⟩
/-- The reader is set anew. -/
theorem Rd.set2 (L : Rd B A w s) {v : Value} {s' : Rs} (hv : BytesAt B w v s'.rest) : Rd B A ((w.setCell ⟨A, 1, none⟩ (.bool s'.bad)).setCell ⟨A, 0, none⟩ v) s' ∧ Fr A w ((w.setCell ⟨A, 1, none⟩ (.bool s'.bad)).setCell ⟨A, 0, none⟩ v) := by
  obtain ⟨h1, v0, h2, h3⟩ := L
  have e1 := heap_setCell_same w A 1 (.bool s'.bad) h2
  have e2 := heap_setCell_same _ A 0 v e1
  have hk : ∀ j, j ≠ A → ((w.setCell ⟨A, 1, none⟩ (.bool s'.bad)).setCell ⟨A, 0, none⟩ v).heap[j]? = w.heap[j]? := fun j hj => by rw [Below.heap_setCell _ _ _ j hj, Below.heap_setCell _ _ _ j hj]
  exact ⟨⟨h1, v, by simpa using e2, hv.keep fun j hj => hk j (by omega)⟩, ⟨rfl, rfl, rfl, by simp, fun j _ hj => hk j hj⟩⟩
theorem Rd.set1 (L : Rd B A w s) (b : Bool) : Rd B A (w.setCell ⟨A, 1, none⟩ (.bool b)) ⟨s.rest, b⟩ ∧ Fr A w (w.setCell ⟨A, 1, none⟩ (.bool b)) := by
  obtain ⟨h1, v0, h2, h3⟩ := L
  have e1 := heap_setCell_same w A 1 (.bool b) h2
  have hk : ∀ j, j ≠ A → (w.setCell ⟨A, 1, none⟩ (.bool b)).heap[j]? = w.heap[j]? := fun j hj => Below.heap_setCell _ _ _ j hj
  exact ⟨⟨h1, v0, by simpa using e1, h3.keep fun j hj => hk j (by omega)⟩, ⟨rfl, rfl, rfl, by simp, fun j _ hj => hk j hj⟩⟩
def NmR (w : World) (l : By) (a i : Value) (wr : World) : Prop := ∃ (j z : Nat), i = .int .i64 j ∧ a = .int .u64 z ∧ j ≤ 9 ∧ j ≤ l.length ∧ z < 128 ^ j ∧ bitsR j z (l.drop j) = bitsR 0 0 l ∧ wr = w
/-- What num answers. -/
def DnO (B A : Nat) (w : World) (s : Rs) (e : Ending) (w' : World) : Prop := ∃ x s', e = .returned (.int .i64 x) ∧ Rd B A w' s' ∧ Agn numR s x s' ∧ Fr A w w' ∧ In64' x
set_option maxRecDepth 100000 in
set_option maxHeartbeats 2000000 in
theorem dnum_any (L : Rd B A w s) (hl : s.rest.length ≤ MB) : Calls Try.prog 31 #[.pointer (some ⟨A, 0, none⟩)] w fun e w' => DnO B A w s e w' := by
  have HL := hide L
  obtain ⟨h1, v, h2, h3⟩ := L
  have H3 := hide h3
  obtain ⟨ao, cap, rfl, hcap, hcm, hno, hsp, hel⟩ := h3
  have c0 : w.cell? ⟨A, 0, none⟩ = some (.slice ao s.rest.length cap) := cell_of h2 rfl
  have c1 : w.cell? ⟨A, 1, none⟩ = some (.bool s.bad) := cell_of h2 rfl
  have f0 : w.frozen? ⟨A, 0, none⟩ = false := by simp [World.frozen?, h2]
  have f1 : w.frozen? ⟨A, 1, none⟩ = false := by simp [World.frozen?, h2]
  have hlt := lt_of_block h2
  have HEL := hide hel
  have HCAP := hide hcap
  have bl : (s.rest.length : Int) ≤ 4194304 := by simp only [MB] at hl; omega
  have HNO := hide (show bitsR 0 0 s.rest = none → (numR s).2 = failS from fun h => by simp only [numR, bitsS, h])
  have HYE := hide (show ∀ z r, bitsR 0 0 s.rest = some (z, r) → numR s = (unzig z, ⟨r, s.bad⟩) from fun z r h => by simp only [numR, bitsS, h])
  clear h2 hel hcap hcm hno hsp hl h1
  cases hbad : s.bad with
  | true =>
    rw [hbad] at c1
    have HB := hide hbad
    have HS := hide (HL.out.set1 true)
    clear hbad
    generalize s.rest.length = n at *
    go_enter Try.func31, Try.ntmps31
    go_wp2
    go_loopw [3, 4] (fun a i wr => NmR w s.rest a i wr) (fun _ i _ => 100 - (intOf i).toNat)
    case atStart => exact ⟨0, 0, rfl, rfl, by omega, Nat.zero_le _, by decide, by simp, rfl⟩
    case round =>
      obtain ⟨j, z, rfl, rfl, hj9, hjl, hz, hbr, rfl⟩ := hrel
      clear hjl hz hbr
      go_wp2
      go_ret
      exact ⟨0, _, rfl, HS.out.1, .inr ⟨rfl, Nat.le_refl _, .inl HB.out⟩, HS.out.2, by unfold In64'; omega⟩
  | false =>
    rw [hbad] at c1
    have HB := hide hbad
    clear hbad
    go_enter Try.func31, Try.ntmps31
    go_wp2
    go_loopw [3, 4] (fun a i wr => NmR w s.rest a i wr) (fun _ i _ => 100 - (intOf i).toNat)
    case atStart => exact ⟨0, 0, rfl, rfl, by omega, Nat.zero_le _, by decide, by simp, rfl⟩
    case round =>
      obtain ⟨j, z, rfl, rfl, hj9, hjl, hz, hbr, rfl⟩ := hrel
      have HBR := hide hbr
      have HZ := hide hz
      clear hbr hz
      have w10 : ((j : Int) == 10) = false := by simp; omega
      by_cases hlt2 : j < s.rest.length
      · obtain ⟨b, hb⟩ : ∃ b, s.rest[j]? = some b := ⟨s.rest[j], by simp [hlt2]⟩
        obtain ⟨g, o, hao, hgB, hc⟩ := HEL.out j b hb
        subst hao
        have d1 : decide (s.rest.length ≤ j) = false := by simp; omega
        have d2 : decide ((s.rest.length : Int) ≤ (j : Int)) = false := by simp; omega
        have HD := hide (show s.rest.drop j = b :: s.rest.drop (j + 1) by rw [List.drop_eq_getElem_cons hlt2]; rw [List.getElem?_eq_getElem hlt2, Option.some.injEq] at hb; rw [hb])
        have hb8 := b.toNat_lt
        clear hb
        have hcase : (j = 9 ∧ 1 < b.toNat) ∨ (j = 9 ∧ b.toNat = 0) ∨ (j ≠ 9 ∧ 0 < j ∧ b.toNat = 0) ∨ (j = 0 ∧ b.toNat = 0) ∨ (j = 0 ∧ b.toNat ≠ 0 ∧ b.toNat < 128) ∨ (j ≠ 9 ∧ 0 < j ∧ b.toNat ≠ 0 ∧ b.toNat < 128) ∨ (j = 9 ∧ b.toNat = 1) ∨ (j ≠ 9 ∧ 128 ≤ b.toNat) := by omega
        rcases hcase with hc0 | hc1 | hc2 | hc3 | hc4 | hc5 | hc6 | hc7
        · have e1 : ((j : Int) == 9) = true := by simp; omega
          have e2 : decide ((1 : Int) < (b.toNat : Int)) = true := by simp; omega
          have e2' : decide (1 < b.toNat) = true := by simp; omega
          have HNN := hide (HNO.out (by rw [← HBR.out, HD.out]; unfold bitsR; rw [if_pos (by omega)]))
          have HS := hide (HL.out.set1 true)
          clear hc0 hb8
          generalize b.toNat = bn at *
          generalize hn : s.rest.length = n at *
          clear hn
          go_wp2
          go_ret
          exact ⟨0, _, rfl, HS.out.1, .inr ⟨rfl, Nat.le_refl _, .inr HNN.out⟩, HS.out.2, by unfold In64'; omega⟩
        · have e1 : ((j : Int) == 9) = true := by simp; omega
          have e2 : decide ((1 : Int) < (b.toNat : Int)) = false := by simp; omega
          have e2' : decide (1 < b.toNat) = false := by simp; omega
          have e3 : ((b.toNat : Int) == 0) = true := by simp; omega
          have e4 : decide ((1 : Int) < (j : Int) + 1) = true := by simp; omega
          have e4' : decide (0 < j) = true := by simp; omega
          have e5 : decide ((b.toNat : Int) < 128) = true := by simp; omega
          have e5' : decide (b.toNat < 128) = true := by simp; omega
          have hb2 : j = 9 → b.toNat ≤ 1 := by omega
          obtain ⟨hor, hzz⟩ := addsevens HZ.out hj9 hb8 hb2
          have HX := hide (HNO.out (by rw [← HBR.out, HD.out]; unfold bitsR; rw [if_pos (by omega)]))
          have HV1 := hide (BytesAt.drop H3.out hlt2)
          have HV2 := hide (BytesAt.drop0 H3.out hlt2)
          have HS := hide (show ∀ v, BytesAt B _ v (s.rest.drop (j + 1)) → _ from fun v hv => HL.out.set2 (s' := ⟨s.rest.drop (j + 1), true⟩) hv)
          clear hc1 hb8 hb2
          generalize hzn : z + b.toNat % 128 * 128 ^ j = zz at *
          generalize b.toNat = bn at *
          generalize hn : s.rest.length = n at *
          clear hn hzn
          have HIN := hide (unzig_in hzz)
          have HUZ := hide (show unzig zz = if zz % 2 = 1 then -1 - ((zz / 2 : Nat) : Int) else ((zz / 2 : Nat) : Int) from rfl)
          by_cases hpar : zz % 2 = 1
          · have p1 : (zz : Int) % 2 = 1 := by omega
            rw [if_pos hpar] at HUZ
            have HPAR := hide hpar
            clear hpar
            go_wp2
            all_goals go_ret
            · refine ⟨unzig zz, ⟨s.rest.drop (j + 1), true⟩, ?_, (HS.out _ (HV2.out (by have := HCAP.out; omega))).1, ?_, (HS.out _ (HV2.out (by have := HCAP.out; omega))).2, HIN.out⟩
              · exact congrArg (fun x => Ending.returned (Value.int .i64 x)) (by rw [HUZ.out]; first | omega | go_arith)
              · exact .inr ⟨rfl, (by show (s.rest.drop (j + 1)).length ≤ s.rest.length; rw [List.length_drop]; omega), .inr HX.out⟩
            · refine ⟨unzig zz, ⟨s.rest.drop (j + 1), true⟩, ?_, (HS.out _ HV1.out).1, ?_, (HS.out _ HV1.out).2, HIN.out⟩
              · exact congrArg (fun x => Ending.returned (Value.int .i64 x)) (by rw [HUZ.out]; first | omega | go_arith)
              · exact .inr ⟨rfl, (by show (s.rest.drop (j + 1)).length ≤ s.rest.length; rw [List.length_drop]; omega), .inr HX.out⟩
          · have p1 : (zz : Int) % 2 = 0 := by omega
            rw [if_neg hpar] at HUZ
            have HPAR := hide hpar
            clear hpar
            go_wp2
            all_goals go_ret
            · refine ⟨unzig zz, ⟨s.rest.drop (j + 1), true⟩, ?_, (HS.out _ (HV2.out (by have := HCAP.out; omega))).1, ?_, (HS.out _ (HV2.out (by have := HCAP.out; omega))).2, HIN.out⟩
              · exact congrArg (fun x => Ending.returned (Value.int .i64 x)) (by rw [HUZ.out]; first | omega | go_arith)
              · exact .inr ⟨rfl, (by show (s.rest.drop (j + 1)).length ≤ s.rest.length; rw [List.length_drop]; omega), .inr HX.out⟩
            · refine ⟨unzig zz, ⟨s.rest.drop (j + 1), true⟩, ?_, (HS.out _ HV1.out).1, ?_, (HS.out _ HV1.out).2, HIN.out⟩
              · exact congrArg (fun x => Ending.returned (Value.int .i64 x)) (by rw [HUZ.out]; first | omega | go_arith)
              · exact .inr ⟨rfl, (by show (s.rest.drop (j + 1)).length ≤ s.rest.length; rw [List.length_drop]; omega), .inr HX.out⟩
        · have e1 : ((j : Int) == 9) = false := by simp; omega
          have e3 : ((b.toNat : Int) == 0) = true := by simp; omega
          have e4 : decide ((1 : Int) < (j : Int) + 1) = true := by simp; omega
          have e4' : decide (0 < j) = true := by simp; omega
          have e5 : decide ((b.toNat : Int) < 128) = true := by simp; omega
          have e5' : decide (b.toNat < 128) = true := by simp; omega
          have hb2 : j = 9 → b.toNat ≤ 1 := by omega
          obtain ⟨hor, hzz⟩ := addsevens HZ.out hj9 hb8 hb2
          have HX := hide (HNO.out (by rw [← HBR.out, HD.out]; unfold bitsR; rw [if_pos (by omega)]))
          have HV1 := hide (BytesAt.drop H3.out hlt2)
          have HV2 := hide (BytesAt.drop0 H3.out hlt2)
          have HS := hide (show ∀ v, BytesAt B _ v (s.rest.drop (j + 1)) → _ from fun v hv => HL.out.set2 (s' := ⟨s.rest.drop (j + 1), true⟩) hv)
          clear hc2 hb8 hb2
          generalize hzn : z + b.toNat % 128 * 128 ^ j = zz at *
          generalize b.toNat = bn at *
          generalize hn : s.rest.length = n at *
          clear hn hzn
          have HIN := hide (unzig_in hzz)
          have HUZ := hide (show unzig zz = if zz % 2 = 1 then -1 - ((zz / 2 : Nat) : Int) else ((zz / 2 : Nat) : Int) from rfl)
          by_cases hpar : zz % 2 = 1
          · have p1 : (zz : Int) % 2 = 1 := by omega
            rw [if_pos hpar] at HUZ
            have HPAR := hide hpar
            clear hpar
            go_wp2
            all_goals go_ret
            · refine ⟨unzig zz, ⟨s.rest.drop (j + 1), true⟩, ?_, (HS.out _ (HV2.out (by have := HCAP.out; omega))).1, ?_, (HS.out _ (HV2.out (by have := HCAP.out; omega))).2, HIN.out⟩
              · exact congrArg (fun x => Ending.returned (Value.int .i64 x)) (by rw [HUZ.out]; first | omega | go_arith)
              · exact .inr ⟨rfl, (by show (s.rest.drop (j + 1)).length ≤ s.rest.length; rw [List.length_drop]; omega), .inr HX.out⟩
            · refine ⟨unzig zz, ⟨s.rest.drop (j + 1), true⟩, ?_, (HS.out _ HV1.out).1, ?_, (HS.out _ HV1.out).2, HIN.out⟩
              · exact congrArg (fun x => Ending.returned (Value.int .i64 x)) (by rw [HUZ.out]; first | omega | go_arith)
              · exact .inr ⟨rfl, (by show (s.rest.drop (j + 1)).length ≤ s.rest.length; rw [List.length_drop]; omega), .inr HX.out⟩
          · have p1 : (zz : Int) % 2 = 0 := by omega
            rw [if_neg hpar] at HUZ
            have HPAR := hide hpar
            clear hpar
            go_wp2
            all_goals go_ret
            · refine ⟨unzig zz, ⟨s.rest.drop (j + 1), true⟩, ?_, (HS.out _ (HV2.out (by have := HCAP.out; omega))).1, ?_, (HS.out _ (HV2.out (by have := HCAP.out; omega))).2, HIN.out⟩
              · exact congrArg (fun x => Ending.returned (Value.int .i64 x)) (by rw [HUZ.out]; first | omega | go_arith)
              · exact .inr ⟨rfl, (by show (s.rest.drop (j + 1)).length ≤ s.rest.length; rw [List.length_drop]; omega), .inr HX.out⟩
            · refine ⟨unzig zz, ⟨s.rest.drop (j + 1), true⟩, ?_, (HS.out _ HV1.out).1, ?_, (HS.out _ HV1.out).2, HIN.out⟩
              · exact congrArg (fun x => Ending.returned (Value.int .i64 x)) (by rw [HUZ.out]; first | omega | go_arith)
              · exact .inr ⟨rfl, (by show (s.rest.drop (j + 1)).length ≤ s.rest.length; rw [List.length_drop]; omega), .inr HX.out⟩
        · have e1 : ((j : Int) == 9) = false := by simp; omega
          have e3 : ((b.toNat : Int) == 0) = true := by simp; omega
          have e4 : decide ((1 : Int) < (j : Int) + 1) = false := by simp; omega
          have e4' : decide (0 < j) = false := by simp; omega
          have e5 : decide ((b.toNat : Int) < 128) = true := by simp; omega
          have e5' : decide (b.toNat < 128) = true := by simp; omega
          have hb2 : j = 9 → b.toNat ≤ 1 := by omega
          obtain ⟨hor, hzz⟩ := addsevens HZ.out hj9 hb8 hb2
          have HX := hide (HYE.out _ _ (by rw [← HBR.out, HD.out]; unfold bitsR; rw [if_neg (by omega), if_pos (by omega)]))
          have HV1 := hide (BytesAt.drop H3.out hlt2)
          have HV2 := hide (BytesAt.drop0 H3.out hlt2)
          have HS := hide (show ∀ v, BytesAt B _ v (s.rest.drop (j + 1)) → _ from fun v hv => HL.out.set2 (s' := ⟨s.rest.drop (j + 1), false⟩) hv)
          clear hc3 hb8 hb2
          generalize hzn : z + b.toNat % 128 * 128 ^ j = zz at *
          generalize b.toNat = bn at *
          generalize hn : s.rest.length = n at *
          clear hn hzn
          have HIN := hide (unzig_in hzz)
          have HUZ := hide (show unzig zz = if zz % 2 = 1 then -1 - ((zz / 2 : Nat) : Int) else ((zz / 2 : Nat) : Int) from rfl)
          by_cases hpar : zz % 2 = 1
          · have p1 : (zz : Int) % 2 = 1 := by omega
            rw [if_pos hpar] at HUZ
            have HPAR := hide hpar
            clear hpar
            go_wp2
            all_goals go_ret
            · refine ⟨unzig zz, ⟨s.rest.drop (j + 1), false⟩, ?_, (HS.out _ (HV2.out (by have := HCAP.out; omega))).1, ?_, (HS.out _ (HV2.out (by have := HCAP.out; omega))).2, HIN.out⟩
              · exact congrArg (fun x => Ending.returned (Value.int .i64 x)) (by rw [HUZ.out]; first | omega | go_arith)
              · exact .inl ⟨rfl, HB.out, by rw [HX.out, HB.out]⟩
            · refine ⟨unzig zz, ⟨s.rest.drop (j + 1), false⟩, ?_, (HS.out _ HV1.out).1, ?_, (HS.out _ HV1.out).2, HIN.out⟩
              · exact congrArg (fun x => Ending.returned (Value.int .i64 x)) (by rw [HUZ.out]; first | omega | go_arith)
              · exact .inl ⟨rfl, HB.out, by rw [HX.out, HB.out]⟩
          · have p1 : (zz : Int) % 2 = 0 := by omega
            rw [if_neg hpar] at HUZ
            have HPAR := hide hpar
            clear hpar
            go_wp2
            all_goals go_ret
            · refine ⟨unzig zz, ⟨s.rest.drop (j + 1), false⟩, ?_, (HS.out _ (HV2.out (by have := HCAP.out; omega))).1, ?_, (HS.out _ (HV2.out (by have := HCAP.out; omega))).2, HIN.out⟩
              · exact congrArg (fun x => Ending.returned (Value.int .i64 x)) (by rw [HUZ.out]; first | omega | go_arith)
              · exact .inl ⟨rfl, HB.out, by rw [HX.out, HB.out]⟩
            · refine ⟨unzig zz, ⟨s.rest.drop (j + 1), false⟩, ?_, (HS.out _ HV1.out).1, ?_, (HS.out _ HV1.out).2, HIN.out⟩
              · exact congrArg (fun x => Ending.returned (Value.int .i64 x)) (by rw [HUZ.out]; first | omega | go_arith)
              · exact .inl ⟨rfl, HB.out, by rw [HX.out, HB.out]⟩
        · have e1 : ((j : Int) == 9) = false := by simp; omega
          have e3 : ((b.toNat : Int) == 0) = false := by simp; omega
          have e5 : decide ((b.toNat : Int) < 128) = true := by simp; omega
          have e5' : decide (b.toNat < 128) = true := by simp; omega
          have hb2 : j = 9 → b.toNat ≤ 1 := by omega
          obtain ⟨hor, hzz⟩ := addsevens HZ.out hj9 hb8 hb2
          have HX := hide (HYE.out _ _ (by rw [← HBR.out, HD.out]; unfold bitsR; rw [if_neg (by omega), if_pos (by omega)]))
          have HV1 := hide (BytesAt.drop H3.out hlt2)
          have HV2 := hide (BytesAt.drop0 H3.out hlt2)
          have HS := hide (show ∀ v, BytesAt B _ v (s.rest.drop (j + 1)) → _ from fun v hv => HL.out.set2 (s' := ⟨s.rest.drop (j + 1), false⟩) hv)
          clear hc4 hb8 hb2
          generalize hzn : z + b.toNat % 128 * 128 ^ j = zz at *
          generalize b.toNat = bn at *
          generalize hn : s.rest.length = n at *
          clear hn hzn
          have HIN := hide (unzig_in hzz)
          have HUZ := hide (show unzig zz = if zz % 2 = 1 then -1 - ((zz / 2 : Nat) : Int) else ((zz / 2 : Nat) : Int) from rfl)
          by_cases hpar : zz % 2 = 1
          · have p1 : (zz : Int) % 2 = 1 := by omega
            rw [if_pos hpar] at HUZ
            have HPAR := hide hpar
            clear hpar
            go_wp2
            all_goals go_ret
            · refine ⟨unzig zz, ⟨s.rest.drop (j + 1), false⟩, ?_, (HS.out _ (HV2.out (by have := HCAP.out; omega))).1, ?_, (HS.out _ (HV2.out (by have := HCAP.out; omega))).2, HIN.out⟩
              · exact congrArg (fun x => Ending.returned (Value.int .i64 x)) (by rw [HUZ.out]; first | omega | go_arith)
              · exact .inl ⟨rfl, HB.out, by rw [HX.out, HB.out]⟩
            · refine ⟨unzig zz, ⟨s.rest.drop (j + 1), false⟩, ?_, (HS.out _ HV1.out).1, ?_, (HS.out _ HV1.out).2, HIN.out⟩
              · exact congrArg (fun x => Ending.returned (Value.int .i64 x)) (by rw [HUZ.out]; first | omega | go_arith)
              · exact .inl ⟨rfl, HB.out, by rw [HX.out, HB.out]⟩
          · have p1 : (zz : Int) % 2 = 0 := by omega
            rw [if_neg hpar] at HUZ
            have HPAR := hide hpar
            clear hpar
            go_wp2
            all_goals go_ret
            · refine ⟨unzig zz, ⟨s.rest.drop (j + 1), false⟩, ?_, (HS.out _ (HV2.out (by have := HCAP.out; omega))).1, ?_, (HS.out _ (HV2.out (by have := HCAP.out; omega))).2, HIN.out⟩
              · exact congrArg (fun x => Ending.returned (Value.int .i64 x)) (by rw [HUZ.out]; first | omega | go_arith)
              · exact .inl ⟨rfl, HB.out, by rw [HX.out, HB.out]⟩
            · refine ⟨unzig zz, ⟨s.rest.drop (j + 1), false⟩, ?_, (HS.out _ HV1.out).1, ?_, (HS.out _ HV1.out).2, HIN.out⟩
              · exact congrArg (fun x => Ending.returned (Value.int .i64 x)) (by rw [HUZ.out]; first | omega | go_arith)
              · exact .inl ⟨rfl, HB.out, by rw [HX.out, HB.out]⟩
        · have e1 : ((j : Int) == 9) = false := by simp; omega
          have e3 : ((b.toNat : Int) == 0) = false := by simp; omega
          have e5 : decide ((b.toNat : Int) < 128) = true := by simp; omega
          have e5' : decide (b.toNat < 128) = true := by simp; omega
          have hb2 : j = 9 → b.toNat ≤ 1 := by omega
          obtain ⟨hor, hzz⟩ := addsevens HZ.out hj9 hb8 hb2
          have HX := hide (HYE.out _ _ (by rw [← HBR.out, HD.out]; unfold bitsR; rw [if_neg (by omega), if_pos (by omega)]))
          have HV1 := hide (BytesAt.drop H3.out hlt2)
          have HV2 := hide (BytesAt.drop0 H3.out hlt2)
          have HS := hide (show ∀ v, BytesAt B _ v (s.rest.drop (j + 1)) → _ from fun v hv => HL.out.set2 (s' := ⟨s.rest.drop (j + 1), false⟩) hv)
          clear hc5 hb8 hb2
          generalize hzn : z + b.toNat % 128 * 128 ^ j = zz at *
          generalize b.toNat = bn at *
          generalize hn : s.rest.length = n at *
          clear hn hzn
          have HIN := hide (unzig_in hzz)
          have HUZ := hide (show unzig zz = if zz % 2 = 1 then -1 - ((zz / 2 : Nat) : Int) else ((zz / 2 : Nat) : Int) from rfl)
          by_cases hpar : zz % 2 = 1
          · have p1 : (zz : Int) % 2 = 1 := by omega
            rw [if_pos hpar] at HUZ
            have HPAR := hide hpar
            clear hpar
            go_wp2
            all_goals go_ret
            · refine ⟨unzig zz, ⟨s.rest.drop (j + 1), false⟩, ?_, (HS.out _ (HV2.out (by have := HCAP.out; omega))).1, ?_, (HS.out _ (HV2.out (by have := HCAP.out; omega))).2, HIN.out⟩
              · exact congrArg (fun x => Ending.returned (Value.int .i64 x)) (by rw [HUZ.out]; first | omega | go_arith)
              · exact .inl ⟨rfl, HB.out, by rw [HX.out, HB.out]⟩
            · refine ⟨unzig zz, ⟨s.rest.drop (j + 1), false⟩, ?_, (HS.out _ HV1.out).1, ?_, (HS.out _ HV1.out).2, HIN.out⟩
              · exact congrArg (fun x => Ending.returned (Value.int .i64 x)) (by rw [HUZ.out]; first | omega | go_arith)
              · exact .inl ⟨rfl, HB.out, by rw [HX.out, HB.out]⟩
          · have p1 : (zz : Int) % 2 = 0 := by omega
            rw [if_neg hpar] at HUZ
            have HPAR := hide hpar
            clear hpar
            go_wp2
            all_goals go_ret
            · refine ⟨unzig zz, ⟨s.rest.drop (j + 1), false⟩, ?_, (HS.out _ (HV2.out (by have := HCAP.out; omega))).1, ?_, (HS.out _ (HV2.out (by have := HCAP.out; omega))).2, HIN.out⟩
              · exact congrArg (fun x => Ending.returned (Value.int .i64 x)) (by rw [HUZ.out]; first | omega | go_arith)
              · exact .inl ⟨rfl, HB.out, by rw [HX.out, HB.out]⟩
            · refine ⟨unzig zz, ⟨s.rest.drop (j + 1), false⟩, ?_, (HS.out _ HV1.out).1, ?_, (HS.out _ HV1.out).2, HIN.out⟩
              · exact congrArg (fun x => Ending.returned (Value.int .i64 x)) (by rw [HUZ.out]; first | omega | go_arith)
              · exact .inl ⟨rfl, HB.out, by rw [HX.out, HB.out]⟩
        · have e1 : ((j : Int) == 9) = true := by simp; omega
          have e2 : decide ((1 : Int) < (b.toNat : Int)) = false := by simp; omega
          have e2' : decide (1 < b.toNat) = false := by simp; omega
          have e3 : ((b.toNat : Int) == 0) = false := by simp; omega
          have e5 : decide ((b.toNat : Int) < 128) = true := by simp; omega
          have e5' : decide (b.toNat < 128) = true := by simp; omega
          have hb2 : j = 9 → b.toNat ≤ 1 := by omega
          obtain ⟨hor, hzz⟩ := addsevens HZ.out hj9 hb8 hb2
          have HX := hide (HYE.out _ _ (by rw [← HBR.out, HD.out]; unfold bitsR; rw [if_neg (by omega), if_pos (by omega)]))
          have HV1 := hide (BytesAt.drop H3.out hlt2)
          have HV2 := hide (BytesAt.drop0 H3.out hlt2)
          have HS := hide (show ∀ v, BytesAt B _ v (s.rest.drop (j + 1)) → _ from fun v hv => HL.out.set2 (s' := ⟨s.rest.drop (j + 1), false⟩) hv)
          clear hc6 hb8 hb2
          generalize hzn : z + b.toNat % 128 * 128 ^ j = zz at *
          generalize b.toNat = bn at *
          generalize hn : s.rest.length = n at *
          clear hn hzn
          have HIN := hide (unzig_in hzz)
          have HUZ := hide (show unzig zz = if zz % 2 = 1 then -1 - ((zz / 2 : Nat) : Int) else ((zz / 2 : Nat) : Int) from rfl)
          by_cases hpar : zz % 2 = 1
          · have p1 : (zz : Int) % 2 = 1 := by omega
            rw [if_pos hpar] at HUZ
            have HPAR := hide hpar
            clear hpar
            go_wp2
            all_goals go_ret
            · refine ⟨unzig zz, ⟨s.rest.drop (j + 1), false⟩, ?_, (HS.out _ (HV2.out (by have := HCAP.out; omega))).1, ?_, (HS.out _ (HV2.out (by have := HCAP.out; omega))).2, HIN.out⟩
              · exact congrArg (fun x => Ending.returned (Value.int .i64 x)) (by rw [HUZ.out]; first | omega | go_arith)
              · exact .inl ⟨rfl, HB.out, by rw [HX.out, HB.out]⟩
            · refine ⟨unzig zz, ⟨s.rest.drop (j + 1), false⟩, ?_, (HS.out _ HV1.out).1, ?_, (HS.out _ HV1.out).2, HIN.out⟩
              · exact congrArg (fun x => Ending.returned (Value.int .i64 x)) (by rw [HUZ.out]; first | omega | go_arith)
              · exact .inl ⟨rfl, HB.out, by rw [HX.out, HB.out]⟩
          · have p1 : (zz : Int) % 2 = 0 := by omega
            rw [if_neg hpar] at HUZ
            have HPAR := hide hpar
            clear hpar
            go_wp2
            all_goals go_ret
            · refine ⟨unzig zz, ⟨s.rest.drop (j + 1), false⟩, ?_, (HS.out _ (HV2.out (by have := HCAP.out; omega))).1, ?_, (HS.out _ (HV2.out (by have := HCAP.out; omega))).2, HIN.out⟩
              · exact congrArg (fun x => Ending.returned (Value.int .i64 x)) (by rw [HUZ.out]; first | omega | go_arith)
              · exact .inl ⟨rfl, HB.out, by rw [HX.out, HB.out]⟩
            · refine ⟨unzig zz, ⟨s.rest.drop (j + 1), false⟩, ?_, (HS.out _ HV1.out).1, ?_, (HS.out _ HV1.out).2, HIN.out⟩
              · exact congrArg (fun x => Ending.returned (Value.int .i64 x)) (by rw [HUZ.out]; first | omega | go_arith)
              · exact .inl ⟨rfl, HB.out, by rw [HX.out, HB.out]⟩
        · have e1 : ((j : Int) == 9) = false := by simp; omega
          have e5 : decide ((b.toNat : Int) < 128) = false := by simp; omega
          have e5' : decide (b.toNat < 128) = false := by simp; omega
          have hb2 : j = 9 → b.toNat ≤ 1 := by omega
          obtain ⟨hor, hzz⟩ := addsevens HZ.out hj9 hb8 hb2
          have HE := hide (show bitsR (j + 1) (z + b.toNat % 128 * 128 ^ j) (s.rest.drop (j + 1)) = bitsR 0 0 s.rest by
            rw [← HBR.out, HD.out]; conv => rhs; unfold bitsR; rw [if_neg (by omega), if_neg (by omega)])
          have HZ2 := hide (show z + b.toNat % 128 * 128 ^ j < 128 ^ (j + 1) by
            have h1 := HZ.out
            have h2 := pow_7 j
            have h3 : b.toNat % 128 * 128 ^ j ≤ 127 * 128 ^ j := Nat.mul_le_mul_right _ (by omega)
            omega)
          have HJ := hide (show j + 1 ≤ 9 by omega)
          clear hc7 hb8 hb2
          generalize hzn : z + b.toNat % 128 * 128 ^ j = zz at *
          generalize b.toNat = bn at *
          generalize hn : s.rest.length = n at *
          have HNl := hide hn
          clear hn hzn hzz
          go_wp2
          go_roundw
          case rel => exact ⟨j + 1, zz, by go_num, rfl, HJ.out, by rw [HNl.out]; exact hlt2, HZ2.out, HE.out, rfl⟩
          case measure => rw [intOf_int]; simp [intOf]; omega
      · obtain rfl : j = s.rest.length := by omega
        have d1 : decide (s.rest.length ≤ s.rest.length) = true := by simp
        have d2 : decide ((s.rest.length : Int) ≤ (s.rest.length : Int)) = true := by simp
        have HNN := hide (HNO.out (by rw [← HBR.out, List.drop_length]; rfl))
        have HS := hide (HL.out.set1 true)
        generalize hn : s.rest.length = n at *
        clear hn
        go_wp2
        go_ret
        exact ⟨0, _, rfl, HS.out.1, .inr ⟨rfl, Nat.le_refl _, .inr HNN.out⟩, HS.out.2, by unfold In64'; omega⟩
end
end Go.Proofs.Ytnkdlbiicfnmcaa
