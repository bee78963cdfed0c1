/- The document's Name, and that it is the scanner's. -/
import Derived.Test.YthggaojpkfdggaaDoorRef1
namespace Go.Proofs.YthggaojpkfdggaaDoor
open Go.RowKit

theorem inner_eq : ∀ b : UInt8, innerP b = (firstP b || digitP b) := byte_all (by decide +kernel)
theorem digit_not_first : ∀ b : UInt8, digitP b = true → firstP b = false := byte_all (by decide +kernel)

/-- The document's Name, of a text that is not empty and not too long. -/
def nameR (l : List UInt8) : Bool := !(atP digitP l 0) && !(wordP l) && l.all innerP

theorem all_iff_end (p : UInt8 → Bool) (l : List UInt8) : l.all p = (endOf p l 0 == l.length) := by
  unfold endOf
  rw [List.drop_zero, Nat.zero_add]
  induction l with
  | nil => rfl
  | cons c r ih => by_cases h : p c <;> simp [h, ih]

theorem seg_all (l : List UInt8) : seg l 0 l.length = l := by simp [seg]

theorem nameP_eq (l : List UInt8) (h1 : ¬ l.length = 0) (h2 : ¬ 64 < l.length) : nameP l = nameR l := by
  unfold nameP nameR
  rw [if_neg (by omega), all_iff_end]
  unfold tokL
  by_cases hf : atP firstP l 0 = true
  · rw [if_pos hf]
    have hd : atP digitP l 0 = false := by
      unfold atP at hf ⊢
      cases hk : l[0]? with
      | none => rfl
      | some c =>
        rw [hk] at hf
        have hf' : firstP c = true := hf
        show digitP c = false
        cases hdd : digitP c
        · rfl
        · rw [digit_not_first c hdd] at hf'; cases hf'
    have hle := endOf_le innerP l 0 (Nat.zero_le _)
    unfold nameL
    rw [if_neg (by omega), hd]
    show (endOf innerP l 0 == l.length && kindOf (seg l 0 (endOf innerP l 0)) == 1) = _
    by_cases he : endOf innerP l 0 = l.length
    · rw [he, seg_all]
      cases hw : wordP l
      · rw [kindOf_name hw]; simp
      · rw [kindOf_word hw]; simp
    · have : (endOf innerP l 0 == l.length) = false := by simpa using he
      rw [this]; simp
  · rw [if_neg hf]
    have hin : atP digitP l 0 = false → endOf innerP l 0 = 0 := by
      intro hd
      apply endOf_no
      unfold atP at hf hd ⊢
      cases hk : l[0]? with
      | none => rfl
      | some c =>
        rw [hk] at hf hd
        have hf' : ¬ firstP c = true := hf
        have hd' : digitP c = false := hd
        show innerP c = false
        rw [inner_eq, hd']
        simpa using hf'
    by_cases hd : atP digitP l 0 = true
    · rw [if_pos hd, hd]
      have : ∀ x, numL l 0 = some x → x.1 = 2 := by
        intro x hx
        unfold numL at hx
        split at hx
        · cases hx
        · split at hx
          · cases hx
          · split at hx
            · cases hx
            · cases hx; rfl
      cases hn : numL l 0 with
      | none => simp
      | some x =>
        obtain ⟨kd, t, n, e⟩ := x
        have := this _ hn
        simp at this
        subst this
        simp
    · rw [if_neg hd]
      have hd' : atP digitP l 0 = false := by simpa using hd
      rw [hin hd']
      have h0 : ((0 : Nat) == l.length) = false := by simp; omega
      rw [h0]
      by_cases hq : atP quoteP l 0 = true
      · rw [if_pos hq]
        cases ht : textL l 0 with
        | none => simp
        | some x =>
          unfold textL at ht
          split at ht
          · cases ht; simp
          · cases ht
      · rw [if_neg hq]
        cases ht : markL l 0 with
        | none => simp
        | some x =>
          unfold markL at ht
          split at ht
          · cases ht; simp
          · split at ht
            · cases ht; simp
            · cases ht

theorem nameP_out (l : List UInt8) (h : l.length = 0 ∨ 64 < l.length) : nameP l = false := by
  unfold nameP; rw [if_pos h]

set_option maxHeartbeats 2000000 in
theorem nameR_any (s : ByteArray) (_hs : s.size ≤ maxLen) (w : World) : Calls Tryd.prog 16 #[.string s] w fun e w' => e = .returned (.bool (nameP s.data.toList)) ∧ Below w.heap.size w w' := by
  have hll : s.data.toList.length = s.size := by simp
  unfold maxLen at _hs
  by_cases h0 : s.size < 1
  · have HP := Lib.hid (nameP_out s.data.toList (by omega))
    clear hll
    go_enter Tryd.func16, Tryd.ntmps16
    go_wp2
    go_ret
    exact ⟨by rw [HP.out]; rfl, Below.refl _ _⟩
  by_cases h64 : 64 < s.size
  · have HP := Lib.hid (nameP_out s.data.toList (by omega))
    clear hll
    go_enter Tryd.func16, Tryd.ntmps16
    go_wp2
    go_ret
    exact ⟨by rw [HP.out]; rfl, Below.refl _ _⟩
  have h64' : decide (64 < (s.size : Int)) = false := by simp; omega
  have h0' : decide ((s.size : Int) < 1) = false := by simp; omega
  have hP := nameP_eq s.data.toList (by omega) (by omega)
  have hpos : 0 < s.size := by omega
  have hat := atP_lt (p := digitP) (s := s) (k := 0) hpos
  unfold nameR at hP
  rw [hat] at hP
  have cD := digitR_any (s[0]'hpos)
  cases hd : digitP (s[0]'hpos)
  · rw [hd] at hP cD
    have cR := reservedR_any s w
    rw [Lib.toList_data] at cR
    cases hw : wordP s.data.toList
    · rw [hw] at hP cR
      have HP : Hid (nameP s.data.toList = s.data.toList.all innerP) := by show _ = _; rw [hP]; simp
      have HL := Lib.hid hll
      clear hP hw hd hat hll h0 h64
      go_enter Tryd.func16, Tryd.ntmps16
      go_wp2_with fail
      refine (cD _).mono ?_
      rintro e w' ⟨rfl, rfl⟩
      go_wp2_with fail
      refine cR.mono ?_
      rintro e w2 ⟨rfl, b2⟩
      clear cD cR
      go_wp2_with fail
      go_loop [3] (fun i => ∃ k : Nat, k ≤ s.size ∧ i = .int .i64 k ∧ Hid ((s.data.toList.take k).all innerP = true)) (fun i => s.size - (intOf i).toNat)
      case atStart => exact ⟨0, Nat.zero_le _, rfl, rfl⟩
      case round =>
        obtain ⟨k, hk, rfl, HA⟩ := hrel
        by_cases hlt : k < s.size
        · have cL := letterR_any s[k]
          have cD := digitR_any s[k]
          have HI := Lib.hid (inner_eq s[k])
          have HS : Hid ((s.data.toList.take (k + 1)).all innerP = innerP s[k]) := by
            show _ = _
            rw [List.take_succ_eq_append_getElem (by rw [HL.out]; exact hlt), List.all_append, HA.out]
            simp
            rfl
          have HN : Hid (innerP s[k] = false → s.data.toList.all innerP = false) := by
            intro h
            rw [List.all_eq_false]
            exact ⟨s[k], List.mem_of_getElem? (getElem_list s k hlt), by simp [h]⟩
          cases hf : firstP s[k] <;> rw [hf] at cL HI
          · cases hd : digitP s[k] <;> rw [hd] at cD HI
            · clear hf hd
              go_wp2_with fail
              refine (cL _).mono ?_
              rintro e w' ⟨rfl, hw'⟩
              subst hw'
              go_wp2_with fail
              refine (cD _).mono ?_
              rintro e w' ⟨rfl, hw'⟩
              subst hw'
              go_wp2
              go_ret
              exact ⟨by rw [HP.out, HN.out (by rw [HI.out]; rfl)]; rfl, b2⟩
            · clear hf hd
              go_wp2_with fail
              refine (cL _).mono ?_
              rintro e w' ⟨rfl, hw'⟩
              subst hw'
              go_wp2_with fail
              refine (cD _).mono ?_
              rintro e w' ⟨rfl, hw'⟩
              subst hw'
              go_wp2
              go_round
              case rel => exact ⟨k + 1, hlt, by go_num, by show _ = _; rw [HS.out, HI.out]; rfl⟩
              case measure => simp [intOf]; omega
          · clear hf
            go_wp2_with fail
            refine (cL _).mono ?_
            rintro e w' ⟨rfl, hw'⟩
            subst hw'
            go_wp2
            go_round
            case rel => exact ⟨k + 1, hlt, by go_num, by show _ = _; rw [HS.out, HI.out]; rfl⟩
            case measure => simp [intOf]; omega
        · have HF : Hid (s.data.toList.all innerP = true) := by
            show _ = _
            have := HA.out
            rw [List.take_of_length_le (by rw [HL.out]; omega)] at this
            exact this
          go_wp2
          go_ret
          exact ⟨by rw [HP.out, HF.out]; rfl, b2⟩
    · rw [hw] at hP cR
      have HP : Hid (nameP s.data.toList = false) := by show _ = _; rw [hP]; simp
      clear hP hw hd hat hll h0 h64
      go_enter Tryd.func16, Tryd.ntmps16
      go_wp2_with fail
      refine (cD _).mono ?_
      rintro e w' ⟨rfl, rfl⟩
      go_wp2_with fail
      refine cR.mono ?_
      rintro e w2 ⟨rfl, b2⟩
      go_wp2
      go_ret
      exact ⟨by rw [HP.out]; rfl, b2⟩
  · rw [hd] at hP cD
    have HP : Hid (nameP s.data.toList = false) := by show _ = _; rw [hP]; simp
    clear hP hd hat hll h0 h64
    go_enter Tryd.func16, Tryd.ntmps16
    go_wp2_with fail
    refine (cD _).mono ?_
    rintro e w' ⟨rfl, rfl⟩
    go_wp2
    go_ret
    exact ⟨by rw [HP.out]; rfl, Below.refl _ _⟩

end Go.Proofs.YthggaojpkfdggaaDoor
