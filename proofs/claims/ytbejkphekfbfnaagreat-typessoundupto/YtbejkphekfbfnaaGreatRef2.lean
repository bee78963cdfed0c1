/- The document's Name, and that it is the scanner's. -/
import Derived.Test.YtbejkphekfbfnaaGreatRef1
namespace Go.Proofs.YtbejkphekfbfnaaGreat
open Go.RowKit

set_option maxRecDepth 20000 in
set_option maxHeartbeats 2000000 in
theorem nmR_any (s : ByteArray) (_hs : s.size ≤ maxLen) (w : World) : Calls Tryz.prog 43 #[.string s] w fun e w' => e = .returned (.bool (nameP s.data.toList)) ∧ Below w.heap.size w w' := by
  have hll : s.data.toList.length = s.size := by simp
  unfold maxLen at _hs
  by_cases h0 : s.size < 1
  · have HP := Lib.hid (nameP_out s.data.toList (by omega))
    clear hll
    go_enter Tryz.func43, Tryz.ntmps43
    go_wp2
    go_ret
    exact ⟨by rw [HP.out]; rfl, Below.refl _ _⟩
  by_cases h64 : 64 < s.size
  · have HP := Lib.hid (nameP_out s.data.toList (by omega))
    clear hll
    go_enter Tryz.func43, Tryz.ntmps43
    go_wp2
    go_ret
    exact ⟨by rw [HP.out]; rfl, Below.refl _ _⟩
  have h64' : decide (64 < (s.size : Int)) = false := by simp; omega
  have h0' : decide ((s.size : Int) < 1) = false := by simp; omega
  have hP := nameP_eq s.data.toList (by omega) (by omega)
  have hpos : 0 < s.size := by omega
  have hat := atP_lt (p := digitP) (s := s) (k := 0) hpos
  unfold nmR at hP
  rw [hat] at hP
  have cD := digitR_any (s[0]'hpos)
  cases hd : digitP (s[0]'hpos)
  · rw [hd] at hP cD
    have cR := reservedR_any s w
    rw [Lib.toList_data] at cR
    cases hw : wordP s.data.toList
    · rw [hw] at hP cR
      have HP : Hid (nameP s.data.toList = s.data.toList.all innerP) := by show _ = _; rw [hP]; simp
      have HL := Lib.hid hll
      clear hP hw hd hat hll h0 h64
      go_enter Tryz.func43, Tryz.ntmps43
      go_wp2_with fail
      refine (cD _).mono ?_
      rintro e w' ⟨rfl, rfl⟩
      go_wp2_with fail
      refine cR.mono ?_
      rintro e w2 ⟨rfl, b2⟩
      clear cD cR
      go_wp2_with fail
      go_loop [3] (fun i => ∃ k : Nat, k ≤ s.size ∧ i = .int .i64 k ∧ Hid ((s.data.toList.take k).all innerP = true)) (fun i => s.size - (intOf i).toNat)
      case atStart => exact ⟨0, Nat.zero_le _, rfl, rfl⟩
      case round =>
        obtain ⟨k, hk, rfl, HA⟩ := hrel
        by_cases hlt : k < s.size
        · have cL := letterR_any s[k]
          have cD := digitR_any s[k]
          have HI := Lib.hid (inner_eq s[k])
          have HS : Hid ((s.data.toList.take (k + 1)).all innerP = innerP s[k]) := by
            show _ = _
            rw [List.take_succ_eq_append_getElem (by rw [HL.out]; exact hlt), List.all_append, HA.out]
            simp
            rfl
          have HN : Hid (innerP s[k] = false → s.data.toList.all innerP = false) := by
            intro h
            rw [List.all_eq_false]
            exact ⟨s[k], List.mem_of_getElem? (getElem_list s k hlt), by simp [h]⟩
          cases hf : firstP s[k] <;> rw [hf] at cL HI
          · cases hd : digitP s[k] <;> rw [hd] at cD HI
            · clear hf hd
              go_wp2_with fail
              refine (cL _).mono ?_
              rintro e w' ⟨rfl, hw'⟩
              subst hw'
              go_wp2_with fail
              refine (cD _).mono ?_
              rintro e w' ⟨rfl, hw'⟩
              subst hw'
              go_wp2
              go_ret
              exact ⟨by rw [HP.out, HN.out (by rw [HI.out]; rfl)]; rfl, b2⟩
            · clear hf hd
              go_wp2_with fail
              refine (cL _).mono ?_
              rintro e w' ⟨rfl, hw'⟩
              subst hw'
              go_wp2_with fail
              refine (cD _).mono ?_
              rintro e w' ⟨rfl, hw'⟩
              subst hw'
              go_wp2
              go_round
              case rel => exact ⟨k + 1, hlt, by go_num, by show _ = _; rw [HS.out, HI.out]; rfl⟩
              case measure => simp [intOf]; omega
          · clear hf
            go_wp2_with fail
            refine (cL _).mono ?_
            rintro e w' ⟨rfl, hw'⟩
            subst hw'
            go_wp2
            go_round
            case rel => exact ⟨k + 1, hlt, by go_num, by show _ = _; rw [HS.out, HI.out]; rfl⟩
            case measure => simp [intOf]; omega
        · have HF : Hid (s.data.toList.all innerP = true) := by
            show _ = _
            have := HA.out
            rw [List.take_of_length_le (by rw [HL.out]; omega)] at this
            exact this
          go_wp2
          go_ret
          exact ⟨by rw [HP.out, HF.out]; rfl, b2⟩
    · rw [hw] at hP cR
      have HP : Hid (nameP s.data.toList = false) := by show _ = _; rw [hP]; simp
      clear hP hw hd hat hll h0 h64
      go_enter Tryz.func43, Tryz.ntmps43
      go_wp2_with fail
      refine (cD _).mono ?_
      rintro e w' ⟨rfl, rfl⟩
      go_wp2_with fail
      refine cR.mono ?_
      rintro e w2 ⟨rfl, b2⟩
      go_wp2
      go_ret
      exact ⟨by rw [HP.out]; rfl, b2⟩
  · rw [hd] at hP cD
    have HP : Hid (nameP s.data.toList = false) := by show _ = _; rw [hP]; simp
    clear hP hd hat hll h0 h64
    go_enter Tryz.func43, Tryz.ntmps43
    go_wp2_with fail
    refine (cD _).mono ?_
    rintro e w' ⟨rfl, rfl⟩
    go_wp2
    go_ret
    exact ⟨by rw [HP.out]; rfl, Below.refl _ _⟩

end Go.Proofs.YtbejkphekfbfnaaGreat
