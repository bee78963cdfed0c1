/- The document's own scanner: letters, digits, reserved words, names. -/
import Derived.Test.YtnkphlkjhgngkaaGreatDoorScanJo
namespace Go.Proofs.YtnkphlkjhgngkaaGreatDoor
open Go.RowKit

set_option maxRecDepth 20000 in
theorem first_eq : ∀ b : UInt8, firstP b = (decide (97 ≤ (b.toNat : Int)) && decide ((b.toNat : Int) ≤ 122) || decide (65 ≤ (b.toNat : Int)) && decide ((b.toNat : Int) ≤ 90) || ((b.toNat : Int) == 95)) := byte_all (by decide +kernel)

set_option maxRecDepth 20000 in
set_option maxHeartbeats 1000000 in
theorem digitR_any (b : UInt8) (w : World) : Calls Tryz.prog 68 #[.int .u8 b.toNat] w fun e w' => e = .returned (.bool (digitP b)) ∧ w' = w := by
  by_cases h1 : 48 ≤ (b.toNat : Int) <;> by_cases h2 : (b.toNat : Int) ≤ 57
  all_goals
    go_enter Tryz.func68, Tryz.ntmps68
    go_wp2
    all_goals first | (exfalso; omega) | (go_ret; exact ⟨by simp [digitP, betweenP, h1, h2], rfl⟩)

set_option maxRecDepth 20000 in
set_option maxHeartbeats 4000000 in
theorem letterR_any (b : UInt8) (w : World) : Calls Tryz.prog 67 #[.int .u8 b.toNat] w fun e w' => e = .returned (.bool (firstP b)) ∧ w' = w := by
  rw [first_eq]
  cases h5 : ((b.toNat : Int) == 95)
  all_goals
    by_cases h1 : 97 ≤ (b.toNat : Int) <;> by_cases h2 : (b.toNat : Int) ≤ 122 <;> by_cases h3 : 65 ≤ (b.toNat : Int) <;> by_cases h4 : (b.toNat : Int) ≤ 90
    all_goals first | (exfalso; omega) | skip
    all_goals
      go_enter Tryz.func67, Tryz.ntmps67
      go_wp2
      all_goals first | (exfalso; omega) | (go_ret; exact ⟨by simp [h1, h2, h3, h4], rfl⟩)

set_option maxRecDepth 20000 in
theorem wordP_hit {l : List UInt8} {k : Nat} {x : List UInt8} (h : words[k]? = some x) (he : l = x) : wordP l = true := by
  unfold wordP
  rw [List.contains_iff_mem, he]
  exact List.mem_of_getElem? h
set_option maxRecDepth 20000 in
theorem wordP_none {l : List UInt8} (h : ∀ (k : Nat) (x : List UInt8), words[k]? = some x → ¬ l = x) : wordP l = false := by
  unfold wordP
  rw [List.contains_eq_mem, decide_eq_false_iff_not]
  intro hm
  obtain ⟨k, hk⟩ := List.mem_iff_getElem?.1 hm
  exact h k l hk rfl

set_option maxRecDepth 20000 in
set_option maxHeartbeats 1000000 in
theorem reservedR_any (s : ByteArray) (w : World) : Calls Tryz.prog 69 #[.string s] w fun e w' => e = .returned (.bool (wordP s.toList)) ∧ Below w.heap.size w w' := by
  go_enter Tryz.func69, Tryz.ntmps69
  go_wp2_with fail
  have hb : Below w.heap.size w (w.alloc (.cells #[.string ⟨#[116, 121, 112, 101]⟩, .string ⟨#[115, 116, 114, 117, 99, 116]⟩, .string ⟨#[105, 110, 116, 101, 114, 102, 97, 99, 101]⟩, .string ⟨#[102, 117, 110, 99]⟩, .string ⟨#[118, 97, 114]⟩, .string ⟨#[105, 102]⟩, .string ⟨#[101, 108, 115, 101]⟩, .string ⟨#[102, 111, 114]⟩, .string ⟨#[114, 101, 116, 117, 114, 110]⟩, .string ⟨#[98, 114, 101, 97, 107]⟩, .string ⟨#[99, 111, 110, 116, 105, 110, 117, 101]⟩, .string ⟨#[116, 114, 117, 101]⟩, .string ⟨#[102, 97, 108, 115, 101]⟩, .string ⟨#[110, 105, 108]⟩] 9)) := (Below.refl _ _).alloc (Nat.le_refl _) _
  have HC : Hid (∀ k x, words[k]? = some x → (w.alloc (.cells #[.string ⟨#[116, 121, 112, 101]⟩, .string ⟨#[115, 116, 114, 117, 99, 116]⟩, .string ⟨#[105, 110, 116, 101, 114, 102, 97, 99, 101]⟩, .string ⟨#[102, 117, 110, 99]⟩, .string ⟨#[118, 97, 114]⟩, .string ⟨#[105, 102]⟩, .string ⟨#[101, 108, 115, 101]⟩, .string ⟨#[102, 111, 114]⟩, .string ⟨#[114, 101, 116, 117, 114, 110]⟩, .string ⟨#[98, 114, 101, 97, 107]⟩, .string ⟨#[99, 111, 110, 116, 105, 110, 117, 101]⟩, .string ⟨#[116, 114, 117, 101]⟩, .string ⟨#[102, 97, 108, 115, 101]⟩, .string ⟨#[110, 105, 108]⟩] 9)).cell? ⟨w.heap.size, k, none⟩ = some (.string ⟨x.toArray⟩)) := by
    intro k x hx
    match k, hx with
    | 0, hx => cases hx; simp
    | 1, hx => cases hx; simp
    | 2, hx => cases hx; simp
    | 3, hx => cases hx; simp
    | 4, hx => cases hx; simp
    | 5, hx => cases hx; simp
    | 6, hx => cases hx; simp
    | 7, hx => cases hx; simp
    | 8, hx => cases hx; simp
    | 9, hx => cases hx; simp
    | 10, hx => cases hx; simp
    | 11, hx => cases hx; simp
    | 12, hx => cases hx; simp
    | 13, hx => cases hx; simp
    | n + 14, hx => cases hx
  generalize w.alloc (.cells #[.string ⟨#[116, 121, 112, 101]⟩, .string ⟨#[115, 116, 114, 117, 99, 116]⟩, .string ⟨#[105, 110, 116, 101, 114, 102, 97, 99, 101]⟩, .string ⟨#[102, 117, 110, 99]⟩, .string ⟨#[118, 97, 114]⟩, .string ⟨#[105, 102]⟩, .string ⟨#[101, 108, 115, 101]⟩, .string ⟨#[102, 111, 114]⟩, .string ⟨#[114, 101, 116, 117, 114, 110]⟩, .string ⟨#[98, 114, 101, 97, 107]⟩, .string ⟨#[99, 111, 110, 116, 105, 110, 117, 101]⟩, .string ⟨#[116, 114, 117, 101]⟩, .string ⟨#[102, 97, 108, 115, 101]⟩, .string ⟨#[110, 105, 108]⟩] 9) = W at *
  go_loop [7] (fun i => ∃ k : Nat, k ≤ 14 ∧ i = .int .i64 k ∧ Hid (∀ (j : Nat) (x : List UInt8), j < k → words[j]? = some x → ¬ s.toList = x)) (fun i => 14 - (intOf i).toNat)
  case atStart => exact ⟨0, Nat.zero_le _, rfl, fun j x h => absurd h (Nat.not_lt_zero _)⟩
  case round =>
    obtain ⟨k, hk, rfl, HZ⟩ := hrel
    by_cases hlt : k < 14
    · obtain ⟨x, hx⟩ : ∃ x, words[k]? = some x := ⟨words[k]'(by exact hlt), List.getElem?_eq_getElem _⟩
      have hc := HC.out k x hx
      have HX := Lib.hid hx
      clear hx
      generalize hxs : (⟨x.toArray⟩ : ByteArray) = t at *
      have HT : Hid (t.toList = x) := by show t.toList = x; rw [← hxs, Lib.toList_data]
      clear hxs
      cases he : (s.toList == t.toList)
      · have HE := Lib.hid he
        go_wp2
        go_round
        case rel => exact ⟨k + 1, by omega, by go_num, fun j y h h' => by
          rcases Nat.lt_succ_iff_lt_or_eq.1 h with h | h
          · exact HZ.out j y h h'
          · subst h
            have := HX.out
            rw [h'] at this
            cases this
            intro e
            have h2 := HE.out
            rw [HT.out, e] at h2
            simp at h2⟩
        case measure => simp [intOf]; omega
      · have HE := Lib.hid he
        go_wp2
        go_ret
        exact ⟨by rw [wordP_hit HX.out (by have := HE.out; rw [HT.out] at this; simpa using this)]; rfl, hb⟩
    · go_wp2
      go_ret
      exact ⟨by rw [wordP_none (fun j x h => HZ.out j x (by have := (List.getElem?_eq_some_iff.1 h).1; have e : words.length = 14 := rfl; omega) h)]; rfl, hb⟩

end Go.Proofs.YtnkphlkjhgngkaaGreatDoor

namespace Go.Proofs.YtnkphlkjhgngkaaGreatDoor
open Go.RowKit

set_option maxRecDepth 20000 in
theorem inner_eq : ∀ b : UInt8, innerP b = (firstP b || digitP b) := byte_all (by decide +kernel)
set_option maxRecDepth 20000 in
theorem digit_not_first : ∀ b : UInt8, digitP b = true → firstP b = false := byte_all (by decide +kernel)

/-- The document's Name, of a text that is not empty and not too long. -/
def nmR (l : List UInt8) : Bool := !(atP digitP l 0) && !(wordP l) && l.all innerP

set_option maxRecDepth 20000 in
theorem all_iff_end (p : UInt8 → Bool) (l : List UInt8) : l.all p = (endOf p l 0 == l.length) := by
  unfold endOf
  rw [List.drop_zero, Nat.zero_add]
  induction l with
  | nil => rfl
  | cons c r ih => by_cases h : p c <;> simp [h, ih]

set_option maxRecDepth 20000 in
theorem seg_all (l : List UInt8) : seg l 0 l.length = l := by simp [seg]

set_option maxRecDepth 20000 in
theorem nameP_eq (l : List UInt8) (h1 : ¬ l.length = 0) (h2 : ¬ 64 < l.length) : nameP l = nmR l := by
  unfold nameP nmR
  rw [if_neg (by omega), all_iff_end]
  unfold tokL
  by_cases hf : atP firstP l 0 = true
  · rw [if_pos hf]
    have hd : atP digitP l 0 = false := by
      unfold atP at hf ⊢
      cases hk : l[0]? with
      | none => rfl
      | some c =>
        rw [hk] at hf
        have hf' : firstP c = true := hf
        show digitP c = false
        cases hdd : digitP c
        · rfl
        · rw [digit_not_first c hdd] at hf'; cases hf'
    have hle := endOf_le innerP l 0 (Nat.zero_le _)
    unfold nameL
    rw [if_neg (by omega), hd]
    show (endOf innerP l 0 == l.length && kindOf (seg l 0 (endOf innerP l 0)) == 1) = _
    by_cases he : endOf innerP l 0 = l.length
    · rw [he, seg_all]
      cases hw : wordP l
      · rw [kindOf_name hw]; simp
      · rw [kindOf_word hw]; simp
    · have : (endOf innerP l 0 == l.length) = false := by simpa using he
      rw [this]; simp
  · rw [if_neg hf]
    have hin : atP digitP l 0 = false → endOf innerP l 0 = 0 := by
      intro hd
      apply endOf_no
      unfold atP at hf hd ⊢
      cases hk : l[0]? with
      | none => rfl
      | some c =>
        rw [hk] at hf hd
        have hf' : ¬ firstP c = true := hf
        have hd' : digitP c = false := hd
        show innerP c = false
        rw [inner_eq, hd']
        simpa using hf'
    by_cases hd : atP digitP l 0 = true
    · rw [if_pos hd, hd]
      have : ∀ x, numL l 0 = some x → x.1 = 2 := by
        intro x hx
        unfold numL at hx
        split at hx
        · cases hx
        · split at hx
          · cases hx
          · split at hx
            · cases hx
            · cases hx; rfl
      cases hn : numL l 0 with
      | none => simp
      | some x =>
        obtain ⟨kd, t, n, e⟩ := x
        have := this _ hn
        simp at this
        subst this
        simp
    · rw [if_neg hd]
      have hd' : atP digitP l 0 = false := by simpa using hd
      rw [hin hd']
      have h0 : ((0 : Nat) == l.length) = false := by simp; omega
      rw [h0]
      by_cases hq : atP quoteP l 0 = true
      · rw [if_pos hq]
        cases ht : textL l 0 with
        | none => simp
        | some x =>
          unfold textL at ht
          split at ht
          · cases ht; simp
          · cases ht
      · rw [if_neg hq]
        cases ht : markL l 0 with
        | none => simp
        | some x =>
          unfold markL at ht
          split at ht
          · cases ht; simp
          · split at ht
            · cases ht; simp
            · cases ht

set_option maxRecDepth 20000 in
theorem nameP_out (l : List UInt8) (h : l.length = 0 ∨ 64 < l.length) : nameP l = false := by
  unfold nameP; rw [if_pos h]

set_option maxRecDepth 20000 in
set_option maxHeartbeats 2000000 in
theorem nmR_any (s : ByteArray) (_hs : s.size ≤ maxLen) (w : World) : Calls Tryz.prog 50 #[.string s] w fun e w' => e = .returned (.bool (nameP s.data.toList)) ∧ Below w.heap.size w w' := by
  have hll : s.data.toList.length = s.size := by simp
  unfold maxLen at _hs
  by_cases h0 : s.size < 1
  · have HP := Lib.hid (nameP_out s.data.toList (by omega))
    clear hll
    go_enter Tryz.func50, Tryz.ntmps50
    go_wp2
    go_ret
    exact ⟨by rw [HP.out]; rfl, Below.refl _ _⟩
  by_cases h64 : 64 < s.size
  · have HP := Lib.hid (nameP_out s.data.toList (by omega))
    clear hll
    go_enter Tryz.func50, Tryz.ntmps50
    go_wp2
    go_ret
    exact ⟨by rw [HP.out]; rfl, Below.refl _ _⟩
  have h64' : decide (64 < (s.size : Int)) = false := by simp; omega
  have h0' : decide ((s.size : Int) < 1) = false := by simp; omega
  have hP := nameP_eq s.data.toList (by omega) (by omega)
  have hpos : 0 < s.size := by omega
  have hat := atP_lt (p := digitP) (s := s) (k := 0) hpos
  unfold nmR at hP
  rw [hat] at hP
  have cD := digitR_any (s[0]'hpos)
  cases hd : digitP (s[0]'hpos)
  · rw [hd] at hP cD
    have cR := reservedR_any s w
    rw [Lib.toList_data] at cR
    cases hw : wordP s.data.toList
    · rw [hw] at hP cR
      have HP : Hid (nameP s.data.toList = s.data.toList.all innerP) := by show _ = _; rw [hP]; simp
      have HL := Lib.hid hll
      clear hP hw hd hat hll h0 h64
      go_enter Tryz.func50, Tryz.ntmps50
      go_wp2_with fail
      refine (cD _).mono ?_
      rintro e w' ⟨rfl, rfl⟩
      go_wp2_with fail
      refine cR.mono ?_
      rintro e w2 ⟨rfl, b2⟩
      clear cD cR
      go_wp2_with fail
      go_loop [3] (fun i => ∃ k : Nat, k ≤ s.size ∧ i = .int .i64 k ∧ Hid ((s.data.toList.take k).all innerP = true)) (fun i => s.size - (intOf i).toNat)
      case atStart => exact ⟨0, Nat.zero_le _, rfl, rfl⟩
      case round =>
        obtain ⟨k, hk, rfl, HA⟩ := hrel
        by_cases hlt : k < s.size
        · have cL := letterR_any s[k]
          have cD := digitR_any s[k]
          have HI := Lib.hid (inner_eq s[k])
          have HS : Hid ((s.data.toList.take (k + 1)).all innerP = innerP s[k]) := by
            show _ = _
            rw [List.take_succ_eq_append_getElem (by rw [HL.out]; exact hlt), List.all_append, HA.out]
            simp
            rfl
          have HN : Hid (innerP s[k] = false → s.data.toList.all innerP = false) := by
            intro h
            rw [List.all_eq_false]
            exact ⟨s[k], List.mem_of_getElem? (getElem_list s k hlt), by simp [h]⟩
          cases hf : firstP s[k] <;> rw [hf] at cL HI
          · cases hd : digitP s[k] <;> rw [hd] at cD HI
            · clear hf hd
              go_wp2_with fail
              refine (cL _).mono ?_
              rintro e w' ⟨rfl, hw'⟩
              subst hw'
              go_wp2_with fail
              refine (cD _).mono ?_
              rintro e w' ⟨rfl, hw'⟩
              subst hw'
              go_wp2
              go_ret
              exact ⟨by rw [HP.out, HN.out (by rw [HI.out]; rfl)]; rfl, b2⟩
            · clear hf hd
              go_wp2_with fail
              refine (cL _).mono ?_
              rintro e w' ⟨rfl, hw'⟩
              subst hw'
              go_wp2_with fail
              refine (cD _).mono ?_
              rintro e w' ⟨rfl, hw'⟩
              subst hw'
              go_wp2
              go_round
              case rel => exact ⟨k + 1, hlt, by go_num, by show _ = _; rw [HS.out, HI.out]; rfl⟩
              case measure => simp [intOf]; omega
          · clear hf
            go_wp2_with fail
            refine (cL _).mono ?_
            rintro e w' ⟨rfl, hw'⟩
            subst hw'
            go_wp2
            go_round
            case rel => exact ⟨k + 1, hlt, by go_num, by show _ = _; rw [HS.out, HI.out]; rfl⟩
            case measure => simp [intOf]; omega
        · have HF : Hid (s.data.toList.all innerP = true) := by
            show _ = _
            have := HA.out
            rw [List.take_of_length_le (by rw [HL.out]; omega)] at this
            exact this
          go_wp2
          go_ret
          exact ⟨by rw [HP.out, HF.out]; rfl, b2⟩
    · rw [hw] at hP cR
      have HP : Hid (nameP s.data.toList = false) := by show _ = _; rw [hP]; simp
      clear hP hw hd hat hll h0 h64
      go_enter Tryz.func50, Tryz.ntmps50
      go_wp2_with fail
      refine (cD _).mono ?_
      rintro e w' ⟨rfl, rfl⟩
      go_wp2_with fail
      refine cR.mono ?_
      rintro e w2 ⟨rfl, b2⟩
      go_wp2
      go_ret
      exact ⟨by rw [HP.out]; rfl, b2⟩
  · rw [hd] at hP cD
    have HP : Hid (nameP s.data.toList = false) := by show _ = _; rw [hP]; simp
    clear hP hd hat hll h0 h64
    go_enter Tryz.func50, Tryz.ntmps50
    go_wp2_with fail
    refine (cD _).mono ?_
    rintro e w' ⟨rfl, rfl⟩
    go_wp2
    go_ret
    exact ⟨by rw [HP.out]; rfl, Below.refl _ _⟩

end Go.Proofs.YtnkphlkjhgngkaaGreatDoor
