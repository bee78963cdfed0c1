/- The document's own scanner: letters, digits, reserved words, names. -/
import Derived.Test.YtbejkphekfbfnaaGreatIsName
namespace Go.Proofs.YtbejkphekfbfnaaGreat
open Go.RowKit

set_option maxRecDepth 20000 in
theorem first_eq : ∀ b : UInt8, firstP b = (decide (97 ≤ (b.toNat : Int)) && decide ((b.toNat : Int) ≤ 122) || decide (65 ≤ (b.toNat : Int)) && decide ((b.toNat : Int) ≤ 90) || ((b.toNat : Int) == 95)) := byte_all (by decide +kernel)

set_option maxRecDepth 20000 in
set_option maxHeartbeats 1000000 in
theorem digitR_any (b : UInt8) (w : World) : Calls Tryz.prog 84 #[.int .u8 b.toNat] w fun e w' => e = .returned (.bool (digitP b)) ∧ w' = w := by
  by_cases h1 : 48 ≤ (b.toNat : Int) <;> by_cases h2 : (b.toNat : Int) ≤ 57
  all_goals
    go_enter Tryz.func84, Tryz.ntmps84
    go_wp2
    all_goals first | (exfalso; omega) | (go_ret; exact ⟨by simp [digitP, betweenP, h1, h2], rfl⟩)

set_option maxRecDepth 20000 in
set_option maxHeartbeats 4000000 in
theorem letterR_any (b : UInt8) (w : World) : Calls Tryz.prog 86 #[.int .u8 b.toNat] w fun e w' => e = .returned (.bool (firstP b)) ∧ w' = w := by
  rw [first_eq]
  cases h5 : ((b.toNat : Int) == 95)
  all_goals
    by_cases h1 : 97 ≤ (b.toNat : Int) <;> by_cases h2 : (b.toNat : Int) ≤ 122 <;> by_cases h3 : 65 ≤ (b.toNat : Int) <;> by_cases h4 : (b.toNat : Int) ≤ 90
    all_goals first | (exfalso; omega) | skip
    all_goals
      go_enter Tryz.func86, Tryz.ntmps86
      go_wp2
      all_goals first | (exfalso; omega) | (go_ret; exact ⟨by simp [h1, h2, h3, h4], rfl⟩)

set_option maxRecDepth 20000 in
theorem wordP_hit {l : List UInt8} {k : Nat} {x : List UInt8} (h : words[k]? = some x) (he : l = x) : wordP l = true := by
  unfold wordP
  rw [List.contains_iff_mem, he]
  exact List.mem_of_getElem? h
set_option maxRecDepth 20000 in
theorem wordP_none {l : List UInt8} (h : ∀ (k : Nat) (x : List UInt8), words[k]? = some x → ¬ l = x) : wordP l = false := by
  unfold wordP
  rw [List.contains_eq_mem, decide_eq_false_iff_not]
  intro hm
  obtain ⟨k, hk⟩ := List.mem_iff_getElem?.1 hm
  exact h k l hk rfl

set_option maxRecDepth 20000 in
set_option maxHeartbeats 1000000 in
theorem reservedR_any (s : ByteArray) (w : World) : Calls Tryz.prog 85 #[.string s] w fun e w' => e = .returned (.bool (wordP s.toList)) ∧ Below w.heap.size w w' := by
  go_enter Tryz.func85, Tryz.ntmps85
  go_wp2_with fail
  have hb : Below w.heap.size w (w.alloc (.cells #[.string ⟨#[116, 121, 112, 101]⟩, .string ⟨#[115, 116, 114, 117, 99, 116]⟩, .string ⟨#[105, 110, 116, 101, 114, 102, 97, 99, 101]⟩, .string ⟨#[102, 117, 110, 99]⟩, .string ⟨#[118, 97, 114]⟩, .string ⟨#[105, 102]⟩, .string ⟨#[101, 108, 115, 101]⟩, .string ⟨#[102, 111, 114]⟩, .string ⟨#[114, 101, 116, 117, 114, 110]⟩, .string ⟨#[98, 114, 101, 97, 107]⟩, .string ⟨#[99, 111, 110, 116, 105, 110, 117, 101]⟩, .string ⟨#[116, 114, 117, 101]⟩, .string ⟨#[102, 97, 108, 115, 101]⟩, .string ⟨#[110, 105, 108]⟩] 9)) := (Below.refl _ _).alloc (Nat.le_refl _) _
  have HC : Hid (∀ k x, words[k]? = some x → (w.alloc (.cells #[.string ⟨#[116, 121, 112, 101]⟩, .string ⟨#[115, 116, 114, 117, 99, 116]⟩, .string ⟨#[105, 110, 116, 101, 114, 102, 97, 99, 101]⟩, .string ⟨#[102, 117, 110, 99]⟩, .string ⟨#[118, 97, 114]⟩, .string ⟨#[105, 102]⟩, .string ⟨#[101, 108, 115, 101]⟩, .string ⟨#[102, 111, 114]⟩, .string ⟨#[114, 101, 116, 117, 114, 110]⟩, .string ⟨#[98, 114, 101, 97, 107]⟩, .string ⟨#[99, 111, 110, 116, 105, 110, 117, 101]⟩, .string ⟨#[116, 114, 117, 101]⟩, .string ⟨#[102, 97, 108, 115, 101]⟩, .string ⟨#[110, 105, 108]⟩] 9)).cell? ⟨w.heap.size, k, none⟩ = some (.string ⟨x.toArray⟩)) := by
    intro k x hx
    match k, hx with
    | 0, hx => cases hx; simp
    | 1, hx => cases hx; simp
    | 2, hx => cases hx; simp
    | 3, hx => cases hx; simp
    | 4, hx => cases hx; simp
    | 5, hx => cases hx; simp
    | 6, hx => cases hx; simp
    | 7, hx => cases hx; simp
    | 8, hx => cases hx; simp
    | 9, hx => cases hx; simp
    | 10, hx => cases hx; simp
    | 11, hx => cases hx; simp
    | 12, hx => cases hx; simp
    | 13, hx => cases hx; simp
    | n + 14, hx => cases hx
  generalize w.alloc (.cells #[.string ⟨#[116, 121, 112, 101]⟩, .string ⟨#[115, 116, 114, 117, 99, 116]⟩, .string ⟨#[105, 110, 116, 101, 114, 102, 97, 99, 101]⟩, .string ⟨#[102, 117, 110, 99]⟩, .string ⟨#[118, 97, 114]⟩, .string ⟨#[105, 102]⟩, .string ⟨#[101, 108, 115, 101]⟩, .string ⟨#[102, 111, 114]⟩, .string ⟨#[114, 101, 116, 117, 114, 110]⟩, .string ⟨#[98, 114, 101, 97, 107]⟩, .string ⟨#[99, 111, 110, 116, 105, 110, 117, 101]⟩, .string ⟨#[116, 114, 117, 101]⟩, .string ⟨#[102, 97, 108, 115, 101]⟩, .string ⟨#[110, 105, 108]⟩] 9) = W at *
  go_loop [7] (fun i => ∃ k : Nat, k ≤ 14 ∧ i = .int .i64 k ∧ Hid (∀ (j : Nat) (x : List UInt8), j < k → words[j]? = some x → ¬ s.toList = x)) (fun i => 14 - (intOf i).toNat)
  case atStart => exact ⟨0, Nat.zero_le _, rfl, fun j x h => absurd h (Nat.not_lt_zero _)⟩
  case round =>
    obtain ⟨k, hk, rfl, HZ⟩ := hrel
    by_cases hlt : k < 14
    · obtain ⟨x, hx⟩ : ∃ x, words[k]? = some x := ⟨words[k]'(by exact hlt), List.getElem?_eq_getElem _⟩
      have hc := HC.out k x hx
      have HX := Lib.hid hx
      clear hx
      generalize hxs : (⟨x.toArray⟩ : ByteArray) = t at *
      have HT : Hid (t.toList = x) := by show t.toList = x; rw [← hxs, Lib.toList_data]
      clear hxs
      cases he : (s.toList == t.toList)
      · have HE := Lib.hid he
        go_wp2
        go_round
        case rel => exact ⟨k + 1, by omega, by go_num, fun j y h h' => by
          rcases Nat.lt_succ_iff_lt_or_eq.1 h with h | h
          · exact HZ.out j y h h'
          · subst h
            have := HX.out
            rw [h'] at this
            cases this
            intro e
            have h2 := HE.out
            rw [HT.out, e] at h2
            simp at h2⟩
        case measure => simp [intOf]; omega
      · have HE := Lib.hid he
        go_wp2
        go_ret
        exact ⟨by rw [wordP_hit HX.out (by have := HE.out; rw [HT.out] at this; simpa using this)]; rfl, hb⟩
    · go_wp2
      go_ret
      exact ⟨by rw [wordP_none (fun j x h => HZ.out j x (by have := (List.getElem?_eq_some_iff.1 h).1; have e : words.length = 14 := rfl; omega) h)]; rfl, hb⟩

end Go.Proofs.YtbejkphekfbfnaaGreat
