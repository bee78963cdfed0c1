/- The document's blanks and hexadecimal digits. -/
import Derived.Test.YthggaojpkfdggaaDoorRef3
namespace Go.Proofs.YthggaojpkfdggaaDoor
open Go.RowKit

def hexI (c : UInt8) : Int := match hexV c with
  | some v => v
  | none => -1

theorem hexI_dig (c : UInt8) (h : digitP c = true) : hexI c = (c.toNat : Int) - 48 := by
  have h' := (digit_iff c).1 h
  unfold hexI
  rw [hex_dig c h']
  show ((c.toNat - 48 : Nat) : Int) = _
  omega
theorem hexI_low (c : UInt8) (h1 : 97 ≤ (c.toNat : Int)) (h2 : (c.toNat : Int) ≤ 102) : hexI c = (c.toNat : Int) - 97 + 10 := by
  have h' : ¬ (48 ≤ c.toNat ∧ c.toNat ≤ 57) := by omega
  unfold hexI hexV
  rw [if_neg h', if_pos (by omega)]
  show ((c.toNat - 87 : Nat) : Int) = _
  omega
theorem hexI_up (c : UInt8) (h1 : 65 ≤ (c.toNat : Int)) (h2 : (c.toNat : Int) ≤ 70) : hexI c = (c.toNat : Int) - 65 + 10 := by
  unfold hexI hexV
  rw [if_neg (by omega), if_neg (by omega), if_pos (by omega)]
  show ((c.toNat - 55 : Nat) : Int) = _
  omega
theorem hexI_no (c : UInt8) (h : digitP c = false) (h1 : ¬ (97 ≤ (c.toNat : Int) ∧ (c.toNat : Int) ≤ 102)) (h2 : ¬ (65 ≤ (c.toNat : Int) ∧ (c.toNat : Int) ≤ 70)) : hexI c = -1 := by
  have h' : ¬ (48 ≤ c.toNat ∧ c.toNat ≤ 57) := by
    intro hh
    rw [(digit_iff c).2 hh] at h
    cases h
  unfold hexI hexV
  rw [if_neg h', if_neg (by omega), if_neg (by omega)]

set_option maxHeartbeats 2000000 in
theorem hexR_any (b : UInt8) (w : World) : Calls Tryd.prog 52 #[.int .u8 b.toNat] w fun e w' => e = .returned (.int .i64 (hexI b)) ∧ w' = w := by
  have cD := digitR_any b w
  have hb256 := b.toNat_lt
  cases hd : digitP b <;> rw [hd] at cD
  · by_cases h1 : 97 ≤ (b.toNat : Int)
    · by_cases h2 : (b.toNat : Int) ≤ 102
      · have HX := Lib.hid (hexI_low b h1 h2)
        clear hd
        go_enter Tryd.func52, Tryd.ntmps52
        go_wp2_with (go_at_call 24; refine cD.mono ?_; rintro e w' ⟨rfl, rfl⟩)
        go_ret
        exact ⟨by rw [HX.out]; rfl, rfl⟩
      · have HX := Lib.hid (hexI_no b hd (by omega) (by omega))
        clear hd
        go_enter Tryd.func52, Tryd.ntmps52
        go_wp2_with (go_at_call 24; refine cD.mono ?_; rintro e w' ⟨rfl, rfl⟩)
        all_goals first | (exfalso; omega) | skip
        go_ret
        exact ⟨by rw [HX.out]; rfl, rfl⟩
    · by_cases h3 : 65 ≤ (b.toNat : Int)
      · by_cases h4 : (b.toNat : Int) ≤ 70
        · have HX := Lib.hid (hexI_up b h3 h4)
          clear hd
          go_enter Tryd.func52, Tryd.ntmps52
          go_wp2_with (go_at_call 24; refine cD.mono ?_; rintro e w' ⟨rfl, rfl⟩)
          go_ret
          exact ⟨by rw [HX.out]; rfl, rfl⟩
        · have HX := Lib.hid (hexI_no b hd (by omega) (by omega))
          clear hd
          go_enter Tryd.func52, Tryd.ntmps52
          go_wp2_with (go_at_call 24; refine cD.mono ?_; rintro e w' ⟨rfl, rfl⟩)
          go_ret
          exact ⟨by rw [HX.out]; rfl, rfl⟩
      · have HX := Lib.hid (hexI_no b hd (by omega) (by omega))
        clear hd
        go_enter Tryd.func52, Tryd.ntmps52
        go_wp2_with (go_at_call 24; refine cD.mono ?_; rintro e w' ⟨rfl, rfl⟩)
        go_ret
        exact ⟨by rw [HX.out]; rfl, rfl⟩
  · have HX := Lib.hid (hexI_dig b hd)
    have h1 := ((digit_iff b).1 hd).1
    clear hd
    go_enter Tryd.func52, Tryd.ntmps52
    go_wp2_with (go_at_call 24; refine cD.mono ?_; rintro e w' ⟨rfl, rfl⟩)
    go_ret
    exact ⟨by rw [HX.out]; rfl, rfl⟩

theorem blank_eq : ∀ b : UInt8, blankP b = (((b.toNat : Int) == 9) || ((b.toNat : Int) == 10) || ((b.toNat : Int) == 13) || ((b.toNat : Int) == 32)) := byte_all (by decide +kernel)
theorem remark_eq : ∀ b : UInt8, remarkP b = ((b.toNat : Int) != 10) := byte_all (by decide +kernel)
theorem blank47 : blankP 47 = false := by decide +kernel

theorem skipTo_one {l : List UInt8} {k : Nat} (h : atP blankP l k = true) : skipTo l (k + 1) = skipTo l k := by
  unfold atP at h
  cases hk : l[k]? with
  | none => rw [hk] at h; cases h
  | some c =>
    rw [hk] at h
    obtain ⟨hl, rfl⟩ := List.getElem?_eq_some_iff.1 hk
    unfold skipTo
    rw [List.drop_eq_getElem_cons hl]
    have h' : blankP l[k] = true := h
    simp [skipN, h']
    omega

theorem slash2 (l : List UInt8) (k : Nat) : Lib.hasPrefix (l.drop k) [47, 47] = (l[k]? == some 47 && l[k + 1]? == some 47) := by
  unfold Lib.hasPrefix
  have h1 : l[k]? = (l.drop k)[0]? := by simp
  have h2 : l[k + 1]? = (l.drop k)[1]? := by simp
  rw [h1, h2]
  match l.drop k with
  | [] => rfl
  | [c] => simp [List.isPrefixOf]
  | c :: d :: r => simp [List.isPrefixOf]; rw [Bool.eq_iff_iff]; simp; constructor <;> (rintro ⟨a, b⟩; exact ⟨a.symm, b.symm⟩)

end Go.Proofs.YthggaojpkfdggaaDoor
