/- The document's numbers, walked. -/
import Derived.Test.YthggaojpkfdggaaDoorRef6
namespace Go.Proofs.YthggaojpkfdggaaDoor
open Go.RowKit

/-- n is the value of the digits from k to m. -/
def NumTo (l : List UInt8) (k m n : Nat) : Prop := n = numOf (seg l k m) ∧ endOf digitP l m = endOf digitP l k ∧ k ≤ m

theorem NumTo.start (l : List UInt8) (k : Nat) : NumTo l k k 0 := ⟨by rw [seg_self]; rfl, rfl, Nat.le_refl _⟩
theorem NumTo.step {s : ByteArray} {k m n : Nat} (h : NumTo s.data.toList k m n) (hm : m < s.size) (hd : digitP s[m] = true) : NumTo s.data.toList k (m + 1) (n * 10 + (s[m].toNat - 48)) := by
  obtain ⟨h1, h2, h3⟩ := h
  refine ⟨by rw [num_succ s k m h3 hm, h1], ?_, by omega⟩
  rw [← h2]
  exact (endOf_yes (by rw [atP_lt hm]; exact hd)).2
theorem NumTo.lt {s : ByteArray} {k m n : Nat} (h : NumTo s.data.toList k m n) (hm : m ≤ s.size) : n < 10 ^ (m - k) := by
  obtain ⟨h1, h2, h3⟩ := h
  have ha := end_seg_all digitP s.data.toList k m (by rw [← h2]; exact endOf_ge _ _ _)
  have := num_lt _ 0 ha
  rw [seg_len _ _ _ (by simpa using hm)] at this
  rw [h1]
  unfold numOf
  omega
theorem NumTo.lt18 {s : ByteArray} {k m n : Nat} (h : NumTo s.data.toList k m n) (hm : m ≤ s.size) (hk : m - k ≤ 18) : n < 1000000000000000000 := by
  have h1 := h.lt hm
  have h2 : 10 ^ (m - k) ≤ 10 ^ 18 := Nat.pow_le_pow_right (by omega) hk
  have h3 : (10 : Nat) ^ 18 = 1000000000000000000 := by decide
  omega
theorem NumTo.lt19 {s : ByteArray} {k m n : Nat} (h : NumTo s.data.toList k m n) (hm : m ≤ s.size) (hk : m - k ≤ 19) : n < 10000000000000000000 := by
  have h1 := h.lt hm
  have h2 : 10 ^ (m - k) ≤ 10 ^ 19 := Nat.pow_le_pow_right (by omega) hk
  have h3 : (10 : Nat) ^ 19 = 10000000000000000000 := by decide
  omega
theorem NumTo.over {s : ByteArray} {k m n : Nat} (h : NumTo s.data.toList k m n) (hm : m < s.size) (hd : digitP s[m] = true) (hk : k < s.size) (hdk : digitP s[k] = true) (h19 : 19 ≤ m - k) : numL s.data.toList k = none := by
  refine numL_long s k hk hdk ?_
  have h1 := endOf_gt (p := digitP) (l := s.data.toList) (k := m) (by rw [atP_lt hm]; exact hd)
  rw [h.2.1] at h1
  omega

theorem NumTo.fin {s : ByteArray} {k m n : Nat} (h : NumTo s.data.toList k m n) (ha : atP digitP s.data.toList m = false) : endOf digitP s.data.toList k = m := by
  rw [← h.2.1]; exact endOf_no ha

theorem NumTo.big {s : ByteArray} {k m n : Nat} (h : NumTo s.data.toList k m n) (ha : atP digitP s.data.toList m = false) (hb : 9223372036854775807 < n) : numL s.data.toList k = none := by
  have e := h.fin ha
  unfold numL
  rw [e]
  repeat' split
  all_goals first | rfl | skip
  rename_i h3
  rw [← h.1] at h3
  omega
theorem NumTo.nought {s : ByteArray} {k m n : Nat} (h : NumTo s.data.toList k m n) (ha : atP digitP s.data.toList m = false) (hk : k < s.size) (h48 : ((s[k].toNat : Int) == 48) = true) (hb : k + 1 < m) : numL s.data.toList k = none := by
  have e := h.fin ha
  have h48' : s[k] = 48 := UInt8.toNat_inj.1 (by have := beq_iff_eq.1 h48; rw [show (48 : UInt8).toNat = 48 from rfl]; omega)
  unfold numL
  rw [e, if_pos ⟨by rw [getElem_list s k hk, h48'], hb⟩]
theorem NumTo.letter {s : ByteArray} {k m n : Nat} (h : NumTo s.data.toList k m n) (ha : atP digitP s.data.toList m = false) (hf : atP firstP s.data.toList m = true) : numL s.data.toList k = none := by
  have e := h.fin ha
  unfold numL
  rw [e]
  rw [if_pos hf]
  split <;> rfl
theorem NumTo.good {s : ByteArray} {k m n : Nat} (h : NumTo s.data.toList k m n) (ha : atP digitP s.data.toList m = false) (hk : k < s.size) (h1 : ((s[k].toNat : Int) == 48) = false ∨ ¬ k + 1 < m) (hf : atP firstP s.data.toList m = false) (hb : ¬ 9223372036854775807 < n) : numL s.data.toList k = some (2, [], (n : Int), m) := by
  have e := h.fin ha
  unfold numL
  rw [e, if_neg, hf, if_neg (by simp), ← h.1, if_neg (by omega)]
  rw [getElem_list s k hk]
  rintro ⟨h2, h3⟩
  rcases h1 with h1 | h1
  · rw [Option.some.inj h2] at h1
    exact absurd h1 (by decide)
  · exact h1 h3

set_option maxHeartbeats 2000000 in
theorem numberR_any (s : ByteArray) (hs : s.size ≤ 65536) (k : Nat) (hk : k < s.size) (hdk : digitP s[k] = true) (w : World) :
    Calls Tryd.prog 34 #[.string s, .int .i64 k] w fun e w' => e = .returned (numR (numL s.data.toList k)) ∧ w' = w := by
  have HDK := Lib.hid hdk
  clear hdk
  go_enter Tryd.func34, Tryd.ntmps34
  go_wp2
  go_loop [6, 7] (fun i v => ∃ m n : Nat, k ≤ m ∧ m ≤ s.size ∧ m - k ≤ 19 ∧ i = .int .i64 m ∧ v = .int .u64 n ∧ Hid (NumTo s.data.toList k m n)) (fun i _ => s.size - (intOf i).toNat)
  case atStart => exact ⟨k, 0, Nat.le_refl _, by omega, by omega, rfl, rfl, NumTo.start _ _⟩
  case round =>
    obtain ⟨m, n, hkm, hm, h19, rfl, rfl, HN⟩ := hrel
    by_cases hlt : m < s.size
    · have cD := digitR_any s[m]
      cases hd : digitP s[m]
      · have hat : atP digitP s.data.toList m = false := by rw [atP_lt hlt]; exact hd
        rw [hd] at cD
        have HAT := Lib.hid hat
        clear hd hat
        have HNN := HN
        by_cases hbig : 9223372036854775807 < n
        · have HX := Lib.hid (HN.out.big HAT.out hbig)
          go_wp2_with fail
          refine (cD _).mono ?_
          rintro e w' ⟨rfl, hw'⟩
          subst hw'
          go_wp2
          go_ret2
          exact ⟨by rw [HX.out]; rfl, rfl⟩
        · have cL := letterR_any s[m]
          have hatf := atP_lt (p := firstP) (s := s) hlt
          have hbig' : decide (9223372036854775807 < (n : Int)) = false := by simp; omega
          cases h48 : ((s[k].toNat : Int) == 48)
          · cases hf : firstP s[m]
            · rw [hf] at cL hatf
              have HX := Lib.hid (HN.out.good HAT.out hk (Or.inl h48) hatf hbig)
              clear hf hatf
              go_wp2_with fail
              refine (cD _).mono ?_
              rintro e w' ⟨rfl, hw'⟩
              subst hw'
              go_wp2_with fail
              refine (cL _).mono ?_
              rintro e w' ⟨rfl, hw'⟩
              subst hw'
              go_wp2
              go_ret2
              exact ⟨by rw [HX.out]; rfl, rfl⟩
            · rw [hf] at cL hatf
              have HX := Lib.hid (HN.out.letter HAT.out hatf)
              clear hf hatf
              go_wp2_with fail
              refine (cD _).mono ?_
              rintro e w' ⟨rfl, hw'⟩
              subst hw'
              go_wp2_with fail
              refine (cL _).mono ?_
              rintro e w' ⟨rfl, hw'⟩
              subst hw'
              go_wp2
              go_ret2
              exact ⟨by rw [HX.out]; rfl, rfl⟩
          · by_cases hk1 : k + 1 < m
            · have HX := Lib.hid (HN.out.nought HAT.out hk h48 hk1)
              go_wp2_with fail
              refine (cD _).mono ?_
              rintro e w' ⟨rfl, hw'⟩
              subst hw'
              go_wp2
              go_ret2
              exact ⟨by rw [HX.out]; rfl, rfl⟩
            · cases hf : firstP s[m]
              · rw [hf] at cL hatf
                have HX := Lib.hid (HN.out.good HAT.out hk (Or.inr hk1) hatf hbig)
                clear hf hatf
                go_wp2_with fail
                refine (cD _).mono ?_
                rintro e w' ⟨rfl, hw'⟩
                subst hw'
                go_wp2_with fail
                refine (cL _).mono ?_
                rintro e w' ⟨rfl, hw'⟩
                subst hw'
                go_wp2
                go_ret2
                exact ⟨by rw [HX.out]; rfl, rfl⟩
              · rw [hf] at cL hatf
                have HX := Lib.hid (HN.out.letter HAT.out hatf)
                clear hf hatf
                go_wp2_with fail
                refine (cD _).mono ?_
                rintro e w' ⟨rfl, hw'⟩
                subst hw'
                go_wp2_with fail
                refine (cL _).mono ?_
                rintro e w' ⟨rfl, hw'⟩
                subst hw'
                go_wp2
                go_ret2
                exact ⟨by rw [HX.out]; rfl, rfl⟩
      · rw [hd] at cD
        by_cases hover : m - k = 19
        · have HX := Lib.hid (HN.out.over hlt hd hk HDK.out (by omega))
          clear hd
          go_wp2_with fail
          refine (cD _).mono ?_
          rintro e w' ⟨rfl, hw'⟩
          subst hw'
          go_wp2
          go_ret2
          exact ⟨by rw [HX.out]; rfl, rfl⟩
        · have HX := Lib.hid (HN.out.step hlt hd)
          have hn := HN.out.lt18 hm (by omega)
          have hd' := (digit_iff s[m]).1 hd
          clear hd
          go_wp2_with fail
          refine (cD _).mono ?_
          rintro e w' ⟨rfl, hw'⟩
          subst hw'
          go_wp2
          go_round
          case rel => exact ⟨m + 1, n * 10 + (s[m].toNat - 48), by omega, by omega, by omega, by go_num, by go_num, HX⟩
          case measure => simp [intOf]; omega
    · have HAT := Lib.hid (atP_ge (p := digitP) hlt)
      have HATF := Lib.hid (atP_ge (p := firstP) hlt)
      by_cases hbig : 9223372036854775807 < n
      · have HX := Lib.hid (HN.out.big HAT.out hbig)
        go_wp2
        go_ret2
        exact ⟨by rw [HX.out]; rfl, rfl⟩
      · have hbig' : decide (9223372036854775807 < (n : Int)) = false := by simp; omega
        cases h48 : ((s[k].toNat : Int) == 48)
        · have HX := Lib.hid (HN.out.good HAT.out hk (Or.inl h48) HATF.out hbig)
          go_wp2
          go_ret2
          exact ⟨by rw [HX.out]; rfl, rfl⟩
        · by_cases hk1 : k + 1 < m
          · have HX := Lib.hid (HN.out.nought HAT.out hk h48 hk1)
            go_wp2
            go_ret2
            exact ⟨by rw [HX.out]; rfl, rfl⟩
          · have HX := Lib.hid (HN.out.good HAT.out hk (Or.inr hk1) HATF.out hbig)
            go_wp2
            go_ret2
            exact ⟨by rw [HX.out]; rfl, rfl⟩

end Go.Proofs.YthggaojpkfdggaaDoor
