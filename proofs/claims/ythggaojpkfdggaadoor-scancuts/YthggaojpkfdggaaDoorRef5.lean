/- The document's blanks. -/
import Derived.Test.YthggaojpkfdggaaDoorRef4
namespace Go.Proofs.YthggaojpkfdggaaDoor
open Go.RowKit

theorem b47 : ∀ b : UInt8, (b == 47) = ((b.toNat : Int) == 47) := byte_all (by decide +kernel)
theorem someb (a b : UInt8) : (some a == some b) = (a == b) := rfl

theorem slash_no0 (s : ByteArray) (j : Nat) (h : j < s.size) (ha : ((s[j].toNat : Int) == 47) = false) : Lib.hasPrefix (s.data.toList.drop j) [47, 47] = false := by
  rw [slash2, getElem_list s j h, someb, b47, ha]; rfl
theorem slash_short (s : ByteArray) (j : Nat) (h : ¬ j + 1 < s.size) : Lib.hasPrefix (s.data.toList.drop j) [47, 47] = false := by
  rw [slash2, show s.data.toList[j + 1]? = none from List.getElem?_eq_none (by simpa using h)]; simp
theorem slash_no1 (s : ByteArray) (j : Nat) (h : j + 1 < s.size) (ha : ((s[j + 1].toNat : Int) == 47) = false) : Lib.hasPrefix (s.data.toList.drop j) [47, 47] = false := by
  rw [slash2, getElem_list s (j + 1) h, someb (s[j + 1]), b47 (s[j + 1]), ha]; simp
theorem slash_yes (s : ByteArray) (j : Nat) (h : j + 1 < s.size) (ha : ((s[j].toNat : Int) == 47) = true) (hb : ((s[j + 1].toNat : Int) == 47) = true) : Lib.hasPrefix (s.data.toList.drop j) [47, 47] = true := by
  rw [slash2, getElem_list s (j + 1) h, someb (s[j + 1]), b47 (s[j + 1]), hb, getElem_list s j (by omega), someb, b47, ha]; rfl

set_option maxHeartbeats 2000000 in
theorem blanksR_any (s : ByteArray) (hs : s.size ≤ 65536) (k : Nat) (hkm : k ≤ s.size) (w : World) :
    Calls Tryd.prog 20 #[.string s, .int .i64 k] w fun e w' => e = .returned (.int .i64 (skipTo s.data.toList k)) ∧ w' = w := by
  have hll : s.data.toList.length = s.size := by simp
  have HL : Hid (s.data.toList.length = s.size) := hll
  clear hll
  go_enter Tryd.func20, Tryd.ntmps20
  go_wp2
  go_loop [1] (fun i => ∃ j : Nat, j ≤ s.size ∧ i = .int .i64 j ∧ Hid (skipTo s.data.toList j = skipTo s.data.toList k)) (fun i => s.size - (intOf i).toNat)
  case atStart => exact ⟨k, hkm, rfl, rfl⟩
  case round =>
    obtain ⟨j, hj, rfl, HE⟩ := hrel
    by_cases hlt : j < s.size
    · have hb := blank_eq s[j]
      have hat := atP_lt (p := blankP) (s := s) hlt
      cases hbl : blankP s[j]
      · rw [hbl] at hb hat
        have hb' := hb.symm
        simp only [Bool.or_eq_false_iff] at hb'
        obtain ⟨⟨⟨h9, h10⟩, h13⟩, h32⟩ := hb'
        have HEND : Hid (Lib.hasPrefix (s.data.toList.drop j) [47, 47] = false → skipTo s.data.toList k = j) := fun h => HE.out.symm.trans (skipTo_end _ _ hat h)
        clear hb hbl hat
        by_cases h1 : j + 1 < s.size
        · cases ha : ((s[j].toNat : Int) == 47)
          · have HNO := Lib.hid (HEND.out (slash_no0 s j hlt ha))
            go_wp2
            go_ret
            exact ⟨by rw [HNO.out]; rfl, rfl⟩
          · cases hc : ((s[j + 1].toNat : Int) == 47)
            · have HNO := Lib.hid (HEND.out (slash_no1 s j h1 hc))
              go_wp2
              go_ret
              exact ⟨by rw [HNO.out]; rfl, rfl⟩
            · have HR := Lib.hid (skipTo_remark s.data.toList j (slash_yes s j h1 ha hc))
              have h2 := endOf_le remarkP s.data.toList j (by rw [HL.out]; exact hj)
              rw [HL.out] at h2
              have h3 := HR.out.2
              have HR' : Hid (skipTo s.data.toList (endOf remarkP s.data.toList j) = skipTo s.data.toList k) := HR.out.1.trans HE.out
              clear HR
              generalize hX : endOf remarkP s.data.toList j = e1 at h2 h3 HR'
              have HX := Lib.hid hX
              clear hX
              go_wp2
              go_loop [1] (fun i => ∃ m : Nat, m ≤ s.size ∧ i = .int .i64 m ∧ Hid (endOf remarkP s.data.toList m = e1)) (fun i => s.size - (intOf i).toNat)
              case atStart => exact ⟨j, hj, rfl, HX⟩
              case round =>
                obtain ⟨m, hm, rfl, HM⟩ := hrel
                clear ha hc h9 h10 h13 h32 h1
                by_cases hmt : m < s.size
                · have hr := remark_eq s[m]
                  have hra := atP_lt (p := remarkP) (s := s) hmt
                  cases hrm : remarkP s[m]
                  · rw [hrm] at hr hra
                    have hr' := hr.symm
                    have HN : Hid (e1 = m) := HM.out.symm.trans (endOf_no hra)
                    have hle : e1 = m := HN.out
                    subst hle
                    clear hr hra hrm HN
                    go_wp2
                    go_round
                    case rel => exact ⟨e1, h2, rfl, HR'⟩
                    case measure => simp [intOf]; omega
                  · rw [hrm] at hr hra
                    have hr' := hr.symm
                    have HN := Lib.hid ((endOf_yes hra).2.trans HM.out)
                    clear hr hra hrm
                    go_wp2
                    go_round
                    case rel => exact ⟨m + 1, hmt, by go_num, HN⟩
                    case measure => simp [intOf]; omega
                · have HN : Hid (e1 = m) := HM.out.symm.trans (endOf_no (atP_ge hmt))
                  have hle : e1 = m := HN.out
                  subst hle
                  clear HN
                  go_wp2
                  go_round
                  case rel => exact ⟨e1, h2, rfl, HR'⟩
                  case measure => simp [intOf]; omega
        · have HNO := Lib.hid (HEND.out (slash_short s j h1))
          go_wp2
          go_ret
          exact ⟨by rw [HNO.out]; rfl, rfl⟩
      · rw [hbl] at hb hat
        have hb' := hb.symm
        have HN := Lib.hid ((skipTo_one hat).trans HE.out)
        clear hb hbl hat
        cases h9 : ((s[j].toNat : Int) == 9)
        · rw [h9, Bool.false_or] at hb'
          cases h10 : ((s[j].toNat : Int) == 10)
          · rw [h10, Bool.false_or] at hb'
            cases h13 : ((s[j].toNat : Int) == 13)
            · rw [h13, Bool.false_or] at hb'
              go_wp2
              go_round
              case rel => exact ⟨j + 1, hlt, by go_num, HN⟩
              case measure => simp [intOf]; omega
            · clear hb'
              go_wp2
              go_round
              case rel => exact ⟨j + 1, hlt, by go_num, HN⟩
              case measure => simp [intOf]; omega
          · clear hb'
            go_wp2
            go_round
            case rel => exact ⟨j + 1, hlt, by go_num, HN⟩
            case measure => simp [intOf]; omega
        · clear hb'
          go_wp2
          go_round
          case rel => exact ⟨j + 1, hlt, by go_num, HN⟩
          case measure => simp [intOf]; omega
    · have HNO : Hid (skipTo s.data.toList k = j) := by
        have := skipTo_le s.data.toList j (by rw [HL.out]; exact hj)
        have := skipTo_ge s.data.toList j
        have := HL.out
        show _ = _
        rw [← HE.out]; omega
      go_wp2
      go_ret
      exact ⟨by rw [HNO.out]; rfl, rfl⟩

end Go.Proofs.YthggaojpkfdggaaDoor
