/- The document's Check of blocks. -/
import Derived.Test.YtaejhppfcmeopaaLvV
namespace Go.Proofs.Ytaejhppfcmeopaa
open Go.RowKit
section
variable {w : World}
set_option maxHeartbeats 1000000 in
theorem rwithin_any {v : Value} {l : List Int} (k : Int) (R : IntsAt w v l) : Calls Try.prog 23 #[v, .int .i64 k] w fun e w' => e = .returned (.bool (!(l.any (outI k)))) ∧ w' = w := by
  have hlen := R.len
  have HR := hide R
  obtain ⟨ao, cap, rfl⟩ := R.slice
  generalize hn : l.length = m at *
  have HN := hide hn
  have hm2 : (m : Int) ≤ 9223372036854775807 := by omega
  clear hn R
  go_enter Try.func23, Try.ntmps23
  go_wp2
  go_loopw [5] (fun i wr => ∃ j : Nat, j ≤ m ∧ i = .int .i64 j ∧ wr = w ∧ Hid ((l.take j).any (outI k) = false)) (fun i _ => m - (intOf i).toNat)
  case atStart => exact ⟨0, Nat.zero_le _, rfl, rfl, rfl⟩
  case round =>
    obtain ⟨j, hj, rfl, rfl, HJ⟩ := hrel
    by_cases hlt : j < m
    · obtain ⟨x, hx⟩ : ∃ x, l[j]? = some x := ⟨l[j]'(by rw [HN.out]; exact hlt), by simp⟩
      obtain ⟨g, o, rfl, hg, c0⟩ := HR.out.cell hx
      have hts := any_take_succ (q := outI k) hx
      rw [HJ.out, Bool.false_or] at hts
      have HTS := hide hts
      have bj : (j : Int) < (m : Int) := by omega
      clear hx hts HJ
      by_cases h1 : x < 0
      · have ho : outI k x = true := by simp [outI, h1]
        rw [ho] at HTS
        go_wp2
        go_ret
        exact ⟨ret_bool (by rw [any_of_take HTS.out]; rfl), rfl⟩
      · have h1' : decide (x < 0) = false := by simpa using h1
        by_cases h2 : k ≤ x
        · have ho : outI k x = true := by simp [outI, h2]
          rw [ho] at HTS
          go_wp2
          go_ret
          exact ⟨ret_bool (by rw [any_of_take HTS.out]; rfl), rfl⟩
        · have h2' : decide (k ≤ x) = false := by simpa using h2
          have ho : outI k x = false := by simp [outI, h1', h2']
          rw [ho] at HTS
          go_wp2
          go_roundw
          case rel => exact ⟨j + 1, by omega, by go_num, trivial, HTS⟩
          case measure => simp [intOf]; omega
    · obtain rfl : j = m := by omega
      go_wp2
      go_ret
      have h1 := HJ.out
      rw [List.take_of_length_le (by rw [HN.out]; exact Nat.le_refl _)] at h1
      exact ⟨ret_bool (by rw [h1]; rfl), rfl⟩
set_option maxHeartbeats 2000000 in
theorem rcheck_any {v : Value} {bs : List Blk} (k : Int) (R : BlksAt w v bs) : Calls Try.prog 10 #[v, .int .i64 k] w fun e w' => e = .returned (.int .i64 (fltP bs k)) ∧ w' = w := by
  have HR := hide R
  obtain ⟨ao, cap, rfl, _⟩ := R
  obtain ⟨n, hn⟩ : ∃ n, bs.length = n := ⟨_, rfl⟩
  have HN := hide hn
  rw [hn] at HR ⊢
  clear hn
  by_cases h1 : 512 < n
  · have h1' : (512 : Int) < (n : Int) := by omega
    have hf : Hid (fltP bs k = 4) := hide (by unfold fltP; rw [if_pos (.inl (by rw [HN.out]; exact h1))])
    go_enter Try.func10, Try.ntmps10
    go_wp2
    go_ret
    exact ⟨by rw [hf.out]; rfl, rfl⟩
  · have h1' : decide ((512 : Int) < (n : Int)) = false := by simp; omega
    by_cases h2 : k < 0
    · have hf : Hid (fltP bs k = 4) := hide (by unfold fltP; rw [if_pos (.inr (.inl h2))])
      go_enter Try.func10, Try.ntmps10
      go_wp2
      go_ret
      exact ⟨by rw [hf.out]; rfl, rfl⟩
    · have h2' : decide (k < 0) = false := by simpa using h2
      by_cases h3 : 4096 < k
      · have hf : Hid (fltP bs k = 4) := hide (by unfold fltP; rw [if_pos (.inr (.inr h3))])
        go_enter Try.func10, Try.ntmps10
        go_wp2
        go_ret
        exact ⟨by rw [hf.out]; rfl, rfl⟩
      · have h3' : decide (4096 < k) = false := by simpa using h3
        have hf : Hid (fltP bs k = if bs.any (badB k n) then 2 else 0) := hide (by
          unfold fltP
          rw [if_neg (by rw [HN.out]; omega), HN.out])
        have hn2 : (n : Int) ≤ 512 := by omega
        go_enter Try.func10, Try.ntmps10
        go_wp2
        go_loopw [5] (fun i wr => ∃ j : Nat, j ≤ n ∧ i = .int .i64 j ∧ wr = w ∧ Hid ((bs.take j).any (badB k n) = false)) (fun i _ => n - (intOf i).toNat)
        case atStart => exact ⟨0, Nat.zero_le _, rfl, rfl, rfl⟩
        case round =>
          obtain ⟨j, hj, rfl, hwr, HJ⟩ := hrel
          subst hwr
          by_cases hlt : j < n
          · obtain ⟨b, hb⟩ : ∃ b, bs[j]? = some b := ⟨bs[j]'(by rw [HN.out]; exact hlt), by simp⟩
            obtain ⟨a, c, h4, hcell⟩ := HR.out
            cases h4
            obtain ⟨g, o, vu, vd, vn, rfl, hg, e0, e1, e2, IU, ID, IN⟩ := hcell j b hb
            obtain ⟨au, cu, rfl⟩ := IU.slice
            obtain ⟨ad, cd, rfl⟩ := ID.slice
            obtain ⟨an, cn, rfl⟩ := IN.slice
            have hts := any_take_succ (q := badB k bs.length) hb
            rw [HJ.out, Bool.false_or] at hts
            have HTS := hide hts
            have bj : (j : Int) < (bs.length : Int) := by omega
            have c1 := rwithin_any k IU
            have c2 := rwithin_any k ID
            have c3 := rwithin_any (bs.length : Int) IN
            generalize bs.length = n at *
            clear hb hts HJ IU ID IN hcell HR
            cases q1 : b.u.any (outI k) with
            | true =>
              rw [q1] at c1
              clear c2 c3
              have hbad : badB k n b = true := by simp [badB, q1]
              rw [hbad] at HTS
              clear hbad
              go_wp2_with (go_at_call 23; with_reducible refine c1.mono ?_; rintro e w2 ⟨rfl, hw⟩; rw [hw]; clear hw w2)
              go_ret
              exact ⟨by rw [hf.out, any_of_take HTS.out]; rfl, rfl⟩
            | false =>
              rw [q1] at c1
              cases q2 : b.d.any (outI k) with
              | true =>
                rw [q2] at c2
                clear c3
                have hbad : badB k n b = true := by simp [badB, q2]
                rw [hbad] at HTS
                clear hbad
                go_wp2_with (first
                  | (have kk := st1; clear kk; go_at_call 23; with_reducible refine c2.mono ?_; rintro e w2 ⟨rfl, hw⟩; rw [hw]; clear hw w2)
                  | (go_at_call 23; with_reducible refine c1.mono ?_; rintro e w2 ⟨rfl, hw⟩; rw [hw]; clear hw w2; have st1 : True := trivial))
                go_ret
                exact ⟨by rw [hf.out, any_of_take HTS.out]; rfl, rfl⟩
              | false =>
                rw [q2] at c2
                cases q3 : b.n.any (outI (n : Int)) with
                | true =>
                  rw [q3] at c3
                  have hbad : badB k n b = true := by simp [badB, q3]
                  rw [hbad] at HTS
                  clear hbad
                  go_wp2_with (first
                    | (have kk := st2; clear kk; go_at_call 23; with_reducible refine c3.mono ?_; rintro e w2 ⟨rfl, hw⟩; rw [hw]; clear hw w2)
                    | (have kk := st1; clear kk; go_at_call 23; with_reducible refine c2.mono ?_; rintro e w2 ⟨rfl, hw⟩; rw [hw]; clear hw w2; have st2 : True := trivial)
                    | (go_at_call 23; with_reducible refine c1.mono ?_; rintro e w2 ⟨rfl, hw⟩; rw [hw]; clear hw w2; have st1 : True := trivial))
                  go_ret
                  exact ⟨by rw [hf.out, any_of_take HTS.out]; rfl, rfl⟩
                | false =>
                  rw [q3] at c3
                  have hbad : badB k n b = false := by simp only [badB, q1, q2, q3]; rfl
                  rw [hbad] at HTS
                  clear hbad
                  go_wp2_with (first
                    | (have kk := st2; clear kk; go_at_call 23; with_reducible refine c3.mono ?_; rintro e w2 ⟨rfl, hw⟩; rw [hw]; clear hw w2)
                    | (have kk := st1; clear kk; go_at_call 23; with_reducible refine c2.mono ?_; rintro e w2 ⟨rfl, hw⟩; rw [hw]; clear hw w2; have st2 : True := trivial)
                    | (go_at_call 23; with_reducible refine c1.mono ?_; rintro e w2 ⟨rfl, hw⟩; rw [hw]; clear hw w2; have st1 : True := trivial))
                  go_roundw
                  case rel => exact ⟨j + 1, by omega, by go_num, trivial, HTS⟩
                  case measure => simp [intOf]; omega
          · obtain rfl : j = n := by omega
            have h1 := HJ.out
            rw [List.take_of_length_le (by rw [HN.out]; exact Nat.le_refl _)] at h1
            have HF := hide h1
            clear h1
            go_wp2
            go_ret
            exact ⟨by rw [hf.out, HF.out]; rfl, rfl⟩
end
end Go.Proofs.Ytaejhppfcmeopaa
