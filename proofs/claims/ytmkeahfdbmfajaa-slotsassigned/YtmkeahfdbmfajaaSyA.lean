/- SlotsApart: ranges of one slot do not overlap; there are just as many slots as ranges overlap at most. -/
import Derived.Test.YtmkeahfdbmfajaaSxY
import Derived.Test.YtmkeahfdbmfajaaSxR
namespace Go.Proofs.Ytmkeahfdbmfajaa
open Go.RowKit
theorem cnt_mst {l : List Rg} (h : fltP l = 0) : cntP l = mstP l := by
  unfold cntP mstP
  rw [if_pos h, if_pos h]
  have := len_mo (snd_k h) l.length (Nat.le_refl _)
  rw [List.take_of_length_le (by rw [ordP_len]; exact Nat.le_refl _)] at this
  exact this
theorem apart_in {l : List Rg} (h : fltP l = 0) : In l (ordP l) (asgP l).1 (sltP l) := by
  have := in_take (snd_k h) l.length (Nat.le_refl _)
  rw [List.take_of_length_le (by rw [ordP_len]; exact Nat.le_refl _)] at this
  unfold sltP
  rw [if_pos h]
  exact this
theorem slt_get {l : List Rg} (h : fltP l = 0) {a : Nat} (ha : a < l.length) : ∃ s : Nat, (sltP l)[a]? = some (s : Int) ∧ s < cntP l := by
  obtain ⟨s, h1, h2, _⟩ := (apart_in h).lt a ((ordP_perm l).mem_iff.mpr (List.mem_range.mpr ha))
  exact ⟨s, h1, by unfold cntP; rw [if_pos h]; exact h2⟩
theorem slt_ap {l : List Rg} (h : fltP l = 0) {a b : Nat} (ha : a < l.length) (hb : b < l.length) (hne : a ≠ b) (he : (sltP l)[a]? = (sltP l)[b]?) : kt l a ≤ kf l b ∨ kt l b ≤ kf l a := by
  obtain ⟨i, hi⟩ := List.getElem?_of_mem ((ordP_perm l).mem_iff.mpr (List.mem_range.mpr ha))
  obtain ⟨j, hj⟩ := List.getElem?_of_mem ((ordP_perm l).mem_iff.mpr (List.mem_range.mpr hb))
  rcases Nat.lt_trichotomy i j with hij | hij | hij
  · exact .inl ((apart_in h).ap i j a b hij hi hj he)
  · subst hij; rw [hi] at hj; exact absurd (Option.some.inj hj) hne
  · exact .inr ((apart_in h).ap j i b a hij hj hi he.symm)
section
variable {w : World}
set_option maxRecDepth 20000 in
set_option maxHeartbeats 4000000 in
theorem apart_law {v : Value} {l : List Rg} (R : RgsAt w v l) : Calls Try.prog 4 #[v] w fun e w' => e = .returned (.bool true) ∧ Below w.heap.size w w' := by
  have hs := assign_any R
  have HM := hide (fun (w1 : World) (h : Below w.heap.size w w1) => most_any (R.below h))
  have HA := hide (fun W : World => awake_any W)
  have HR := hide R
  obtain ⟨ao, cap, rfl⟩ := R.slice
  have hlen := R.len
  by_cases h0 : fltP l = 0
  · have HF := hide h0
    rw [h0] at hs HM
    rw [← cnt_mst h0] at HM
    have hsl := slt_len h0
    obtain ⟨n, hn⟩ : ∃ n, l.length = n := ⟨_, rfl⟩
    have HN := hide hn
    obtain ⟨cn, hcn⟩ : ∃ cn, cntP l = cn := ⟨_, rfl⟩
    have HC := hide hcn
    rw [hcn] at hs HM
    rw [hn] at hs HM HR hlen hsl ⊢
    have HSL := hide hsl
    clear R hn hcn h0 hsl
    have hn2 : (n : Int) ≤ 9223372036854775807 := by omega
    by_cases hbig : 300 < n
    · have hb' : (300 : Int) < (n : Int) := by omega
      go_enter Try.func4, Try.ntmps4
      go_wp2_with (first
        | (have kk := hb3; clear kk; go_at_call 10; refine (HA.out _).mono ?_; rintro e w4 ⟨rfl, hb4⟩)
        | (go_at_call 10; refine (HA.out _).mono ?_; rintro e w3 ⟨rfl, hb3⟩)
        | (go_at_call 8; refine (HM.out _ HB1.out).mono ?_; rintro e w2 ⟨rfl, hb2⟩)
        | (go_at_call 7; refine hs.mono ?_; rintro e w1 ⟨⟨vs, rfl, HI⟩, hb1⟩; have HB1 := hide hb1; clear hs hb1))
      go_ret
      have h2 := HB1.out.trans (hb2.mono HB1.out.size)
      have h3 := h2.trans (hb3.mono h2.size)
      exact ⟨rfl, h3.trans (hb4.mono h3.size)⟩
    · have hb' : decide ((300 : Int) < (n : Int)) = false := by simp; omega
      have hn3 : (n : Int) ≤ 300 := by omega
      go_enter Try.func4, Try.ntmps4
      go_wp2_with (first
        | (go_at_call 10; refine (HA.out _).mono ?_; rintro e w3 ⟨rfl, hb3⟩
           have HB3 := hide (HB2.out.trans (hb3.mono HB2.out.size))
           have HI3 := hide ((HI.out.below hb2).below hb3)
           clear hb3 hb2)
        | (go_at_call 8; refine (HM.out _ HB1.out).mono ?_; rintro e w2 ⟨rfl, hb2⟩; have HB2 := hide (HB1.out.trans (hb2.mono HB1.out.size)))
        | (go_at_call 7; refine hs.mono ?_; rintro e w1 ⟨⟨vs, rfl, HI⟩, hb1⟩; obtain ⟨a1, c1, e1⟩ := HI.out.slice; rw [HSL.out] at e1; subst e1; have HB1 := hide hb1; clear hs hb1))
      go_loopw [8] (fun i wr => ∃ j q : Nat, j ≤ n ∧ i = .int .i64 j ∧ wr = w3.drewN q) (fun i _ => n - (intOf i).toNat)
      case atStart => exact ⟨0, 0, Nat.zero_le _, rfl, rfl⟩
      case round =>
        obtain ⟨j, q, hj, rfl, rfl⟩ := hrel
        by_cases hlt : j < n
        · obtain ⟨sj, hsj, hsc⟩ := slt_get HF.out (show j < l.length by rw [HN.out]; exact hlt)
          rw [HC.out] at hsc
          obtain ⟨p, hp⟩ : ∃ p, l[j]? = some p := ⟨l[j]'(by rw [HN.out]; exact hlt), by simp⟩
          obtain ⟨gs, os, rfl, hgs, cs⟩ := HI3.out.cell hsj
          obtain ⟨gl, ol, rfl, hgl, f0, f1⟩ := (HR.out.below HB3.out).cell hp
          have bj : (j : Int) < (n : Int) := by omega
          have s0 : (0 : Int) ≤ (sj : Int) := by omega
          have s1 : (sj : Int) < (cn : Int) := by omega
          have HP := hide (And.intro hsj hp)
          clear hsj hp hsc
          go_wp2
          go_loopw [9] (fun i wr => ∃ k q : Nat, k ≤ j ∧ i = .int .i64 k ∧ wr = w3.drewN q) (fun i _ => j - (intOf i).toNat)
          case atStart => exact ⟨0, q, Nat.zero_le _, rfl, rfl⟩
          case round =>
            obtain ⟨k, q2, hk, rfl, rfl⟩ := hrel
            by_cases hkj : k < j
            · have hkl : k < l.length := by rw [HN.out]; omega
              obtain ⟨sk, hsk, _⟩ := slt_get HF.out hkl
              obtain ⟨r, hr⟩ : ∃ r, l[k]? = some r := ⟨l[k], by simp⟩
              obtain ⟨gs', os', e2, hgs', cs'⟩ := HI3.out.cell hsk
              cases e2
              obtain ⟨gl', ol', e3, hgl', f0', f1'⟩ := (HR.out.below HB3.out).cell hr
              cases e3
              have bk : (k : Int) < (j : Int) := by omega
              have bk2 : (k : Int) < (n : Int) := by omega
              by_cases hss : sj = sk
              · subst hss
                have hap := slt_ap HF.out (a := j) (b := k) (by rw [HN.out]; exact hlt) hkl (by omega) (by rw [HP.out.1, hsk])
                rw [kf_get HP.out.2, kt_get HP.out.2, kf_get hr, kt_get hr] at hap
                clear hsk hr
                by_cases hov : p.fr < r.en
                · have hov2 : p.en ≤ r.fr := by omega
                  clear hap
                  go_wp2
                  go_quiet (fail)
                  go_wp2
                  go_roundw
                  case rel => exact ⟨k + 1, q2 + nq, by omega, by go_num, rfl⟩
                  case measure => simp [intOf]; omega
                · have hov2 : decide (p.fr < r.en) = false := by simpa using hov
                  clear hap hov
                  go_wp2
                  go_quiet (fail)
                  go_wp2
                  go_roundw
                  case rel => exact ⟨k + 1, q2 + nq, by omega, by go_num, rfl⟩
                  case measure => simp [intOf]; omega
              · have hss2 : ((sj : Int) == (sk : Int)) = false := by simp; omega
                clear hsk hr
                go_wp2
                go_quiet (fail)
                go_wp2
                go_roundw
                case rel => exact ⟨k + 1, q2 + nq, by omega, by go_num, rfl⟩
                case measure => simp [intOf]; omega
            · obtain rfl : k = j := by omega
              go_wp2
              go_roundw
              case rel => exact ⟨k + 1, q2, by omega, by go_num, rfl⟩
              case measure => simp [intOf]; omega
        · obtain rfl : j = n := by omega
          go_wp2
          go_ret
          exact ⟨rfl, HB3.out.trans ((below_drewN (Below.refl _ _) q).mono HB3.out.size)⟩
  · obtain ⟨f, hf⟩ : ∃ f, fltP l = f := ⟨_, rfl⟩
    rw [hf] at hs HM h0
    have hf2 : decide (f = 0) = false := by simpa using h0
    have hf3 : (f == 0) = false := by simpa using h0
    generalize l.length = n at *
    generalize cntP l = cn at *
    generalize mstP l = mn at *
    clear R hf
    go_enter Try.func4, Try.ntmps4
    go_wp2_with (first
      | (have kk := hb3; clear kk; go_at_call 10; refine (HA.out _).mono ?_; rintro e w4 ⟨rfl, hb4⟩)
      | (go_at_call 10; refine (HA.out _).mono ?_; rintro e w3 ⟨rfl, hb3⟩)
      | (go_at_call 8; refine (HM.out _ HB1.out).mono ?_; rintro e w2 ⟨rfl, hb2⟩)
      | (go_at_call 7; refine hs.mono ?_; rintro e w1 ⟨⟨vs, rfl, HI⟩, hb1⟩; have HB1 := hide hb1; clear hs hb1))
    go_ret
    have h2 := HB1.out.trans (hb2.mono HB1.out.size)
    have h3 := h2.trans (hb3.mono h2.size)
    exact ⟨rfl, h3.trans (hb4.mono h3.size)⟩
end
end Go.Proofs.Ytmkeahfdbmfajaa
