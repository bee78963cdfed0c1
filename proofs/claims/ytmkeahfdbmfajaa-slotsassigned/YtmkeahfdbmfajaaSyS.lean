/- SlotsAssigned: the slots of any ranges, and how many overlap, are the document's. -/
import Derived.Test.YtmkeahfdbmfajaaSyD
import Derived.Test.YtmkeahfdbmfajaaSyA
namespace Go.Proofs.Ytmkeahfdbmfajaa
open Go.RowKit
section
variable {w : World}
set_option maxRecDepth 20000 in
set_option maxHeartbeats 4000000 in
theorem assigned_law {v : Value} {l : List Rg} (R : RgsAt w v l) : Calls Try.prog 3 #[v] w fun e w' => e = .returned (.bool true) ∧ Below w.heap.size w w' := by
  have hs := assign_any R
  have HM := hide (fun (w1 : World) (h : Below w.heap.size w w1) => most_any (R.below h))
  have HK := hide (fun (w1 : World) (h : Below w.heap.size w w1) => rcheck_any (R.below h))
  have HA := hide (fun W : World => awake_any W)
  have HR := hide R
  obtain ⟨ao, cap, rfl⟩ := R.slice
  have hlen := R.len
  by_cases h0 : fltP l = 0
  · rw [h0] at hs HM HK
    have hsl := slt_len h0
    by_cases hbig : 300 < l.length
    · generalize cntP l = cn at *
      generalize mstP l = mn at *
      obtain ⟨n, hn⟩ : ∃ n, l.length = n := ⟨_, rfl⟩
      rw [hn] at hs HM HK hlen hsl hbig ⊢
      have hb' : (300 : Int) < (n : Int) := by omega
      have hn2 : (n : Int) ≤ 9223372036854775807 := by omega
      clear R hn h0 HR
      go_enter Try.func3, Try.ntmps3
      go_wp2_with (first
        | (go_at_call 10; refine (HA.out _).mono ?_; rintro e w4 ⟨rfl, hb4⟩)
        | (go_at_call 9; refine (HK.out _ HB2.out).mono ?_; rintro e w3 ⟨rfl, hb3⟩; have HB3 := hide (HB2.out.trans (hb3.mono HB2.out.size)))
        | (go_at_call 8; refine (HM.out _ HB1.out).mono ?_; rintro e w2 ⟨rfl, hb2⟩; have HB2 := hide (HB1.out.trans (hb2.mono HB1.out.size)))
        | (go_at_call 7; refine hs.mono ?_; rintro e w1 ⟨⟨vs, rfl, HI⟩, hb1⟩; obtain ⟨a1, c1, e1⟩ := HI.out.slice; rw [hsl] at e1; subst e1; have HB1 := hide hb1; clear hs hb1))
      go_ret
      exact ⟨rfl, HB3.out.trans (hb4.mono HB3.out.size)⟩
    · have hl2 := (fltP_ok h0).1
      have hcm : Hid (cntP l = (asgP l).1.length) := hide (if_pos h0)
      have hms : Hid (mstP l = rmo l l.length) := hide (by rw [rmo_eq (snd_k h0)]; exact if_pos h0)
      have hsa : Hid (sltP l = (asgP l).2) := hide (if_pos h0)
      have HT := hide (fun (w1 : World) (h : Below w.heap.size w w1) => rassign_any (R.below h) hl2)
      have HQ := hide (fun (w1 : World) (h : Below w.heap.size w w1) => rmost_any (R.below h) hl2)
      rw [← hcm.out, ← hsa.out] at HT
      rw [← hms.out] at HQ
      generalize cntP l = cn at *
      generalize mstP l = mn at *
      obtain ⟨n, hn⟩ : ∃ n, l.length = n := ⟨_, rfl⟩
      rw [hn] at hs HM HK HT HQ hlen hsl hbig ⊢
      have hb' : decide ((300 : Int) < (n : Int)) = false := by simp; omega
      have hn2 : (n : Int) ≤ 300 := by omega
      have HSL := hide hsl
      clear R hn h0 HR hcm hms hsa hbig
      go_enter Try.func3, Try.ntmps3
      go_wp2_with (first
        | (go_at_call 13; refine (HQ.out _ HB6.out).mono ?_; rintro e w7 ⟨rfl, hb7⟩)
        | (go_at_call 12; refine HSM.out.mono ?_; rintro e w6 ⟨rfl, hb6⟩; have HB6 := hide (HB5.out.trans (hb6.mono HB5.out.size)); clear hb6)
        | (go_at_call 11; refine (HT.out _ HB4.out).mono ?_; rintro e w5 ⟨⟨vt, rfl, HI5⟩, hb5⟩
           have HB5 := hide (HB4.out.trans (hb5.mono HB4.out.size))
           have HSM := hide (samei_any (HI4.out.below hb5) HI5.out (by rw [HSL.out]; omega))
           clear hb5)
        | (go_at_call 10; refine (HA.out _).mono ?_; rintro e w4 ⟨rfl, hb4⟩
           have HB4 := hide (HB3.out.trans (hb4.mono HB3.out.size))
           have HI4 := hide (HI3.out.below hb4)
           clear hb4)
        | (go_at_call 9; refine (HK.out _ HB2.out).mono ?_; rintro e w3 ⟨rfl, hb3⟩
           have HB3 := hide (HB2.out.trans (hb3.mono HB2.out.size))
           have HI3 := hide ((HI.out.below hb2).below hb3)
           clear hb3 hb2)
        | (go_at_call 8; refine (HM.out _ HB1.out).mono ?_; rintro e w2 ⟨rfl, hb2⟩; have HB2 := hide (HB1.out.trans (hb2.mono HB1.out.size)))
        | (go_at_call 7; refine hs.mono ?_; rintro e w1 ⟨⟨vs, rfl, HI⟩, hb1⟩; obtain ⟨a1, c1, e1⟩ := HI.out.slice; rw [HSL.out] at e1; subst e1; have HB1 := hide hb1; clear hs hb1))
      go_ret
      exact ⟨rfl, HB6.out.trans (hb7.mono HB6.out.size)⟩
  · have hc0 : cntP l = 0 := if_neg h0
    have hm0 : mstP l = 0 := if_neg h0
    have hs0 : sltP l = [] := if_neg h0
    rw [hc0, hs0] at hs
    rw [hm0] at HM
    obtain ⟨f, hf⟩ : ∃ f, fltP l = f := ⟨_, rfl⟩
    rw [hf] at hs HM HK h0
    have hf2 : decide (f = 0) = false := by simpa using h0
    have hf3 : (f == 0) = false := by simpa using h0
    generalize l.length = n at *
    clear R hf HR hc0 hm0 hs0
    go_enter Try.func3, Try.ntmps3
    go_wp2_with (first
      | (go_at_call 10; refine (HA.out _).mono ?_; rintro e w4 ⟨rfl, hb4⟩)
      | (go_at_call 9; refine (HK.out _ HB2.out).mono ?_; rintro e w3 ⟨rfl, hb3⟩; have HB3 := hide (HB2.out.trans (hb3.mono HB2.out.size)))
      | (go_at_call 8; refine (HM.out _ HB1.out).mono ?_; rintro e w2 ⟨rfl, hb2⟩; have HB2 := hide (HB1.out.trans (hb2.mono HB1.out.size)))
      | (go_at_call 7; refine hs.mono ?_; rintro e w1 ⟨⟨vs, rfl, HI⟩, hb1⟩; obtain ⟨a1, c1, rfl⟩ := HI.out.slice; have HB1 := hide hb1; clear hs hb1))
    go_ret
    exact ⟨rfl, HB3.out.trans (hb4.mono HB3.out.size)⟩
end
end Go.Proofs.Ytmkeahfdbmfajaa
