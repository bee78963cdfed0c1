/- The law EscapeClosed: all ways. -/
import Derived.Test.YtlbildodjnjniaaEsV
namespace Go.Proofs.Ytlbildodjnjniaa
open Go.RowKit
section
variable {w : World} {vp vf : Value} {ps : List Pt} {fs : List Fl}
set_option maxHeartbeats 1000000 in
set_option maxRecDepth 20000 in
theorem closed_law (R : PtsAt w vp ps) (F : FlsAt w vf fs) :
    Calls Try.prog 6 #[vp, vf] w fun e w' => e = .returned (.bool true) ∧ Below w.heap.size w w' := by
  have ha := fun W : World => awake_any W
  by_cases hg : faultN ps fs = 0
  · have G := fault_ok.1 hg
    by_cases hn : ps.length ≤ 40
    · by_cases hm : fs.length ≤ 200
      · exact closed_main R F G hn hm
      · have hs := solve_ok R F G
        obtain ⟨ao, cap, rfl, _⟩ := R
        obtain ⟨bo, cbp, rfl, _⟩ := F
        generalize ps.length = n at *
        generalize fs.length = m at *
        have bn : (n : Int) ≤ 40 := by omega
        have bm : 200 < (m : Int) := by omega
        clear G hg
        go_enter Try.func6, Try.ntmps6
        go_wp2_with fail
        refine hs.mono ?_
        rintro e w2 ⟨v, E0, rfl, HV, hb2⟩
        obtain ⟨al, cl, hvl, _⟩ := id HV.out.1
        rw [List.length_map, List.length_range] at hvl
        subst hvl
        have HB2 := hide hb2
        clear hs hb2 HV
        go_wp2_with fail
        refine (ha _).mono ?_
        rintro e w3 ⟨rfl, hb3⟩
        have HB3 := hide (HB2.out.trans (hb3.mono HB2.out.size))
        clear hb3
        go_wp2_with fail
        refine (ha _).mono ?_
        rintro e w4 ⟨rfl, hb4⟩
        have HB4 := hide (HB3.out.trans (hb4.mono HB3.out.size))
        clear hb4
        go_wp2
        go_ret
        exact ⟨rfl, HB4.out⟩
    · have hs := solve_ok R F G
      obtain ⟨ao, cap, rfl, _⟩ := R
      obtain ⟨bo, cbp, rfl, _⟩ := F
      generalize ps.length = n at *
      generalize fs.length = m at *
      have bn : 40 < (n : Int) := by omega
      clear G hg
      go_enter Try.func6, Try.ntmps6
      go_wp2_with fail
      refine hs.mono ?_
      rintro e w2 ⟨v, E0, rfl, HV, hb2⟩
      obtain ⟨al, cl, hvl, _⟩ := id HV.out.1
      rw [List.length_map, List.length_range] at hvl
      subst hvl
      have HB2 := hide hb2
      clear hs hb2 HV
      go_wp2_with fail
      refine (ha _).mono ?_
      rintro e w3 ⟨rfl, hb3⟩
      have HB3 := hide (HB2.out.trans (hb3.mono HB2.out.size))
      clear hb3
      go_wp2_with fail
      refine (ha _).mono ?_
      rintro e w4 ⟨rfl, hb4⟩
      have HB4 := hide (HB3.out.trans (hb4.mono HB3.out.size))
      clear hb4
      go_wp2
      go_ret
      exact ⟨rfl, HB4.out⟩
  · have hs := solve_bad R F hg
    obtain ⟨ao, cap, rfl, _⟩ := R
    obtain ⟨bo, cbp, rfl, _⟩ := F
    generalize faultN ps fs = c at *
    have c1 : (c != 0) = true := by simpa using hg
    generalize ps.length = n at *
    generalize fs.length = m at *
    go_enter Try.func6, Try.ntmps6
    go_wp2_with fail
    refine hs.mono ?_
    rintro e w2 ⟨rfl, hb2⟩
    have HB2 := hide hb2
    clear hs hb2
    go_wp2_with fail
    refine (ha _).mono ?_
    rintro e w3 ⟨rfl, hb3⟩
    have HB3 := hide (HB2.out.trans (hb3.mono HB2.out.size))
    clear hb3
    go_wp2_with fail
    refine (ha _).mono ?_
    rintro e w4 ⟨rfl, hb4⟩
    have HB4 := hide (HB3.out.trans (hb4.mono HB3.out.size))
    clear hb4
    go_wp2
    go_ret
    exact ⟨rfl, HB4.out⟩
end
end Go.Proofs.Ytlbildodjnjniaa
