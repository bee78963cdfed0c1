/- The law EscapeComes. -/
import Derived.Test.YtlbildodjnjniaaEsRc
namespace Go.Proofs.Ytlbildodjnjniaa
open Go.RowKit
theorem co_below {w w' : World} {bo n : Nat} {O : Nat → Int} (C : Co w w' bo n O) : Below w.heap.size w w' := C.bel
theorem co_ints {w w' : World} {bo n : Nat} {O : Nat → Int} {l : Int → Int} {fs : List Fl} {root : Int} (L : Lst fs 51200 root l) (C : Co w w' bo n O) (L' : Lst fs 51200 root (lo root O n)) : IntsAt w' (.slice (some ⟨bo, 0, none⟩) n n) ((List.range n).map fun (i : Nat) => l i) := by
  refine ⟨some ⟨bo, 0, none⟩, n, by simp, fun j x hx => ?_⟩
  rw [List.getElem?_map] at hx
  by_cases hj : j < n
  · rw [List.getElem?_range hj] at hx
    simp at hx
    subst hx
    refine ⟨bo, 0, rfl, (C.fz 0).2, ?_⟩
    rw [Nat.zero_add, C.cell hj, L.eq L', lo_at hj]
  · rw [List.getElem?_eq_none (by simp; omega)] at hx; cases hx
section
variable {w : World} {vp vf : Value} {ps : List Pt} {fs : List Fl}
set_option maxHeartbeats 2000000 in
theorem comes_law (R : PtsAt w vp ps) (F : FlsAt w vf fs) (root : Int) :
    Calls Try.prog 3 #[vp, vf, .int .i64 root] w fun e w' => e = .returned (.bool true) ∧ Below w.heap.size w w' := by
  have ha := fun W : World => awake_any W
  have HR := hide R
  have HF := hide F
  have hck := fun (W : World) (h : Below w.heap.size w W) => rcheck_any (HR.out.below h) (HF.out.below h)
  have HCK := hide hck
  clear hck
  by_cases hg : faultN ps fs = 0
  · have G := fault_ok.1 hg
    have HG := hide G
    by_cases hr : root < -1 ∨ (ps.length : Int) ≤ root
    · have hs := reach_none R F G root hr
      obtain ⟨ao, cap, rfl, _⟩ := R
      obtain ⟨bo, cbp, rfl, _⟩ := F
      have hor : decide (root < -1) = true ∨ (decide (root < -1) = false ∧ decide ((ps.length : Int) ≤ root) = true) := by
        by_cases h : root < -1
        · exact .inl (by simpa using h)
        · exact .inr ⟨by simpa using h, by simp; omega⟩
      clear hr
      generalize hn : ps.length = n at *
      rw [hg] at HCK
      rcases hor with k1 | ⟨k1, k2⟩
      all_goals
        go_enter Try.func3, Try.ntmps3
        go_wp2_with fail
        refine hs.mono ?_
        rintro e w2 ⟨rfl, hb2⟩
        have hc := HCK.out w2 hb2
        go_wp2_with fail
        refine hc.mono ?_
        rintro e w3 ⟨rfl, hb3⟩
        have hb23 := hide (hb2.trans (hb3.mono hb2.size))
        clear hc hb2 hb3 hs
        go_wp2_with (go_at_call 10; refine (ha _).mono ?_; rintro e w4 ⟨rfl, hb4⟩)
        go_ret
        exact ⟨rfl, hb23.out.trans (hb4.mono hb23.out.size)⟩
    · have hr1 : -1 ≤ root := by omega
      have hr2 : root < ps.length := by omega
      have hs := reach_ok R F G root hr1 hr2
      obtain ⟨ao, cap, rfl, _⟩ := R
      obtain ⟨bo, cbp, rfl, _⟩ := F
      have k1 : decide (root < -1) = false := by simpa using hr1
      have k2 : decide ((ps.length : Int) ≤ root) = false := by simp; omega
      have hpl := G.pl
      rw [hg] at HCK
      clear hr G hg
      generalize hn : ps.length = n at *
      generalize hm : fs.length = m at *
      have HN := hide (And.intro hn hm)
      clear hn hm
      have hsm := fun W : World => small_any (w := W) (ao := ao) (bo := bo) (n := n) (m := m) (cap := cap) (cbp := cbp)
      cases hsb : smallB n m with
      | false =>
        rw [hsb] at hsm
        go_enter Try.func3, Try.ntmps3
        go_wp2_with fail
        refine hs.mono ?_
        rintro e w2 ⟨l, v, rfl, HI, hb2⟩
        obtain ⟨ai, ci, hvi, _⟩ := id HI.out.1
        have hc := HCK.out w2 hb2
        go_wp2_with fail
        refine hc.mono ?_
        rintro e w3 ⟨rfl, hb3⟩
        have hb23 := hide (hb2.trans (hb3.mono hb2.size))
        clear hc hb2 hb3 hs HI
        go_wp2_with (first
          | (go_at_call 10; refine (ha _).mono ?_; rintro e w4 ⟨rfl, hb4⟩)
          | (go_at_call 11; refine (hsm _).mono ?_; rintro e w5 ⟨rfl, rfl⟩))
        go_ret
        exact ⟨rfl, hb23.out.trans (hb4.mono hb23.out.size)⟩
      | true =>
        rw [hsb] at hsm
        have hsz : n ≤ 60 ∧ m ≤ 300 := by
          unfold smallB at hsb
          rw [Bool.and_eq_true, decide_eq_true_eq, decide_eq_true_eq] at hsb
          exact hsb
        have HSZ := hide hsz
        clear hsb hsz
        go_enter Try.func3, Try.ntmps3
        go_wp2_with fail
        refine hs.mono ?_
        rintro e w2 ⟨l, v, rfl, HI, hb2⟩
        obtain ⟨ai, ci, hvi, _⟩ := id HI.out.1
        rw [List.length_map, List.length_range] at hvi
        subst hvi
        have hc := HCK.out w2 hb2
        go_wp2_with fail
        refine hc.mono ?_
        rintro e w3 ⟨rfl, hb3⟩
        have hb23 := hide (hb2.trans (hb3.mono hb2.size))
        have HI3 := hide (HI.out.1.below hb3)
        have HL := hide HI.out.2
        clear hc hb2 hb3 hs HI
        go_wp2_with (first
          | (go_at_call 10; refine (ha _).mono ?_; rintro e w4 ⟨rfl, hb4⟩; have HB4 := hide (hb23.out.trans (hb4.mono hb23.out.size)); have HI4 := hide (HI3.out.below hb4); clear hb4)
          | (go_at_call 11; refine (hsm _).mono ?_; rintro e w5 ⟨rfl, rfl⟩)
          | (go_at_call 13; have hcm := rcomes_any (root := root) (HR.out.below HB4.out) (HF.out.below HB4.out) HG.out (by rw [HN.out.1]; exact HSZ.out.1) hr1 (by rw [HN.out.1]; exact hr2); rw [HN.out.1] at hcm; refine hcm.mono ?_; rintro e w6 ⟨bc, O, rfl, HO⟩; clear hcm)
          | (go_at_call 12; refine (same_any (HI4.out.below (co_below HO.out.1)) (co_ints HL.out HO.out.1 HO.out.2) (by rw [List.length_map, List.length_range]; have := HSZ.out.1; omega)).mono ?_; rintro e w7 ⟨rfl, hb7⟩))
        go_ret
        exact ⟨rfl, HB4.out.trans ((HO.out.1.bel.trans (hb7.mono HO.out.1.bel.size)).mono HB4.out.size)⟩
  · have hs := reach_bad R F root hg
    obtain ⟨ao, cap, rfl, _⟩ := R
    obtain ⟨bo, cbp, rfl, _⟩ := F
    generalize faultN ps fs = c at *
    have c1 : (c != 0) = true := by simpa using hg
    have c2 : (c == 0) = false := by simpa using hg
    generalize ps.length = n at *
    go_enter Try.func3, Try.ntmps3
    go_wp2_with fail
    refine hs.mono ?_
    rintro e w2 ⟨rfl, hb2⟩
    have hc := HCK.out w2 hb2
    go_wp2_with fail
    refine hc.mono ?_
    rintro e w3 ⟨rfl, hb3⟩
    have hb23 := hide (hb2.trans (hb3.mono hb2.size))
    clear hc hb2 hb3 hs
    go_wp2_with (go_at_call 10; refine (ha _).mono ?_; rintro e w4 ⟨rfl, hb4⟩)
    go_ret
    exact ⟨rfl, hb23.out.trans (hb4.mono hb23.out.size)⟩
end
end Go.Proofs.Ytlbildodjnjniaa
