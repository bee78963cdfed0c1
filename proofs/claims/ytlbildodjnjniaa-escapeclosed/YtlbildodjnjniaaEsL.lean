/- Solve, Reach, Heap: the program's three calls. -/
import Derived.Test.YtlbildodjnjniaaEsK
namespace Go.Proofs.Ytlbildodjnjniaa
open Go.RowKit

section
variable {w : World} {vp vf : Value} {ps : List Pt} {fs : List Fl}
theorem solve_bad (R : PtsAt w vp ps) (F : FlsAt w vf fs) (hb : faultN ps fs ≠ 0) : Calls Try.prog 14 #[vp, vf] w fun e w' => e = .returned (.tuple #[.slice none 0 0, .int .i64 (faultN ps fs)]) ∧ Below w.heap.size w w' := by
  have hf := fault_any R F
  generalize faultN ps fs = c at *
  have hc : (c != 0) = true := by simpa using hb
  clear R F
  go_enter Try.func14, Try.ntmps14
  go_wp2_with fail
  refine hf.mono ?_
  rintro e w2 ⟨rfl, hb2⟩
  go_wp2
  go_ret2
  exact ⟨rfl, hb2⟩
theorem solve_ok (R : PtsAt w vp ps) (F : FlsAt w vf fs) (G : Good ps fs) : Calls Try.prog 14 #[vp, vf] w fun e w' => ∃ (v : Value) (E : Nat → Bool), e = .returned (.tuple #[v, .int .i64 0]) ∧ Hid (BoolsAt w' v ((List.range ps.length).map E) ∧ ∀ x, x < ps.length → (E x = true ↔ Esc ps fs x)) ∧ Below w.heap.size w w' := by
  have hf := fault_any R F
  rw [fault_ok.2 G] at hf
  have HE := hide (fun (w2 : World) (h : Below w.heap.size w w2) => escaping_any (R.below h) (F.below h) G)
  clear R F G
  go_enter Try.func14, Try.ntmps14
  go_wp2_with fail
  refine hf.mono ?_
  rintro e w2 ⟨rfl, hb2⟩
  have he := HE.out w2 hb2
  have HB := hide hb2
  clear hb2 hf
  go_wp2_with fail
  refine he.mono ?_
  rintro e w3 ⟨v, E, rfl, HV, hb3⟩
  have hb4 := hide (HB.out.trans (hb3.mono HB.out.size))
  obtain ⟨ao, cp, hv, _⟩ := id HV.out.1
  rw [List.length_map, List.length_range] at hv
  subst hv
  clear hb3 he
  go_wp2
  go_ret2
  exact ⟨.slice ao ps.length cp, E, rfl, HV, hb4.out⟩
theorem reach_bad (R : PtsAt w vp ps) (F : FlsAt w vf fs) (root : Int) (hb : faultN ps fs ≠ 0) : Calls Try.prog 8 #[vp, vf, .int .i64 root] w fun e w' => e = .returned (.tuple #[.slice none 0 0, .int .i64 (faultN ps fs)]) ∧ Below w.heap.size w w' := by
  have hf := fault_any R F
  generalize faultN ps fs = c at *
  have hc : (c != 0) = true := by simpa using hb
  clear R F
  go_enter Try.func8, Try.ntmps8
  go_wp2_with fail
  refine hf.mono ?_
  rintro e w2 ⟨rfl, hb2⟩
  go_wp2
  go_ret2
  exact ⟨rfl, hb2⟩
theorem reach_none (R : PtsAt w vp ps) (F : FlsAt w vf fs) (G : Good ps fs) (root : Int) (hr : root < -1 ∨ (ps.length : Int) ≤ root) : Calls Try.prog 8 #[vp, vf, .int .i64 root] w fun e w' => e = .returned (.tuple #[.slice none 0 0, .int .i64 6]) ∧ Below w.heap.size w w' := by
  have hf := fault_any R F
  rw [fault_ok.2 G] at hf
  obtain ⟨ao, cap, rfl, _⟩ := R
  have h1 : (root != -1) = true := by simp; omega
  have h2 : inB root ps.length = false := by unfold inB; rw [Bool.and_eq_false_iff, decide_eq_false_iff_not, decide_eq_false_iff_not]; omega
  have hw := fun W : World => within_any (w := W) root ps.length
  rw [h2] at hw
  clear F G
  generalize ps.length = n at *
  go_enter Try.func8, Try.ntmps8
  go_wp2_with fail
  refine hf.mono ?_
  rintro e w2 ⟨rfl, hb2⟩
  go_wp2_with (go_at_call 18; refine (hw _).mono ?_; rintro e w3 ⟨rfl, rfl⟩)
  go_ret2
  exact ⟨rfl, hb2⟩
theorem reach_ok (R : PtsAt w vp ps) (F : FlsAt w vf fs) (G : Good ps fs) (root : Int) (h1 : -1 ≤ root) (h2 : root < ps.length) : Calls Try.prog 8 #[vp, vf, .int .i64 root] w fun e w' => ∃ (l : Int → Int) (v : Value), e = .returned (.tuple #[v, .int .i64 0]) ∧ Hid (IntsAt w' v ((List.range ps.length).map fun (i : Nat) => l i) ∧ Lst fs 51200 root l) ∧ Below w.heap.size w w' := by
  have hf := fault_any R F
  rw [fault_ok.2 G] at hf
  have HG := hide (fun (w2 : World) (h : Below w.heap.size w w2) => graphOf_any (R.below h) (F.below h) G)
  have HGG := hide G
  obtain ⟨ao, cap, rfl, _⟩ := R
  have hw := fun W : World => within_any (w := W) root ps.length
  have hr1 : (root != -1) = true → inB root ps.length = true := fun h => by
    unfold inB
    have h' : root ≠ -1 := by simpa using h
    rw [Bool.and_eq_true, decide_eq_true_eq, decide_eq_true_eq]; omega
  have hgl := G.pl
  have hfl := G.fl
  have HS := hide G.snd
  clear F G
  generalize hn : ps.length = n at *
  have bn : (n : Int) ≤ 512 := by omega
  clear hn
  go_enter Try.func8, Try.ntmps8
  go_wp2_with fail
  refine hf.mono ?_
  rintro e w2 ⟨rfl, hb2⟩
  have hg := HG.out w2 hb2
  have HB := hide hb2
  clear hb2 hf HG
  cases hc : (root != -1) with
  | true =>
    have hi := hr1 hc
    rw [hi] at hw
    clear hr1
    go_wp2_with (first
      | (go_at_call 18; refine (hw _).mono ?_; rintro e w3 ⟨rfl, rfl⟩)
      | (go_at_call 19; refine hg.mono ?_; rintro e w3 ⟨⟨vg, rfl, GR⟩, hb3⟩; have hrr := reach_any (B := 51200) GR HS.out hgl hfl h1 h2 (by omega) (by omega); have HB3 := hide (HB.out.trans (hb3.mono HB.out.size)); clear hb3 GR)
      | (go_at_call 20; refine hrr.mono ?_; rintro e w4 ⟨l, v, rfl, HI, HL, hb4⟩))
    go_ret2
    exact ⟨l, v, rfl, hide ⟨HI.out, HL.out⟩, HB3.out.trans (hb4.mono HB3.out.size)⟩
  | false =>
    clear hr1 hw
    go_wp2_with (first
      | (go_at_call 19; refine hg.mono ?_; rintro e w3 ⟨⟨vg, rfl, GR⟩, hb3⟩; have hrr := reach_any (B := 51200) GR HS.out hgl hfl h1 h2 (by omega) (by omega); have HB3 := hide (HB.out.trans (hb3.mono HB.out.size)); clear hb3 GR)
      | (go_at_call 20; refine hrr.mono ?_; rintro e w4 ⟨l, v, rfl, HI, HL, hb4⟩))
    go_ret2
    exact ⟨l, v, rfl, hide ⟨HI.out, HL.out⟩, HB3.out.trans (hb4.mono HB3.out.size)⟩
end
end Go.Proofs.Ytlbildodjnjniaa
