/- The law EscapeSolves. -/
import Derived.Test.YtlbildodjnjniaaEsZb
import Derived.Test.YtlbildodjnjniaaEsY
namespace Go.Proofs.Ytlbildodjnjniaa
open Go.RowKit

theorem bool_at {w : World} {ao : Option Addr} {n cap : Nat} {l : List Bool} (F : BoolsAt w (.slice ao n cap) l) {j : Nat} {x : Bool} (h : l[j]? = some x) : ∃ g o, ao = some ⟨g, o, none⟩ ∧ g < w.heap.size ∧ w.cell? ⟨g, o + j, none⟩ = some (.bool x) := by
  obtain ⟨ao', cap', e, hc⟩ := F
  cases e
  exact hc j x h
theorem map_range {α : Type} {E E' : Nat → α} {n : Nat} (h : ∀ i, i < n → E i = E' i) : (List.range n).map E = (List.range n).map E' := List.map_congr_left fun i hi => h i (List.mem_range.1 hi)
theorem same_esc {p : Nat → Prop} {E E' : Nat → Bool} {n : Nat} (h : ∀ x, x < n → (E x = true ↔ p x)) (h' : ∀ x, x < n → (E' x = true ↔ p x)) : ∀ i, i < n → E' i = E i := fun i hi => by
  rw [Bool.eq_iff_iff]; exact (h' i hi).trans (h i hi).symm
section
variable {w : World} {vp vf : Value} {ps : List Pt} {fs : List Fl}
set_option maxHeartbeats 2000000 in
set_option maxRecDepth 20000 in
theorem solves_law (R : PtsAt w vp ps) (F : FlsAt w vf fs) :
    Calls Try.prog 4 #[vp, vf] w fun e w' => e = .returned (.bool true) ∧ Below w.heap.size w w' := by
  have ha := fun W : World => awake_any W
  have HR := hide R
  have HF := hide F
  have HCK := hide (fun (W : World) (h : Below w.heap.size w W) => rcheck_any (HR.out.below h) (HF.out.below h))
  by_cases hg : faultN ps fs = 0
  · have G := fault_ok.1 hg
    have HG := hide G
    have hs := solve_ok R F G
    have HH := hide (fun (W : World) (h : Below w.heap.size w W) => heap_ok (HR.out.below h) (HF.out.below h) HG.out)
    obtain ⟨ao, cap, rfl, hpt⟩ := R
    obtain ⟨bo, cbp, rfl, _⟩ := F
    have HPT := hide hpt
    have hpl := G.pl
    rw [hg] at HCK
    clear G hg hpt
    generalize hn : ps.length = n at *
    generalize hm : fs.length = m at *
    have HN := hide hn
    have HMM := hide hm
    clear hn hm
    have bn : (n : Int) ≤ 512 := by omega
    have hsm := fun W : World => small_any (w := W) (ao := ao) (bo := bo) (n := n) (m := m) (cap := cap) (cbp := cbp)
    go_enter Try.func4, Try.ntmps4
    go_wp2_with fail
    refine hs.mono ?_
    rintro e w2 ⟨v, E, rfl, HV, hb2⟩
    obtain ⟨al, cl, hvl, _⟩ := id HV.out.1
    rw [List.length_map, List.length_range] at hvl
    subst hvl
    have hh := HH.out w2 hb2
    have HB2 := hide hb2
    clear hs hb2 HH
    go_wp2_with fail
    refine hh.mono ?_
    rintro e w3 ⟨vh, E2, rfl, HW, hb3⟩
    have HB3 := hide (HB2.out.trans (hb3.mono HB2.out.size))
    have HL := hide (HV.out.1.below hb3)
    have HE := hide HV.out.2
    have HI := hide (show IntsAt w3 vh (heapL ps E n) by
      rw [heapL_eq (same_esc HW.out.2 HE.out)]; exact IntsAt.of_row HW.out.1)
    obtain ⟨ah, ch, hvh, _⟩ := id HI.out
    generalize hhl : (heapL ps E n).length = hl at hvh
    subst hvh
    have hc := HCK.out w3 HB3.out
    have HHL := hide hhl
    clear hh hb3 HV HW HCK hhl
    cases hsb : smallB n m with
    | false =>
      rw [hsb] at hsm
      clear hsb
      go_wp2_with fail
      refine hc.mono ?_
      rintro e w4 ⟨rfl, hb4⟩
      have HB4 := hide (HB3.out.trans (hb4.mono HB3.out.size))
      clear hc hb4
      go_wp2_with (first
        | (go_at_call 10; refine (ha _).mono ?_; rintro e w5 ⟨rfl, hb5⟩; have HB5 := hide (HB4.out.trans (hb5.mono HB4.out.size)); clear hb5)
        | (go_at_call 11; refine (hsm _).mono ?_; rintro e w6 ⟨rfl, rfl⟩))
      go_ret
      exact ⟨rfl, HB5.out⟩
    | true =>
      rw [hsb] at hsm
      have hsz : n ≤ 60 ∧ m ≤ 300 := by
        unfold smallB at hsb
        rw [Bool.and_eq_true, decide_eq_true_eq, decide_eq_true_eq] at hsb
        exact hsb
      have HSZ := hide hsz
      clear hsb hsz
      go_wp2_with fail
      refine hc.mono ?_
      rintro e w4 ⟨rfl, hb4⟩
      have HB4 := hide (HB3.out.trans (hb4.mono HB3.out.size))
      have HL4 := hide (HL.out.below hb4)
      have HI4 := hide (HI.out.below hb4)
      clear hc hb4 HL HI
      go_wp2_with (first
        | (go_at_call 10; refine (ha _).mono ?_; rintro e w5 ⟨rfl, hb5⟩; have HB5 := hide (HB4.out.trans (hb5.mono HB4.out.size)); have HL5 := hide (HL4.out.below hb5); have HI5 := hide (HI4.out.below hb5); have hes := escapes_any (HR.out.below HB5.out) (HF.out.below HB5.out) HG.out (by rw [HN.out]; exact HSZ.out.1); rw [HN.out] at hes; clear hb5)
        | (go_at_call 11; refine (hsm _).mono ?_; rintro e w6 ⟨rfl, rfl⟩)
        | (go_at_call 16; refine hes.mono ?_; rintro e w7 ⟨vw, E3, rfl, HW, hb7⟩; have HB7 := hide (HB5.out.trans (hb7.mono HB5.out.size)); have HL7 := hide (HL5.out.below hb7); have HI7 := hide (HI5.out.below hb7); have HW7 := hide (show BoolsAt w7 vw ((List.range n).map E) by (rw [← map_range (same_esc HE.out HW.out.2)]; exact HW.out.1)); clear hb7 hes HW; obtain ⟨aw, cw, hvw, _⟩ := id HW7.out; rw [List.length_map, List.length_range] at hvw; subst hvw))
      have HJ0 := hide (show (w7.alloc (.cells #[] 3)).ownsRow w7.heap.size 3 1 (.slice (some ⟨w7.heap.size, 0, none⟩) 0 0) (heapL ps E 0).length (ints (heapL ps E 0)) ∧ Below w7.heap.size w7 (w7.alloc (.cells #[] 3)) from ⟨⟨rfl, .inr ⟨w7.heap.size, 0, #[], rfl, Nat.le_refl _, heap_new _ _ rfl, Nat.le_refl _, by decide, by simp, by simp [heapL, ints]⟩⟩, (Below.refl _ _).alloc (Nat.le_refl _) _⟩)
      go_loopg [11, 12] n (fun K v11 v12 wr => ∃ j : Nat, v12 = .int .i64 j ∧ j ≤ n ∧ n - j ≤ K ∧ Hid (wr.ownsRow w7.heap.size 3 1 v11 (heapL ps E j).length (ints (heapL ps E j)) ∧ Below w7.heap.size w7 wr))
      case atStart => exact ⟨0, rfl, Nat.zero_le _, Nat.le_refl _, HJ0⟩
      case round =>
        clear HJ0 ha hsm
        obtain ⟨j, rfl, hj, hk, HJ⟩ := hrel
        obtain ⟨av, cv, hv⟩ := row_form HJ.out.1
        subst hv
        by_cases hlt : j < n
        · have he : ((List.range n).map E)[j]? = some (E j) := by rw [List.getElem?_map, List.getElem?_range hlt]; rfl
          obtain ⟨ga, oa, hga, hgal, c0⟩ := bool_at HL7.out he
          obtain ⟨gb, ob, hgb, hgbl, d0⟩ := bool_at HW7.out he
          subst hga hgb
          obtain ⟨p, hp⟩ : ∃ p, ps[j]? = some p := ⟨ps[j]'(by rw [HN.out]; exact hlt), by simp⟩
          obtain ⟨g2, o2, hao2, hg2, _, c1⟩ := HPT.out j p hp
          subst hao2
          have hs := heapL_succ ps E j
          rw [hp, Option.getD_some] at hs
          have bj : (j : Int) < (n : Int) := by omega
          have hal := heapL_len ps E j
          obtain ⟨ej, hej⟩ : ∃ b, E j = b := ⟨_, rfl⟩
          obtain ⟨pa, hpa⟩ : ∃ b, p.a = b := ⟨_, rfl⟩
          rw [hej, hpa] at hs
          rw [hej] at c0 d0
          rw [hpa] at c1
          have HC := hide (fun (W : World) (h : Below w7.heap.size w7 W) => And.intro ((h.cell (p := ⟨ga, oa + j, none⟩) hgal).trans c0) (And.intro ((h.cell (p := ⟨gb, ob + j, none⟩) hgbl).trans d0) (((HB7.out.trans (h.mono HB7.out.size)).cell (p := ⟨g2, o2 + j * 2 + 1, none⟩) hg2).trans c1)))
          have HJQ := hide (fun q => And.intro (ownsRow_keep (w' := wr.drewN q) HJ.out.1 fun g hg => (below_drewN (Below.refl _ wr) q).block g (HJ.out.1.lt g hg).2) (below_drewN HJ.out.2 q))
          obtain ⟨f0, f1, f2⟩ := HC.out wr HJ.out.2
          clear hp hej hpa he c0 d0 c1 HJ hgal hgbl hg2
          go_wp2
          go_quiet (fail)
          have hJ := HJQ.out nq
          generalize wr.drewN nq = W2 at hJ ⊢
          clear f0 f1 f2 HJQ
          obtain ⟨f0, f1, f2⟩ := HC.out W2 hJ.2
          have HJ := hide hJ
          clear HC hJ
          cases hx : (ej && pa) with
          | true =>
            rw [hx, if_pos rfl] at hs
            rw [Bool.and_eq_true] at hx
            obtain ⟨rfl, rfl⟩ := hx
            obtain ⟨W3, hW3⟩ : ∃ W3, W2.alloc (.cells #[.int .i64 (j : Int)] 3) = W3 := ⟨_, rfl⟩
            have hb3 : Below W2.heap.size W2 W3 := by rw [← hW3]; exact (Below.refl _ _).alloc (Nat.le_refl _) _
            have nb3 : W3.heap[W2.heap.size]? = some (.cells #[.int .i64 (j : Int)] 3 (0, 0)) := by rw [← hW3]; exact heap_new _ _ rfl
            have hb23 := HJ.out.2.trans (hb3.mono HJ.out.2.size)
            obtain ⟨gc, ca, w4, hrun, hown, hgrow, hat, hlt4⟩ := run_appI (C := w7.heap.size) (ownsRow_keep (w' := W3) HJ.out.1 fun g hg => hb3.block g (HJ.out.1.lt g hg).2) nb3 (by omega) hb23.size
            have hb24 : Below w7.heap.size w7 w4 := hb23.grown hgrow hb23.size (fun q hq => (HJ.out.1.lt q hq).1)
            have HJ4 := hide (show w4.ownsRow w7.heap.size 3 1 (.slice (some ⟨gc, 0, none⟩) ((heapL ps E j).length + 1) ca) (heapL ps E (j + 1)).length (ints (heapL ps E (j + 1))) ∧ Below w7.heap.size w7 w4 from by
              refine ⟨?_, hb24⟩
              rw [hs, List.length_append, show ints (heapL ps E j ++ [(j : Int)]) = ints (heapL ps E j) ++ [.int .i64 (j : Int)] by simp [ints]]
              exact hown)
            clear hb3 nb3 hb23 hown hgrow hat hb24 hs hal HJ
            go_wp2_with (at_builtin; refine wpList_append_eq rfl _ _ 24 rfl rfl rfl hrun ?_)
            go_roundg (n - (j + 1))
            case measure => omega
            case rel => exact ⟨j + 1, by go_num, by omega, Nat.le_refl _, HJ4⟩
          | false =>
            rw [hx, if_neg (by simp), List.append_nil] at hs
            have HJ4 := HJ
            rw [← hs] at HJ4
            have hle : (heapL ps E j).length = (heapL ps E (j + 1)).length := by rw [hs]
            clear hs hal HJ
            cases ej with
            | false =>
              go_wp2
              go_roundg (n - (j + 1))
              case measure => omega
              case rel => exact ⟨j + 1, by go_num, by omega, Nat.le_refl _, by rw [hle]; exact HJ4⟩
            | true =>
              rw [Bool.true_and] at hx
              subst hx
              go_wp2
              go_roundg (n - (j + 1))
              case measure => omega
              case rel => exact ⟨j + 1, by go_num, by omega, Nat.le_refl _, by rw [hle]; exact HJ4⟩
        · obtain rfl : n = j := by omega
          have hr1 := IntsAt.of_row HJ.out.1
          have hr2 := HI7.out.below HJ.out.2
          rw [HHL.out] at hr1
          have hsi := same_any hr2 hr1 (by rw [HHL.out]; have := heapL_len ps E n; rw [HHL.out] at this; omega)
          rw [HHL.out]
          clear hr1 hr2
          go_wp2_with (go_at_call 12; refine hsi.mono ?_; rintro e w9 ⟨rfl, hb9⟩)
          go_ret
          have hb8 := HB7.out.trans (HJ.out.2.mono HB7.out.size)
          exact ⟨rfl, hb8.trans (hb9.mono hb8.size)⟩
  · have hs := solve_bad R F hg
    have HH := hide (fun (W : World) (h : Below w.heap.size w W) => heap_bad (HR.out.below h) (HF.out.below h) hg)
    obtain ⟨ao, cap, rfl, _⟩ := R
    obtain ⟨bo, cbp, rfl, _⟩ := F
    generalize faultN ps fs = c at *
    have c1 : (c != 0) = true := by simpa using hg
    have c2 : (c == 0) = false := by simpa using hg
    generalize ps.length = n at *
    generalize fs.length = m at *
    go_enter Try.func4, Try.ntmps4
    go_wp2_with fail
    refine hs.mono ?_
    rintro e w2 ⟨rfl, hb2⟩
    have hh := HH.out w2 hb2
    have HB2 := hide hb2
    clear hs hb2
    go_wp2_with fail
    refine hh.mono ?_
    rintro e w3 ⟨rfl, hb3⟩
    have HB3 := hide (HB2.out.trans (hb3.mono HB2.out.size))
    have hc := HCK.out w3 HB3.out
    clear hh hb3
    go_wp2_with fail
    refine hc.mono ?_
    rintro e w4 ⟨rfl, hb4⟩
    have HB4 := hide (HB3.out.trans (hb4.mono HB3.out.size))
    clear hc hb4
    go_wp2_with (go_at_call 10; refine (ha _).mono ?_; rintro e w5 ⟨rfl, hb5⟩)
    go_ret
    exact ⟨rfl, HB4.out.trans (hb5.mono HB4.out.size)⟩
end
end Go.Proofs.Ytlbildodjnjniaa
