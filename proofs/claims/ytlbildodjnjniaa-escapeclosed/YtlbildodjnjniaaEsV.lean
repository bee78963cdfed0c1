/- The law EscapeClosed. -/
import Derived.Test.YtlbildodjnjniaaEsVq
import Derived.Test.YtlbildodjnjniaaEsU
namespace Go.Proofs.Ytlbildodjnjniaa
open Go.RowKit

theorem bool_at' {w : World} {ao : Option Addr} {n cap : Nat} {l : List Bool} (F : BoolsAt w (.slice ao n cap) l) {j : Nat} {x : Bool} (h : l[j]? = some x) : ∃ g o, ao = some ⟨g, o, none⟩ ∧ g < w.heap.size ∧ w.cell? ⟨g, o + j, none⟩ = some (.bool x) := by
  obtain ⟨ao', cap', e, hc⟩ := F
  cases e
  exact hc j x h
section
variable {w : World} {vp vf : Value} {ps : List Pt} {fs : List Fl}
set_option maxHeartbeats 8000000 in
set_option maxRecDepth 20000 in
theorem closed_main (R : PtsAt w vp ps) (F : FlsAt w vf fs) (G : Good ps fs) (hn40 : ps.length ≤ 40) (hm200 : fs.length ≤ 200) :
    Calls Try.prog 6 #[vp, vf] w fun e w' => e = .returned (.bool true) ∧ Below w.heap.size w w' := by
  have ha := fun W : World => awake_any W
  have HR := hide R
  have HF := hide F
  have HG := hide G
  have HS := hide G.snd
  have hs := solve_ok R F G
  obtain ⟨ao, cap, rfl, hpt⟩ := R
  obtain ⟨bo, cbp, rfl, _⟩ := F
  have HPT := hide hpt
  clear G hpt
  generalize hn : ps.length = n at *
  generalize hm : fs.length = m at *
  have HN := hide hn
  clear hn hm
  have bn : (n : Int) ≤ 40 := by omega
  have bm : (m : Int) ≤ 200 := by omega
  go_enter Try.func6, Try.ntmps6
  go_wp2_with fail
  refine hs.mono ?_
  rintro e w2 ⟨v, E0, rfl, HV, hb2⟩
  obtain ⟨al, cl, hvl, _⟩ := id HV.out.1
  rw [List.length_map, List.length_range] at hvl
  subst hvl
  have HB2 := hide hb2
  clear hs hb2
  go_wp2_with fail
  refine (ha _).mono ?_
  rintro e w3 ⟨rfl, hb3⟩
  have HB3 := hide (HB2.out.trans (hb3.mono HB2.out.size))
  have HL3 := hide (HV.out.1.below hb3)
  have HE0 := hide HV.out.2
  have hr := reach_ok2 (HR.out.below HB3.out) (HF.out.below HB3.out) HG.out (-1) (by omega) (by rw [HN.out]; omega)
  rw [HN.out] at hr
  clear hb3 HV HB2 ha
  go_wp2_with fail
  refine hr.mono ?_
  rintro e w4 ⟨l0, vh, rfl, HI, hb4⟩
  have HB4 := hide (HB3.out.trans (hb4.mono HB3.out.size))
  have HL4 := hide (HL3.out.below hb4)
  obtain ⟨ah, ch, hvh, _⟩ := id HI.out.1
  rw [List.length_map, List.length_range] at hvh
  subst hvh
  clear hr hb4 HL3 HB3
  have FA0 := hide (Fc.new (w := w4) (n := n) (Os := fun _ _ => 0))
  go_wp2
  go_loopg [9, 10] n (fun K v9 v10 wr => ∃ (k : Nat) (vs : List Value) (Os : Nat → Nat → Int), v10 = .int .i64 k ∧ k ≤ n ∧ n - k ≤ K ∧ vs.length = k ∧ Hid (Fc w4 wr n v9 vs Os) ∧ Hid (∀ r x : Nat, r < k → x < n → (Os r x = -1 ↔ Hld fs (r : Int) (x : Int))))
  case atStart => exact ⟨0, [], fun _ _ => 0, rfl, Nat.zero_le _, Nat.le_refl _, rfl, FA0, hide (fun r x h => absurd h (Nat.not_lt_zero _))⟩
  case round =>
    clear FA0
    obtain ⟨k, vs, Os, rfl, hk, hkk, hbl, HA, HT⟩ := hrel
    obtain ⟨G1, rfl⟩ : ∃ G1, G1 = gk := ⟨gk, rfl⟩
    obtain ⟨av, cv, hv⟩ := row_form HA.out.row
    rw [hbl] at hv
    subst hv
    have HBL := hide hbl
    clear hbl
    by_cases hlt : k < n
    · have hbw := HB4.out.trans (HA.out.bel.mono HB4.out.size)
      have hrk := reach_ok2 (HR.out.below hbw) (HF.out.below hbw) HG.out (k : Int) (by omega) (by rw [HN.out]; omega)
      rw [HN.out] at hrk
      have bk : (k : Int) < (n : Int) := by omega
      clear hbw
      go_wp2_with (first
        | (go_at_call 8; refine hrk.mono ?_; rintro e w6 ⟨l, u, rfl, HIk, hb6⟩; clear hrk; obtain ⟨au, cu, hvu, _⟩ := id HIk.out.1; rw [List.length_map, List.length_range] at hvu; obtain ⟨g, c8, w8, hrun, FA8⟩ := HA.out.push hb6 HIk.out.1 HIk.out.2.2 (by omega) (by rw [HBL.out]; omega); subst hvu; rw [HBL.out] at hrun FA8; have HA8 := hide FA8; have HT8 := hide (show ∀ r x : Nat, r < k + 1 → x < n → (upf Os k (fun i => l i) r x = -1 ↔ Hld fs (r : Int) (x : Int)) from fun r x hr hx => by (by_cases e : r = k; (subst e; rw [upf_same]; exact hld_of HS.out HIk.out.2.1 (by omega) (by omega)); (rw [upf_other _ _ e]; exact HT.out r x (by omega) hx))); clear FA8 hb6)
        | (at_builtin; refine wpList_append_eq rfl _ _ 44 rfl rfl rfl hrun ?_))
      go_roundg (n - (k + 1))
      case measure => omega
      case rel => exact ⟨k + 1, _, _, by go_num, by omega, Nat.le_refl _, by rw [List.length_append, HBL.out]; rfl, HA8, HT8⟩
    · obtain rfl : n = k := by omega
      have HTL := hide (show Tl ps fs Os (fun i => l0 i) from ⟨fun r x hr hx => HT.out r x (by rw [← HN.out]; exact hr) (by rw [← HN.out]; exact hx), fun x _ => hld_of HS.out HI.out.2.1 (by omega) (by omega)⟩)
      have HM0 := hide (Fy.new HA.out)
      have hmk := fun W : World => run_bools W n (by omega)
      go_upto_region 17 with fail
      generalize wr.heap.size = bb at HM0 ⊢
      generalize wr.alloc (.cells (reps n (.bool false)) 4) = W5 at HM0 ⊢
      clear hmk HA HT
      go_wp2
      go_loopg [14] (n + 1) (fun K v14 wr => ∃ (t : Nat) (E : Nat → Bool), v14 = .int .i64 t ∧ t ≤ n + 1 ∧ n + 1 - t ≤ K ∧ Hid (Fy w4 wr n (.slice av n cv) vs Os bb E) ∧ Hid (∀ x, E x = true → Esc ps fs x) ∧ Hid (Cld ps Os (fun i => l0 i) E ∨ t + cntF E n ≤ n))
      case atStart => exact ⟨0, _, rfl, Nat.zero_le _, Nat.le_refl _, HM0, hide (fun x h => by cases h), hide (.inr (by have := cntF_le (fun _ => false) n; omega))⟩
      case round =>
        clear HM0
        obtain ⟨t, E, rfl, ht, hkt, HM, HE, HC⟩ := hrel
        obtain ⟨G1, rfl⟩ : ∃ G1, G1 = gk := ⟨gk, rfl⟩
        by_cases htn : t ≤ n
        · have bt : (t : Int) ≤ (n : Int) := by omega
          obtain ⟨c0, hc0⟩ : ∃ c0, cntF E n = c0 := ⟨_, rfl⟩
          have HRI := hide (show Ri ps fs Os (fun i => l0 i) E c0 t 0 false by
            have := Ri.begin (t := t) HE.out (by rw [HN.out]; exact HC.out)
            rw [HN.out, hc0] at this; exact this)
          clear HE HC hc0
          go_wp2
          go_loopg [15] n (fun K2 v15 wr2 => ∃ (p : Nat) (E : Nat → Bool) (d : Bool), v15 = .int .i64 p ∧ p ≤ n ∧ n - p ≤ K2 ∧ Hid (Fy w4 wr2 n (.slice av n cv) vs Os bb E) ∧ Hid (Ri ps fs Os (fun i => l0 i) E c0 t p d))
          case atStart => exact ⟨0, E, false, rfl, Nat.zero_le _, Nat.le_refl _, HM, HRI⟩
          case round =>
            clear HM HRI
            obtain ⟨p, E, d, rfl, hp, hgp, HM, HRI⟩ := hrel
            obtain ⟨G2, rfl⟩ : ∃ G2, G2 = gk := ⟨gk, rfl⟩
            by_cases hlt : p < n
            · have bp : (p : Int) < (n : Int) := by omega
              obtain ⟨c1, c3, c4⟩ := HM.out.cells hlt
              obtain ⟨ep, hep⟩ : ∃ y, E p = y := ⟨_, rfl⟩
              rw [hep] at c1
              have HEP := hide hep
              obtain ⟨xh, oh, hxo, hgl, c2⟩ : ∃ g o, ah = some ⟨g, o, none⟩ ∧ g < w4.heap.size ∧ w4.cell? ⟨g, o + p, none⟩ = some (.int .i64 (l0 p)) := by
                obtain ⟨ao', cap', e, hc⟩ := HI.out.1
                have e1 := (Value.slice.inj e).1
                subst e1
                exact hc p (l0 p) (by rw [List.getElem?_map, List.getElem?_range hlt]; rfl)
              subst hxo
              rw [← HM.out.fa.bel.cell (p := ⟨xh, oh + p, none⟩) hgl] at c2
              have HMP := hide (fun b => HM.out.put hlt b)
              have HID := hide (fun b (h : E p = b) => (show upf E p b = E by rw [← h]; exact upf_id E p))
              obtain ⟨xo, hxo⟩ : ∃ y, l0 (p : Int) = y := ⟨_, rfl⟩
              rw [hxo] at c2
              have HXO := hide hxo
              clear hep hxo hgl
              go_upto_region 22 with fail
              go_cut [13] from 105 to 118 (fun v13 wc => v13 = .slice (some ⟨bb, 0, none⟩) n n ∧ ∃ (E' : Nat → Bool) (d' : Bool), Hid (Fy w4 wc n (.slice av n cv) vs Os bb E') ∧ Hid (Ri ps fs Os (fun i => l0 i) E' c0 t p d') ∧ Hid (Nm ps Os (fun i => l0 i) E' p 0))
              case first =>
                cases ep with
                | true =>
                  have hN := hide (show Nm ps Os (fun i => l0 i) E p 0 from fun h => by rw [HEP.out] at h; cases h)
                  have hM := hide (show Fy w4 _ n (.slice av n cv) vs Os bb E by have := HMP.out true; rw [HID.out true HEP.out] at this; exact this)
                  go_wp2
                  go_meet
                  exact ⟨rfl, E, d, hM, HRI, hN⟩
                | false =>
                  cases k1 : (xo == -1) with
                  | true =>
                    have hR := hide (HRI.out.hit HTL.out (by rw [HN.out]; exact hlt) HEP.out (.inl (by show l0 (p : Int) = -1; rw [HXO.out]; simpa using k1)))
                    have hN := hide (show Nm ps Os (fun i => l0 i) (upf E p true) p 0 from fun h => by rw [upf_same] at h; cases h)
                    have hM := hide (HMP.out true)
                    go_wp2
                    go_meet
                    exact ⟨rfl, _, true, hM, hR, hN⟩
                  | false =>
                    have hN := hide (show Nm ps Os (fun i => l0 i) E p 0 from fun _ => ⟨by show l0 (p : Int) ≠ -1; rw [HXO.out]; simpa using k1, fun r hr => absurd hr (Nat.not_lt_zero _)⟩)
                    have hM := hide (show Fy w4 _ n (.slice av n cv) vs Os bb E by have := HMP.out false; rw [HID.out false HEP.out] at this; exact this)
                    go_wp2
                    go_meet
                    exact ⟨rfl, E, d, hM, HRI, hN⟩
              case rest =>
                clear HM HRI HMP HID HEP HXO c1 c2 c3 c4
                obtain ⟨rfl, E, d, HM, HRI, HNM⟩ := hcut
                go_wp2
                go_loopg [16] n (fun K3 v16 wr3 => ∃ (j : Nat) (E : Nat → Bool) (d : Bool), v16 = .int .i64 j ∧ j ≤ n ∧ n - j ≤ K3 ∧ Hid (Fy w4 wr3 n (.slice av n cv) vs Os bb E) ∧ Hid (Ri ps fs Os (fun i => l0 i) E c0 t p d) ∧ Hid (Nm ps Os (fun i => l0 i) E p j))
                case atStart => exact ⟨0, E, d, rfl, Nat.zero_le _, Nat.le_refl _, HM, HRI, HNM⟩
                case round =>
                  clear HM HRI HNM
                  obtain ⟨j, E, d, rfl, hj, hgj, HM, HRI, HNM⟩ := hrel
                  obtain ⟨G3, rfl⟩ : ∃ G3, G3 = gk := ⟨gk, rfl⟩
                  by_cases hjn : j < n
                  · have bj : (j : Int) < (n : Int) := by omega
                    obtain ⟨c1, c3, c4⟩ := HM.out.cells hlt
                    obtain ⟨c5, _, _⟩ := HM.out.cells hjn
                    obtain ⟨ep, hep⟩ : ∃ y, E p = y := ⟨_, rfl⟩
                    rw [hep] at c1
                    have HEP := hide hep
                    obtain ⟨ej, hej⟩ : ∃ y, E j = y := ⟨_, rfl⟩
                    rw [hej] at c5
                    obtain ⟨g, cg, bi, cb, hag, d1, hd2⟩ := HM.out.fa.cell (r := j) (by rw [HBL.out]; exact hjn)
                    have d2 := hd2 p hlt
                    clear hd2
                    rw [HBL.out] at hag
                    obtain rfl : av = some ⟨g, 0, none⟩ := (Value.slice.inj hag).1
                    obtain ⟨qj, hqj⟩ : ∃ q, ps[j]? = some q := ⟨ps[j]'(by rw [HN.out]; exact hjn), by simp⟩
                    obtain ⟨qp, hqp⟩ : ∃ q, ps[p]? = some q := ⟨ps[p]'(by rw [HN.out]; exact hlt), by simp⟩
                    obtain ⟨g1, o1, rfl, hg1, e1, _⟩ := HPT.out j qj hqj
                    obtain ⟨g2, o2, hgo, hg2, e2, _⟩ := HPT.out p qp hqp
                    cases hgo
                    have D1 : dep ps j = qj.d := by unfold dep; rw [hqj]; rfl
                    have D2 : dep ps p = qp.d := by unfold dep; rw [hqp]; rfl
                    have hbw := HB4.out.trans (HM.out.fa.bel.mono HB4.out.size)
                    rw [← hbw.cell (p := ⟨g1, o1 + j * 2, none⟩) hg1] at e1
                    rw [← hbw.cell (p := ⟨g1, o1 + p * 2, none⟩) hg1] at e2
                    obtain ⟨ox, hox⟩ : ∃ y, Os j p = y := ⟨_, rfl⟩
                    rw [hox] at d2
                    have HMP := hide (fun b => (HM.out.under (below_drewN (Below.refl _ _) 1)).put hlt b)
                    have HID := hide (fun b (h : E p = b) => (show upf E p b = E by rw [← h]; exact upf_id E p))
                    have HY4 := hide (show ox = -1 → (ej = true ∨ qj.d < qp.d) → Mk ps Os (fun i => l0 i) E p from fun h1 h2 => .inr ⟨j, by rw [HN.out]; exact hjn, by rw [hox]; exact h1, by rw [D1, D2, hej]; exact h2.symm⟩)
                    have HX4 := hide (show ¬ (ox = -1 ∧ (ej = true ∨ qj.d < qp.d)) → Nm ps Os (fun i => l0 i) E p (j + 1) from fun h1 h0 => ⟨(HNM.out h0).1, fun r hr => by
                      by_cases e : r = j
                      · rw [e, hox, D1, D2, hej]; exact h1
                      · exact (HNM.out h0).2 r (by omega)⟩)
                    generalize qj.d = dj at *
                    generalize qp.d = dp at *
                    clear HNM HM hbw hag hqj hqp D1 D2 hox hej hep hg2 hg1
                    cases ep with
                    | true =>
                      have hN := hide (show Nm ps Os (fun i => l0 i) E p (j + 1) from fun h => by rw [HEP.out] at h; cases h)
                      have hM := hide (show Fy w4 _ n (.slice (some ⟨g, 0, none⟩) n cv) vs Os bb E by have := HMP.out true; rw [HID.out true HEP.out] at this; exact this)
                      clear HX4 HY4
                      go_wp2
                      refine wp_region_quiet_tail 35 (by kernel_rfl) (by kernel_rfl) ?_
                      simp only [List.take_succ_cons, List.take_zero, List.drop_succ_cons, List.drop_zero]
                      repeat (go_big_quiet_step (fail))
                      refine wpQuiet_nil ?_
                      go_wp2
                      go_roundg (n - (j + 1))
                      case measure => omega
                      case rel => exact ⟨j + 1, E, d, by go_num, by omega, Nat.le_refl _, hM, HRI, hN⟩
                    | false =>
                      cases k1 : (ox == -1) with
                      | false =>
                        have hN := hide (HX4.out (fun h => by rw [h.1] at k1; exact absurd k1 (by decide)))
                        have hM := hide (show Fy w4 _ n (.slice (some ⟨g, 0, none⟩) n cv) vs Os bb E by have := HMP.out false; rw [HID.out false HEP.out] at this; exact this)
                        clear HX4 HY4
                        go_wp2
                        refine wp_region_quiet_tail 35 (by kernel_rfl) (by kernel_rfl) ?_
                        simp only [List.take_succ_cons, List.take_zero, List.drop_succ_cons, List.drop_zero]
                        repeat (go_big_quiet_step (fail))
                        refine wpQuiet_nil ?_
                        go_wp2
                        go_roundg (n - (j + 1))
                        case measure => omega
                        case rel => exact ⟨j + 1, E, d, by go_num, by omega, Nat.le_refl _, hM, HRI, hN⟩
                      | true =>
                        have k2 : ox = -1 := by simpa using k1
                        cases ej with
                        | true =>
                          have hR := hide (HRI.out.hit HTL.out (by rw [HN.out]; exact hlt) HEP.out (HY4.out k2 (.inl rfl)))
                          have hN := hide (show Nm ps Os (fun i => l0 i) (upf E p true) p (j + 1) from fun h => by rw [upf_same] at h; cases h)
                          have hM := hide (HMP.out true)
                          clear HX4 HY4
                          clear k2
                          go_wp2
                          refine wp_region_quiet_tail 35 (by kernel_rfl) (by kernel_rfl) ?_
                          simp only [List.take_succ_cons, List.take_zero, List.drop_succ_cons, List.drop_zero]
                          repeat (go_big_quiet_step (fail))
                          refine wpQuiet_nil ?_
                          go_wp2
                          go_roundg (n - (j + 1))
                          case measure => omega
                          case rel => exact ⟨j + 1, _, true, by go_num, by omega, Nat.le_refl _, hM, hR, hN⟩
                        | false =>
                          cases k3 : decide (dj < dp) with
                          | true =>
                            have hR := hide (HRI.out.hit HTL.out (by rw [HN.out]; exact hlt) HEP.out (HY4.out k2 (.inr (of_decide_eq_true k3))))
                            have hN := hide (show Nm ps Os (fun i => l0 i) (upf E p true) p (j + 1) from fun h => by rw [upf_same] at h; cases h)
                            have hM := hide (HMP.out true)
                            clear HX4 HY4
                            clear k2
                            go_wp2
                            refine wp_region_quiet_tail 35 (by kernel_rfl) (by kernel_rfl) ?_
                            simp only [List.take_succ_cons, List.take_zero, List.drop_succ_cons, List.drop_zero]
                            repeat (go_big_quiet_step (fail))
                            refine wpQuiet_nil ?_
                            go_wp2
                            go_roundg (n - (j + 1))
                            case measure => omega
                            case rel => exact ⟨j + 1, _, true, by go_num, by omega, Nat.le_refl _, hM, hR, hN⟩
                          | false =>
                            have hN := hide (HX4.out (fun h => h.2.elim (fun h3 => by cases h3) (fun h3 => absurd h3 (of_decide_eq_false k3))))
                            have hM := hide (show Fy w4 _ n (.slice (some ⟨g, 0, none⟩) n cv) vs Os bb E by have := HMP.out false; rw [HID.out false HEP.out] at this; exact this)
                            clear HX4 HY4
                            clear k2
                            go_wp2
                            refine wp_region_quiet_tail 35 (by kernel_rfl) (by kernel_rfl) ?_
                            simp only [List.take_succ_cons, List.take_zero, List.drop_succ_cons, List.drop_zero]
                            repeat (go_big_quiet_step (fail))
                            refine wpQuiet_nil ?_
                            go_wp2
                            go_roundg (n - (j + 1))
                            case measure => omega
                            case rel => exact ⟨j + 1, E, d, by go_num, by omega, Nat.le_refl _, hM, HRI, hN⟩
                  · obtain rfl : n = j := by omega
                    have HN2 := hide (show Ri ps fs Os (fun i => l0 i) E c0 t (p + 1) d from HRI.out.next (by rw [HN.out]; exact HNM.out))
                    clear HRI HNM
                    go_wp2
                    go_roundg (G2 - 1)
                    case measure => omega
                    case rel => exact ⟨p + 1, E, d, by go_num, by omega, by omega, HM, HN2⟩
            · obtain rfl : n = p := by omega
              have HC := hide (show Cld ps Os (fun i => l0 i) E ∨ t + 1 + cntF E n ≤ n by
                have h := HRI.out
                rw [← HN.out] at h
                have := h.round
                rw [HN.out] at this; exact this)
              have HE := hide HRI.out.esc
              clear HRI
              go_wp2
              go_roundg (n + 1 - (t + 1))
              case measure => omega
              case rel => exact ⟨t + 1, E, by go_num, by omega, Nat.le_refl _, HM, HE, HC⟩
        · obtain rfl : n + 1 = t := by omega
          have HCL := hide (show ∀ x, x < n → E x = E0 x from fun x hx => by
            have hc : Cld ps Os (fun i => l0 i) E := by
              rcases HC.out with h | h
              · exact h
              · omega
            rw [Bool.eq_iff_iff]
            exact ⟨fun h => (HE0.out x hx).2 (HE.out x h), fun h => HTL.out.all (by rw [HN.out]; exact HS.out) hc ((HE0.out x hx).1 h)⟩)
          clear HC HE
          go_wp2
          go_loopg [17] n (fun K v17 wr3 => ∃ p : Nat, v17 = .int .i64 p ∧ p ≤ n ∧ n - p ≤ K ∧ Hid (Fy w4 wr3 n (.slice av n cv) vs Os bb E))
          case atStart => exact ⟨0, rfl, Nat.zero_le _, Nat.le_refl _, HM⟩
          case round =>
            clear HM
            obtain ⟨p, rfl, hp, hgp, HM⟩ := hrel
            by_cases hlt : p < n
            · have bp : (p : Int) < (n : Int) := by omega
              obtain ⟨c1, _, _⟩ := HM.out.cells hlt
              obtain ⟨g, o, hgo, hgl, c2⟩ := bool_at' HL4.out (j := p) (x := E0 p) (by rw [List.getElem?_map, List.getElem?_range hlt]; rfl)
              subst hgo
              rw [← HM.out.fa.bel.cell (p := ⟨g, o + p, none⟩) hgl] at c2
              rw [HCL.out p hlt] at c1
              generalize E0 p = ep at c1 c2
              have HM4 := hide (fun q => HM.out.under (below_drewN (Below.refl _ _) q))
              clear HM hgl
              go_wp2
              go_quiet (fail)
              cases ep
              all_goals
                go_wp2
                go_roundg (n - (p + 1))
                case measure => omega
                case rel => exact ⟨p + 1, by go_num, by omega, Nat.le_refl _, hide (HM4.out _)⟩
            · obtain rfl : n = p := by omega
              go_wp2
              go_ret
              exact ⟨rfl, HB4.out.trans (HM.out.fa.bel.mono HB4.out.size)⟩
end
end Go.Proofs.Ytlbildodjnjniaa
