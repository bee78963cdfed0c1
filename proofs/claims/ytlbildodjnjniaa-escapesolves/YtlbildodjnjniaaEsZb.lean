/- The document's Escapes: the walk. -/
import Derived.Test.YtlbildodjnjniaaEsZa
namespace Go.Proofs.Ytlbildodjnjniaa
open Go.RowKit

/-- The region that looks whether r marks p. -/
def rmk (ps : List Pt) (Os : Nat → Nat → Int) (E : Nat → Bool) (p r : Nat) : Prop := Os r p = -1 ∧ (dep ps r < dep ps p ∨ E r = true)
set_option maxHeartbeats 4000000 in
set_option maxRecDepth 20000 in
theorem escapes_any {w : World} {vp vf : Value} {ps : List Pt} {fs : List Fl} (R : PtsAt w vp ps) (F : FlsAt w vf fs) (G : Good ps fs) (hn60 : ps.length ≤ 60) :
    Calls Try.prog 16 #[vp, vf] w fun e w' => ∃ (v : Value) (E : Nat → Bool), e = .returned v ∧ Hid (BoolsAt w' v ((List.range ps.length).map E) ∧ ∀ x, x < ps.length → (E x = true ↔ Esc ps fs x)) ∧ Below w.heap.size w w' := by
  have HR := hide R
  have HF := hide F
  have HG := hide G
  have HS := hide G.snd
  obtain ⟨ao, cap, rfl, hpt⟩ := R
  obtain ⟨bo, cbp, rfl, _⟩ := F
  have HPT := hide hpt
  clear hpt G
  generalize hn : ps.length = n at *
  generalize hm : fs.length = m at *
  have HN := hide hn
  clear hn hm
  have b1 : (n : Int) ≤ 60 := by omega
  have hmk := fun W : World => run_bools W n (by omega)
  obtain ⟨W1, hW1⟩ : ∃ W1, w.alloc (.cells (reps n (.bool false)) 4) = W1 := ⟨_, rfl⟩
  have hk1 : W1.heap[w.heap.size]? = some (.cells (reps n (.bool false)) 4 (0, 0)) := by rw [← hW1]; exact heap_new _ _ rfl
  have hb1 : Below w.heap.size w W1 := by rw [← hW1]; exact (Below.refl _ _).alloc (Nat.le_refl _) _
  have HK1 := hide hk1
  have HWB := hide hb1
  have FA0 := hide (Fa.new (w := W1) (n := n) (Os := fun _ _ => 0))
  clear hk1 hb1
  go_enter Try.func16, Try.ntmps16
  go_upto_region 3 with fail
  generalize hz : w.heap.size = oo at HK1 ⊢
  have HZ := hide hz
  clear hz hmk hW1
  go_wp2
  go_loopg [6, 7] n (fun K v6 v7 wr => ∃ (k : Nat) (bs : List Nat) (Os : Nat → Nat → Int), v7 = .int .i64 k ∧ k ≤ n ∧ n - k ≤ K ∧ bs.length = k ∧ Hid (Fa W1 wr n v6 bs Os) ∧ Hid (∀ r x : Nat, r < k → x < n → (Os r x = -1 ↔ Hld fs (r : Int) (x : Int))))
  case atStart => exact ⟨0, [], fun _ _ => 0, rfl, Nat.zero_le _, Nat.le_refl _, rfl, FA0, hide (fun r x h => absurd h (Nat.not_lt_zero _))⟩
  case round =>
    clear FA0
    obtain ⟨k, bs, Os, rfl, hk, hkk, hbl, HA, HT⟩ := hrel
    obtain ⟨G1, rfl⟩ : ∃ G1, G1 = gk := ⟨gk, rfl⟩
    obtain ⟨av, cv, hv⟩ := row_form HA.out.row
    rw [hbl] at hv
    subst hv
    have HBL := hide hbl
    clear hbl
    have hbw := HWB.out.trans (HA.out.bel.mono HWB.out.size)
    by_cases hlt : k < n
    · have hcm := rcomes_any (root := (k : Int)) (HR.out.below hbw) (HF.out.below hbw) HG.out (by rw [HN.out]; exact hn60) (by omega) (by rw [HN.out]; omega)
      rw [HN.out] at hcm
      have bk : (k : Int) < (n : Int) := by omega
      clear hbw
      go_wp2_with (first
        | (go_at_call 13; refine hcm.mono ?_; rintro e w6 ⟨bc, O, rfl, HO⟩; clear hcm; obtain ⟨g, c8, w8, hrun, FA8⟩ := HA.out.push HO.out.1 (by rw [HBL.out]; omega); rw [HBL.out] at hrun FA8; have HA8 := hide FA8; have HT8 := hide (show ∀ r x : Nat, r < k + 1 → x < n → (upf Os k O r x = -1 ↔ Hld fs (r : Int) (x : Int)) from fun r x hr hx => by (by_cases e : r = k; (subst e; rw [upf_same, ← lo_at (root := (r : Int)) (O := O) hx]; exact hld_of HS.out HO.out.2 (by omega) (by omega)); (rw [upf_other _ _ e]; exact HT.out r x (by omega) hx))); clear FA8)
        | (at_builtin; refine wpList_append_eq rfl _ _ 44 rfl rfl rfl hrun ?_))
      go_roundg (n - (k + 1))
      case measure => omega
      case rel => exact ⟨k + 1, _, _, by go_num, by omega, Nat.le_refl _, by rw [List.length_append, HBL.out]; rfl, HA8, HT8⟩
    · obtain rfl : n = k := by omega
      have hcm := rcomes_any (root := -1) (HR.out.below hbw) (HF.out.below hbw) HG.out (by rw [HN.out]; exact hn60) (by omega) (by omega)
      rw [HN.out] at hcm
      clear hbw
      go_upto_region 8 with (go_at_call 13; refine hcm.mono ?_; rintro e w6 ⟨bh, Oh, rfl, HO⟩; clear hcm; have HZ0 := hide (Fz.mk' (w0 := w) (w := W1) (bo := oo) (by rw [← HZ.out]; exact Nat.le_refl _) HWB.out.size HWB.out HK1.out HA.out HO.out.1); have HTL := hide (show Tl ps fs Os Oh from ⟨fun r x hr hx => HT.out r x (by rw [← HN.out]; exact hr) (by rw [← HN.out]; exact hx), fun x hx => by (rw [← lo_at (root := -1) (O := Oh) (n := n) (by rw [← HN.out]; exact hx)]; exact hld_of HS.out HO.out.2 (by omega) (by omega))⟩))
      clear HA HT
      go_wp2
      go_loopg [9] (n + 1) (fun K v wr => ∃ (E : Nat → Bool) (b : Bool), v = .bool b ∧ Hid (Fz w wr n (.slice av n cv) bs Os bh Oh oo E) ∧ Hid (∀ x, E x = true → Esc ps fs x) ∧ Hid (b = false → ∀ p, p < n → Mk ps Os Oh E p → E p = true) ∧ Hid (cntF E n + b2n b ≤ K))
      case atStart => exact ⟨_, true, rfl, HZ0, hide (fun x h => by cases h), hide (fun h => by cases h), hide (by have := cntF_le (fun _ => false) n; show _ + 1 ≤ _; omega)⟩
      case round =>
        clear HZ0
        obtain ⟨E, b, rfl, HM, HE, HC, HK⟩ := hrel
        obtain ⟨G1, rfl⟩ : ∃ G1, G1 = gk := ⟨gk, rfl⟩
        cases b with
        | false =>
          go_wp2
          go_ret
          refine ⟨_, rfl, ⟨E, hide ⟨⟨some ⟨oo, 0, none⟩, n, by simp, fun j x hx => ?_⟩, fun x hx => ⟨HE.out x, fun h => ?_⟩⟩⟩, HM.out.fa.bel⟩
          · rw [List.getElem?_map] at hx
            by_cases hj : j < n
            · rw [List.getElem?_range hj] at hx
              simp at hx; subst hx
              obtain ⟨_, q1, _, q2⟩ := HM.out.cells hj
              exact ⟨oo, 0, rfl, q2, by rw [Nat.zero_add]; exact q1⟩
            · rw [List.getElem?_eq_none (by simp; omega)] at hx; cases hx
          · refine HTL.out.all (by rw [HN.out]; exact HS.out) (fun p hp => ?_) h
            exact HC.out (by trivial) p (by rw [← HN.out]; exact hp)
        | true =>
          go_upto_region 12 with fail
          generalize hc0 : cntF E n = c0 at HK
          have HC0 := hide (show cntF E n + b2n false ≤ c0 by rw [hc0]; exact Nat.le_refl _)
          clear hc0
          go_loopg [9, 10] n (fun K2 v9 vi wr2 => ∃ (p : Nat) (E : Nat → Bool) (b : Bool), v9 = .bool b ∧ vi = .int .i64 p ∧ p ≤ n ∧ n - p ≤ K2 ∧ Hid (Fz w wr2 n (.slice av n cv) bs Os bh Oh oo E) ∧ Hid (∀ x, E x = true → Esc ps fs x) ∧ Hid (b = false → ∀ x, x < p → Mk ps Os Oh E x → E x = true) ∧ Hid (cntF E n + b2n b ≤ c0))
          case atStart => exact ⟨0, E, false, rfl, rfl, Nat.zero_le _, Nat.le_refl _, HM, HE, hide (fun _ x hx => absurd hx (Nat.not_lt_zero _)), HC0⟩
          case round =>
            clear HM HE HC HC0
            obtain ⟨p, E, b, rfl, rfl, hp, hgk, HM, HE, HC, HK2⟩ := hrel
            obtain ⟨G2, rfl⟩ : ∃ G2, G2 = gk := ⟨gk, rfl⟩
            by_cases hlt : p < n
            · obtain ⟨c1, c2, c3, c4⟩ := HM.out.cells hlt
              obtain ⟨oh, hoh⟩ : ∃ y, Oh p = y := ⟨_, rfl⟩
              rw [hoh] at c1
              have HOH := hide hoh
              have bp : (p : Int) < (n : Int) := by omega
              clear c2 c3 c4 hoh
              obtain ⟨b0, hb0⟩ : ∃ b0, (oh == -1) = b0 := ⟨_, rfl⟩
              have HB0 := hide hb0
              clear hb0
              go_upto_region 16 with fail
              go_loopg [11, 12] n (fun K3 v11 v12 wr3 => ∃ (j : Nat) (z : Bool), v11 = .bool z ∧ v12 = .int .i64 j ∧ j ≤ n ∧ n - j ≤ K3 ∧ Hid (Fz w wr3 n (.slice av n cv) bs Os bh Oh oo E) ∧ Hid (z = true → Mk ps Os Oh E p) ∧ Hid (z = false → Oh p ≠ -1 ∧ ∀ r, r < j → ¬ rmk ps Os E p r))
              case atStart => exact ⟨0, _, rfl, rfl, Nat.zero_le _, Nat.le_refl _, HM, hide (fun h => .inl (by rw [HOH.out]; simpa using h)), hide (fun h => ⟨by rw [HOH.out]; simpa using h, fun r hr => absurd hr (Nat.not_lt_zero _)⟩)⟩
              case round =>
                clear HM c1 HOH HB0
                obtain ⟨j, z, rfl, rfl, hj, hgj, HM, HY, HX⟩ := hrel
                obtain ⟨G3, rfl⟩ : ∃ G3, G3 = gk := ⟨gk, rfl⟩
                obtain ⟨_, c2, c3, c4⟩ := HM.out.cells hlt
                obtain ⟨ep, hep⟩ : ∃ y, E p = y := ⟨_, rfl⟩
                rw [hep] at c2
                have HEP := hide hep
                clear hep
                have HW3 := hide (show Below w.heap.size w _ from HM.out.fa.bel)
                cases z with
                | true =>
                  clear HX HW3
                  have HCl := hide (show b = false → E p = true → ∀ x, x < p + 1 → Mk ps Os Oh E x → E x = true from fun hb he x hx hm => by
                    by_cases e : x = p
                    · rw [e]; exact he
                    · exact HC.out hb x (by omega) hm)
                  rcases Nat.lt_or_ge j n with hd | hd
                  case' inl => have bj : (j : Int) < (n : Int) := by omega
                  case' inr => obtain rfl : n = j := by omega
                  all_goals
                    clear hd
                    cases ep with
                    | true =>
                      have HN1 := hide (fun hb => HCl.out hb HEP.out)
                      go_wp2
                      go_roundg (G2 - 1)
                      case measure => omega
                      case rel => exact ⟨p + 1, E, b, rfl, by go_num, by omega, by omega, HM, HE, HN1, HK2⟩
                    | false =>
                      have hes := hide (HTL.out.mark HE.out (by rw [HN.out]; exact hlt) (HY.out (by trivial)))
                      have hcn := hide (cntF_set (E := E) (m := n) hlt HEP.out)
                      have HM4 := hide (HM.out.set hlt)
                      go_wp2
                      go_roundg (G2 - 1)
                      case measure => omega
                      case rel => exact ⟨p + 1, upf E p true, true, rfl, by go_num, by omega, by omega, HM4, hes, hide (fun h => by cases h), hide (by have h1 := hcn.out; have h2 := HK2.out; show _ + 1 ≤ c0; omega)⟩
                | false =>
                  by_cases hjn : j < n
                  · have bj : (j : Int) < (n : Int) := by omega
                    obtain ⟨g, cg, bb, hag, d1, hd2⟩ := HM.out.fa.cell (r := j) (by rw [HBL.out]; exact hjn)
                    have d2 := hd2 p hlt
                    clear hd2
                    rw [HBL.out] at hag
                    obtain rfl : av = some ⟨g, 0, none⟩ := (Value.slice.inj hag).1
                    obtain ⟨qj, hqj⟩ : ∃ q, ps[j]? = some q := ⟨ps[j]'(by rw [HN.out]; exact hjn), by simp⟩
                    obtain ⟨qp, hqp⟩ : ∃ q, ps[p]? = some q := ⟨ps[p]'(by rw [HN.out]; exact hlt), by simp⟩
                    obtain ⟨g1, o1, rfl, hg1, e1, _⟩ := HPT.out j qj hqj
                    obtain ⟨g2, o2, hgo, hg2, e2, _⟩ := HPT.out p qp hqp
                    cases hgo
                    have D1 : dep ps j = qj.d := by unfold dep; rw [hqj]; rfl
                    have D2 : dep ps p = qp.d := by unfold dep; rw [hqp]; rfl
                    rw [← HW3.out.cell (p := ⟨g1, o1 + j * 2, none⟩) hg1] at e1
                    rw [← HW3.out.cell (p := ⟨g1, o1 + p * 2, none⟩) hg1] at e2
                    obtain ⟨_, c5, _, _⟩ := HM.out.cells hjn
                    have HM4 := hide (fun q => HM.out.under (below_drewN (Below.refl _ _) q))
                    obtain ⟨ox, hox⟩ : ∃ y, Os j p = y := ⟨_, rfl⟩
                    rw [hox] at d2
                    obtain ⟨ej, hej⟩ : ∃ y, E j = y := ⟨_, rfl⟩
                    rw [hej] at c5
                    have HY4 := hide (show ox = -1 → (qj.d < qp.d ∨ ej = true) → Mk ps Os Oh E p from fun h1 h2 => .inr ⟨j, by rw [HN.out]; exact hjn, by rw [hox]; exact h1, by rw [D1, D2, hej]; exact h2⟩)
                    have HX4 := hide (show ¬ (ox = -1 ∧ (qj.d < qp.d ∨ ej = true)) → Oh p ≠ -1 ∧ ∀ r, r < j + 1 → ¬ rmk ps Os E p r from fun h1 => ⟨(HX.out (by trivial)).1, fun r hr => by
                      by_cases e : r = j
                      · rw [e]; unfold rmk; rw [hox, D1, D2, hej]; exact h1
                      · exact (HX.out (by trivial)).2 r (by omega)⟩)
                    generalize qj.d = dj at *
                    generalize qp.d = dp at *
                    clear HX HY HM HW3 hag hqj hqp D1 D2 hox hej hg2 c2 c3 c4
                    cases k1 : (ox == -1) with
                    | false =>
                      have HX5 := hide (HX4.out (fun h => by rw [h.1] at k1; exact absurd k1 (by decide)))
                      clear HX4 HY4
                      go_wp2
                      go_quiet (fail)
                      go_wp2
                      go_roundg (n - (j + 1))
                      case measure => omega
                      case rel => exact ⟨j + 1, false, rfl, by go_num, by omega, Nat.le_refl _, hide (HM4.out _), hide (fun h => by cases h), hide (fun _ => HX5.out)⟩
                    | true =>
                      have k2 : ox = -1 := by simpa using k1
                      cases k3 : decide (dj < dp) with
                      | true =>
                        have HY5 := hide (HY4.out k2 (.inl (of_decide_eq_true k3)))
                        have k4 : ox = -1 := k2
                        clear HX4 HY4 k1
                        subst k4
                        clear k2
                        go_wp2
                        go_quiet (fail)
                        go_wp2
                        go_roundg (n - (j + 1))
                        case measure => omega
                        case rel => exact ⟨j + 1, true, rfl, by go_num, by omega, Nat.le_refl _, hide (HM4.out _), hide (fun _ => HY5.out), hide (fun h => by cases h)⟩
                      | false =>
                        have HY5 := hide (show ej = true → Mk ps Os Oh E p from fun h => HY4.out k2 (.inr h))
                        have HX5 := hide (show ej = false → _ from fun h => HX4.out (fun h2 => h2.2.elim (fun h3 => absurd h3 (of_decide_eq_false k3)) (fun h3 => by rw [h] at h3; cases h3)))
                        have k4 : ox = -1 := k2
                        clear HX4 HY4 k1
                        subst k4
                        clear k2
                        go_wp2
                        go_quiet (fail)
                        go_wp2
                        go_roundg (n - (j + 1))
                        case measure => omega
                        case rel => exact ⟨j + 1, ej, rfl, by go_num, by omega, Nat.le_refl _, hide (HM4.out _), HY5, HX5⟩
                  · obtain rfl : n = j := by omega
                    have hd : decide ((n : Int) < (n : Int)) = false := by simp
                    have HN1 := hide (show b = false → ∀ x, x < p + 1 → Mk ps Os Oh E x → E x = true from fun hb x hx hm => by
                      by_cases e : x = p
                      · subst e
                        obtain ⟨k1, k2⟩ := HX.out (by trivial)
                        rcases hm with h | ⟨r, hr, h1, h2⟩
                        · exact absurd h k1
                        · exact absurd ⟨h1, h2⟩ (k2 r (by rw [← HN.out]; exact hr))
                      · exact HC.out hb x (by omega) hm)
                    clear HX HY HW3
                    go_wp2
                    go_roundg (G2 - 1)
                    case measure => omega
                    case rel => exact ⟨p + 1, E, b, rfl, by go_num, by omega, by omega, HM, HE, HN1, HK2⟩
            · obtain rfl : n = p := by omega
              go_wp2
              go_roundg (G1 - 1)
              case measure => have := HK.out; unfold b2n at this; simp at this; omega
              case rel => exact ⟨E, b, rfl, HM, HE, HC, hide (by have h1 := HK2.out; have h2 := HK.out; unfold b2n at h2; simp at h2; omega)⟩
end Go.Proofs.Ytlbildodjnjniaa
