/- The document's Pop of a stack. -/
import Derived.Test.YtjapfckadikjiaaRsG
namespace Go.Proofs.Ytjapfckadikjiaa
open Go.RowKit
section
variable {B : Nat} {w w' : World} {vf : Value} {g : Nat → Value} {s : Sk}
theorem namedB_mono {a m n : Nat} (h : namedB s a m = true) (hmn : m ≤ n) : namedB s a n = true := by
  unfold namedB at *
  rw [List.any_eq_true] at *
  obtain ⟨u, hu, h1⟩ := h
  exact ⟨u, (List.take_subset_take_left _ hmn) hu, h1⟩
theorem atB_iff {a : Nat} {v : Int} : atB a (plc s v) = decide (s.base + a ≤ v ∧ v < s.base + s.ws.length) := by
  cases hp : plc s v with
  | none =>
    have := plc_none hp
    symm
    simp only [atB, decide_eq_false_iff_not]
    omega
  | some i =>
    have := plc_some hp
    simp only [atB, decide_eq_decide]
    omega
theorem Rc.cut {fr : List (List Wo)} {n cap : Nat} {ao : Option Addr} (R : Rc B w (.slice ao fr.length cap) g fr) (hn : n ≤ fr.length) : Rc B w (.slice ao n cap) g (fr.take n) := by
  have hl : (fr.take n).length = n := by rw [List.length_take]; omega
  refine ⟨?_, fun i f hf => ?_, fun i j hi hj hij => R.apart i j (by omega) (by omega) hij⟩
  · rw [hl]
    have := row_cut R.row hn
    rwa [Nat.mul_one, ← List.map_take, List.take_range, Nat.min_eq_left hn] at this
  · rw [List.getElem?_take] at hf
    split at hf
    · exact R.els i f hf
    · cases hf
theorem five (w : World) (h k : Nat) (y0 y1 y2 : Value) (o : Obj) (h1 : k < h) (h2 : h ≤ w.heap.size) :
    ((((w.setCell ⟨h + 1, 0, none⟩ y0).setCell ⟨h + 1, 1, none⟩ y1).setCell ⟨h + 1, 2, none⟩ y2).alloc o).drew.heap[k]? = w.heap[k]? := by
  rw [heap_drew, Below.heap_alloc _ _ _ (by rw [World.size_setCell, World.size_setCell, World.size_setCell]; omega), put3 _ (h + 1) k _ _ _ (by omega)]
theorem below5 {a w : World} {h : Nat} (hb : Below h a w) (hz : h ≤ w.heap.size) (y0 y1 y2 : Value) (o : Obj) : Below h a ((((w.setCell ⟨h + 1, 0, none⟩ y0).setCell ⟨h + 1, 1, none⟩ y1).setCell ⟨h + 1, 2, none⟩ y2).alloc o).drew :=
  ((below3 hb (Nat.le_succ _) y0 y1 y2).alloc (by rw [World.size_setCell, World.size_setCell, World.size_setCell]; exact hz) o).drew
set_option maxHeartbeats 4000000 in
theorem rpop_none (w : World) (R : Rc B w vf g s.fr) (h : s.fr = []) : Calls Try.prog 13 #[rv s vf] w fun e w' => ROut B w 6 s e w' := by
  obtain ⟨ao, cp, hvf, _⟩ := row_form R.row
  have hlen : s.fr.length = 0 := by rw [h]; rfl
  rw [hlen] at hvf
  have HR := hide R
  have HLT := hide (show ∀ k, rown vf g s.fr.length k → k < w.heap.size from fun k hk => (R.own_lt hk).2)
  have HV := hide hvf
  rw [hvf]
  clear R hvf h
  go_enter Try.func13, Try.ntmps13
  go_wp2
  go_region
  all_goals go_wp2
  all_goals
    refine bodyPost_ret (v := .tuple #[.int .i64 6, rv s (.slice ao 0 cp)]) ?_ rfl ?_
    · simp [results, Try.results13, go_sem]
    · unfold ROut
      have h1 := HR.out
      rw [HV.out] at h1
      refine ⟨_, g, rfl, (((h1.alloc _).alloc _).keep fun _ _ => rfl), ?_⟩
      exact (((Below.refl _ _).alloc (Nat.le_refl _) _).alloc (by simp) _).drew
set_option maxHeartbeats 8000000 in
theorem rpop_some (w : World) (R : Rc B w vf g s.fr) (I : SInv s) (hB : B ≤ w.heap.size) {n : Nat} (h : s.fr.length = n + 1) : Calls Try.prog 13 #[rv s vf] w fun e w' => ROut B w (popP s).1 (popP s).2 e w' := by
  obtain ⟨ao, cp, hvf, _⟩ := row_form R.row
  rw [h] at hvf
  obtain ⟨W1, hW1⟩ : ∃ W1, (w.alloc (.cells #[.int .i64 s.base, .int .i64 s.most, .slice ao (n + 1) cp] 31)).alloc (.cells #[.int .i64 0, .int .i64 0, .slice none 0 0] 31) = W1 := ⟨_, rfl⟩
  have z1 : W1.heap.size = w.heap.size + 1 + 1 := by rw [← hW1]; simp
  have R1 : Rc B W1 vf g s.fr := by rw [← hW1]; exact (R.alloc _).alloc _
  have bx : W1.heap[w.heap.size]? = some (.cells #[.int .i64 s.base, .int .i64 s.most, .slice ao (n + 1) cp] 31 (0, 0)) := by rw [← hW1, Below.heap_alloc _ _ _ (by simp), heap_new _ _ rfl]
  have br : W1.heap[w.heap.size + 1]? = some (.cells #[.int .i64 0, .int .i64 0, .slice none 0 0] 31 (0, 0)) := by rw [← hW1, heap_new _ _ (by simp)]
  have BW := hide (show Below w.heap.size w W1 by rw [← hW1]; exact ((Below.refl _ _).alloc (Nat.le_refl _) _).alloc (by simp) _)
  have hfrm := rfrom_any (w := W1) R1 I (m := n) (by omega)
  have hcop : ∀ w5 : World, Below W1.heap.size W1 w5 → Calls Try.prog 27 #[rv s (.slice ao (n + 1) cp)] w5 fun e w' => ∃ vf' g', e = .returned (rv s vf') ∧ Rc w5.heap.size w' vf' g' s.fr ∧ Below w5.heap.size w5 w' := fun w5 hb => by
    have := rcopied_any (w := w5) (R1.below hb) I
    rw [hvf] at this; exact this
  rw [hvf] at hfrm ⊢
  obtain ⟨fl, hfl⟩ : ∃ fl, s.fr[n]? = some fl := ⟨s.fr[n]'(by omega), by simp⟩
  have htot : s.ws.length = pre s.fr n + fl.length := by
    have h1 := pre_succ hfl
    have h2 : pre s.fr (n + 1) = s.ws.length := pre_len (by omega)
    omega
  have hfew := I.few
  have hm1 := I.m1
  have hfit := I.fit
  have hb1 := I.b1
  have hb2 := I.b2
  have HW1 := hide hW1
  have HCOP := hide hcop
  have HFRM := hide hfrm
  have HLT := hide (show ∀ k, rown vf g s.fr.length k → k < w.heap.size from fun k hk => (R.own_lt hk).2)
  have HR1 := hide R1
  have HV := hide hvf
  have HL := hide h
  have HFL := hide hfl
  have HT := hide htot
  have rf : ∀ w5 : World, Below W1.heap.size W1 w5 → (w5.cell? ⟨w.heap.size, 0, none⟩ = some (.int .i64 s.base) ∧ w5.cell? ⟨w.heap.size, 1, none⟩ = some (.int .i64 s.most) ∧ w5.cell? ⟨w.heap.size, 2, none⟩ = some (.slice ao (n + 1) cp)) ∧ w5.heap[w.heap.size]? = some (.cells #[.int .i64 s.base, .int .i64 s.most, .slice ao (n + 1) cp] 31 (0, 0)) ∧ w5.heap[w.heap.size + 1]? = some (.cells #[.int .i64 0, .int .i64 0, .slice none 0 0] 31 (0, 0)) := fun w5 hb => by
    have e1 := (hb.block w.heap.size (by omega)).trans bx
    obtain ⟨x0, x1, x2, _⟩ := box_facts e1
    exact ⟨⟨x0, x1, x2⟩, e1, (hb.block (w.heap.size + 1) (by omega)).trans br⟩
  have RF := hide rf
  have bn : (n : Int) < 1000 := by omega
  have bl : (fl.length : Int) ≤ 65536 := by omega
  have ba : (pre s.fr n : Int) + (fl.length : Int) ≤ 65536 := by omega
  have hne : ¬ w.heap.size + 1 = w.heap.size := by omega
  have hne3 : ¬ w.heap.size = w.heap.size + 1 := by omega
  have d0 : decide ((n : Int) < 0) = false := by simp
  obtain ⟨F, capF, hvF, cF, hFl⟩ := R1.frame (i := n) (by omega)
  have HF := hide hvF
  have hFw : F < w.heap.size := HLT.out F (.inl (by rw [hvF]; rfl))
  obtain ⟨afl, pfl, hgl, _⟩ := row_form (R1.els n fl hfl)
  rw [hgl] at cF
  have cF0 : ∀ w5 : World, Below W1.heap.size W1 w5 → w5.cell? ⟨F, n, none⟩ = some (.slice afl fl.length pfl) := fun w5 hb => by rw [hb.cell (p := ⟨F, n, none⟩) (by show F < _; omega)]; exact cF
  have CF := hide cF0
  obtain rfl : ao = some ⟨F, 0, none⟩ := by rw [hvf, h] at hvF; cases hvF; rfl
  clear hcop hfrm hW1 bx br R1 R I rf hvf hvF hgl hfl htot h cF cF0
  generalize hfll : fl.length = lf at *
  generalize hpn : pre s.fr n = a at *
  have HPN := hide hpn
  have HFLL := hide hfll
  clear hpn hfll
  go_enter Try.func13, Try.ntmps13
  go_wp2_with fail
  rw [HW1.out]
  refine HFRM.out.mono ?_
  rintro e w2 ⟨rfl, hb2⟩
  obtain ⟨⟨y0, y1, y2⟩, _, _⟩ := RF.out _ hb2
  have yF := CF.out _ hb2
  have HB2 := hide hb2
  clear hb2 HFRM HW1
  go_wp2
  go_loopw [7] (fun vi wr => ∃ i : Nat, i ≤ n ∧ vi = .int .i64 i ∧ Hid (namedB s a (pre s.fr i) = false) ∧ Below W1.heap.size W1 wr) (fun vi _ => n - (intOf vi).toNat)
  case atStart => exact ⟨0, Nat.zero_le _, rfl, hide (by rw [pre_zero]; simp [namedB]), HB2.out⟩
  case round =>
    obtain ⟨i, hi, rfl, hno, hb⟩ := hrel
    clear y0 y1 y2 yF HB2
    by_cases hlt : i < n
    · have di : decide (i < n) = true := by simpa using hlt
      have bi : (i : Int) < (n : Int) := by omega
      obtain ⟨f, hf⟩ : ∃ f, s.fr[i]? = some f := ⟨s.fr[i]'(by rw [HL.out]; omega), by simp⟩
      have Rw := HR1.out.below hb
      obtain ⟨F', capF', hvF', cF', _⟩ := Rw.frame (i := i) (by rw [HL.out]; omega)
      obtain rfl : F' = F := by rw [HV.out, HL.out] at hvF'; cases hvF'; rfl
      obtain ⟨af, pf, hgf, _⟩ := row_form (Rw.els i f hf)
      have HFi := hide hf
      have HGF := hide hgf
      have hpf := pre_get hf
      have bf : (f.length : Int) ≤ 65536 := by have : s.fr.flatten.length = s.ws.length := rfl; omega
      have cFi : ∀ w5 : World, Below W1.heap.size W1 w5 → w5.cell? ⟨F', i, none⟩ = some (.slice af f.length pf) := fun w5 hb5 => by
        obtain ⟨F2, cap2, h2, c2, _⟩ := (HR1.out.below hb5).frame (i := i) (by rw [HL.out]; omega)
        rw [HV.out, HL.out] at h2; cases h2
        rw [c2, HGF.out]
      have CFI := hide cFi
      have HPS := hide (pre_succ hf)
      have HNo := hide hno.out
      have HBi := hide hb
      have hpn2 : pre s.fr (i + 1) ≤ a := by
        rw [← HPN.out]; unfold pre
        have : s.fr.take (i + 1) = (s.fr.take n).take (i + 1) := by rw [List.take_take, Nat.min_eq_left (by omega)]
        rw [this]
        exact pre_le (s.fr.take n) (i + 1)
      rw [HPS.out] at hpn2
      clear cF' hvF' hgf hf hpf hno hb cFi Rw
      generalize hkf : f.length = kf at *
      have HKF := hide hkf
      clear hkf
      obtain ⟨⟨y0, y1, y2⟩, _, _⟩ := RF.out _ HBi.out
      go_wp2
      go_loopw [8] (fun vk wr' => ∃ k : Nat, k ≤ kf ∧ vk = .int .i64 k ∧ Hid (namedB s a (pre s.fr i + k) = false) ∧ Below W1.heap.size W1 wr') (fun vk _ => kf - (intOf vk).toNat)
      case atStart => exact ⟨0, Nat.zero_le _, rfl, hide HNo.out, HBi.out⟩
      case round =>
        obtain ⟨k, hk, rfl, hno, hb⟩ := hrel
        clear y0 y1 y2
        obtain ⟨⟨y0, y1, y2⟩, _, _⟩ := RF.out _ hb
        have yF := CFI.out _ hb
        have hzr := hb.size
        rw [z1] at hzr
        by_cases hkl : k < kf
        · have dk : decide (k < kf) = true := by simpa using hkl
          have bk : (k : Int) < (kf : Int) := by omega
          obtain ⟨u, hu⟩ : ∃ u, f[k]? = some u := ⟨f[k]'(by rw [HKF.out]; exact hkl), by simp⟩
          obtain ⟨b, cb, hgb, cu, cp', _, hbl⟩ := (HR1.out.below hb).word HFi.out hu
          obtain rfl : af = some ⟨b, 0, none⟩ := by rw [HGF.out, HKF.out] at hgb; cases hgb; rfl
          have hwu : s.ws[pre s.fr i + k]? = some u := by rw [ws_at HFi.out (by rw [HKF.out]; exact hkl)]; exact hu
          have hsuc := namedB_succ (a := a) hwu
          rw [hno.out, Bool.false_or] at hsuc
          have his : isN s a u = (u.p && decide (s.base + a ≤ u.v ∧ u.v < s.base + a + lf)) := by
            unfold isN
            rw [atB_iff, HT.out]
            congr 2
            apply propext
            omega
          rw [his] at hsuc
          have HSU := hide hsuc
          have HBk := hide hb
          have hw1 : w.heap.size < wr.heap.size := by omega
          have hw2 : w.heap.size + 1 < wr.heap.size := by omega
          have hF3 : F' < wr.heap.size := by omega
          obtain ⟨_, e1, e2⟩ := RF.out _ hb
          obtain ⟨r0, r1, r2, f0, f1, f2⟩ := box_facts e2
          clear hsuc his hno hgb hu hwu hb e1 e2
          obtain ⟨uv, up⟩ := u
          cases up with
          | false =>
            have HSn := hide (show namedB s a (pre s.fr i + (k + 1)) = false by rw [← Nat.add_assoc, HSU.out]; rfl)
            clear HSU
            go_wp2
            go_roundw
            case rel => exact ⟨k + 1, by omega, by go_num, HSn, HBk.out.alloc HBk.out.size _⟩
            case measure => simp [intOf]; omega
          | true =>
            by_cases h1 : s.base + (a : Int) ≤ uv
            · have d1 : decide (s.base + (a : Int) ≤ uv) = true := by simpa using h1
              by_cases h2 : uv < s.base + (a : Int) + (lf : Int)
              · have d2 : decide (uv < s.base + (a : Int) + (lf : Int)) = true := by simpa using h2
                have HN1 := hide (show popP s = (1, s) by
                  have e3 : namedB s a (pre s.fr i + k + 1) = true := by rw [HSU.out]; simp [h1, h2]
                  have e4 : namedB s a a = true := namedB_mono e3 (by omega)
                  unfold popP
                  rw [if_neg (by rw [HL.out]; omega), show s.fr.length - 1 = n by rw [HL.out]; rfl, HPN.out, if_pos e4])
                clear HSU
                go_wp2
                go_region
                all_goals go_wp2
                all_goals
                  refine bodyPost_ret (v := .tuple #[.int .i64 1, rv s (.slice (some ⟨F', 0, none⟩) (n + 1) cp)]) ?_ rfl ?_
                  · simp [results, Try.results13, go_sem, r0, r1, r2, World.cell?_alloc_past, hw2]
                  · rw [HN1.out]
                    have h3 := HR1.out.below HBk.out
                    rw [HV.out] at h3
                    have hfin : Rc B ((((wr.setCell ⟨w.heap.size + 1, 0, none⟩ (.int .i64 s.base)).setCell ⟨w.heap.size + 1, 1, none⟩ (.int .i64 s.most)).setCell ⟨w.heap.size + 1, 2, none⟩ (.slice (some ⟨F', 0, none⟩) (n + 1) cp)).alloc (.cells #[.int .i64 uv, .bool true] 70)).drew (.slice (some ⟨F', 0, none⟩) (n + 1) cp) g s.fr :=
                      h3.keep fun k' hk' => five wr w.heap.size k' _ _ _ _ (HLT.out k' (by rw [HV.out]; exact hk')) (by omega)
                    unfold ROut
                    exact ⟨_, _, rfl, hfin, below5 (BW.out.trans (HBk.out.mono (by omega))) (by omega) _ _ _ _⟩
              · have d2 : decide (uv < s.base + (a : Int) + (lf : Int)) = false := by simpa using h2
                have HSn := hide (show namedB s a (pre s.fr i + (k + 1)) = false by rw [← Nat.add_assoc, HSU.out]; simp [h2])
                clear HSU
                go_wp2
                go_roundw
                case rel => exact ⟨k + 1, by omega, by go_num, HSn, HBk.out.alloc HBk.out.size _⟩
                case measure => simp [intOf]; omega
            · have d1 : decide (s.base + (a : Int) ≤ uv) = false := by simpa using h1
              have HSn := hide (show namedB s a (pre s.fr i + (k + 1)) = false by rw [← Nat.add_assoc, HSU.out]; simp [h1])
              clear HSU
              go_wp2
              go_roundw
              case rel => exact ⟨k + 1, by omega, by go_num, HSn, HBk.out.alloc HBk.out.size _⟩
              case measure => simp [intOf]; omega
        · obtain rfl : k = kf := by omega
          have dk : decide (k < k) = false := by simp
          have HNn := hide (show namedB s a (pre s.fr (i + 1)) = false by rw [HPS.out]; exact hno.out)
          have HBn := hide hb
          clear hno hb
          go_wp2
          go_roundw
          case rel => exact ⟨i + 1, by omega, by go_num, HNn, HBn.out⟩
          case measure => simp [intOf]; omega
    · obtain rfl : i = n := by omega
      have di : decide (i < i) = false := by simp
      have HN0 := hide (show popP s = (0, popS s) by
        have e4 : namedB s a a = false := by have := hno.out; rw [HPN.out] at this; exact this
        unfold popP
        rw [if_neg (by rw [HL.out]; omega), show s.fr.length - 1 = i by rw [HL.out]; rfl, HPN.out, e4]; rfl)
      obtain ⟨⟨y0, y1, y2⟩, e1, e2⟩ := RF.out _ hb
      have hcp := hide (HCOP.out _ hb)
      have HB3 := hide hb
      have z3 := hb.size
      have BX3 := hide e1
      have BR3 := hide e2
      clear hno hb e1 e2
      go_wp2_with fail
      refine hcp.out.mono ?_
      rintro e w6 ⟨vf', g', rfl, Rn, hb6⟩
      clear hcp y0 y1 y2
      have z6 := hb6.size
      have bx6 := (hb6.block w.heap.size (by omega)).trans BX3.out
      have br6 := (hb6.block (w.heap.size + 1) (by omega)).trans BR3.out
      obtain ⟨c0, c1, c2, q0, q1, q2⟩ := box_facts bx6
      obtain ⟨r0, r1, r2, f0, f1, f2⟩ := box_facts br6
      obtain ⟨av, pv, hvf', hpv1, hpv2⟩ := row_form Rn.row
      rw [HL.out] at hvf' hpv1
      subst hvf'
      unfold maxLen at hpv2
      have b8 : (i : Int) ≤ (pv : Int) := by omega
      have b9 : (pv : Int) ≤ 9223372036854775807 := by omega
      have HRn := hide Rn
      have HB6 := hide (BW.out.trans ((HB3.out.mono (by omega)).trans (hb6.mono (by omega))))
      obtain ⟨W7, hW7⟩ : ∃ W7, (((w6.setCell ⟨w.heap.size, 0, none⟩ (.int .i64 s.base)).setCell ⟨w.heap.size, 1, none⟩ (.int .i64 s.most)).setCell ⟨w.heap.size, 2, none⟩ (.slice av (i + 1) pv)).setCell ⟨w.heap.size, 2, none⟩ (.slice av i pv) = W7 := ⟨_, rfl⟩
      have k7 : ∀ k, k ≠ w.heap.size → W7.heap[k]? = w6.heap[k]? := fun k hk => by rw [← hW7, Below.heap_setCell _ _ _ _ hk, put3 w6 w.heap.size k _ _ _ hk]
      have bx7 : W7.heap[w.heap.size]? = some (.cells #[.int .i64 s.base, .int .i64 s.most, .slice av i pv] 31 (0, 0)) := by
        rw [← hW7, heap_setCell_same _ _ _ _ (heap_setCell_same _ _ _ _ (heap_setCell_same _ _ _ _ (heap_setCell_same _ _ _ _ bx6)))]; rfl
      have br7 := (k7 (w.heap.size + 1) (by omega)).trans br6
      have HB7 := hide (show Below w.heap.size w W7 by rw [← hW7]; exact (below3 HB6.out (Nat.le_refl _) _ _ _).setCell (Nat.le_refl _) _)
      have HK7 := hide k7
      have HW7 := hide hW7
      clear bx6 br6 Rn hb6 HCOP RF HR1 CF k7 hW7 r0 r1 r2 f0 f1 f2
      go_wp2
      rw [HW7.out]
      clear c0 c1 c2 q0 q1 q2
      obtain ⟨c0, c1, c2, q0, q1, q2⟩ := box_facts bx7
      obtain ⟨r0, r1, r2, f0, f1, f2⟩ := box_facts br7
      clear bx7 br7 HW7
      go_region
      all_goals go_wp2
      all_goals
        refine bodyPost_ret (v := .tuple #[.int .i64 0, rv s (.slice av i pv)]) ?_ rfl ?_
        · simp [results, Try.results13, go_sem, r0, r1, r2]
        · rw [HN0.out]
          have h3 := HRn.out
          rw [← HL.out] at h3
          have h4 := h3.cut (n := i) (by rw [HL.out]; omega)
          rw [show s.fr.take i = (popS s).fr by simp [popS, List.dropLast_eq_take, HL.out]] at h4
          have hfin : Rc B (((W7.setCell ⟨w.heap.size + 1, 0, none⟩ (.int .i64 s.base)).setCell ⟨w.heap.size + 1, 1, none⟩ (.int .i64 s.most)).setCell ⟨w.heap.size + 1, 2, none⟩ (.slice av i pv)).drew (.slice av i pv) g' (popS s).fr :=
            (h4.mono (by omega)).keep fun k' hk' => by
              have h5 := (h4.own_lt hk').1
              rw [heap_drew, put3 W7 (w.heap.size + 1) k' _ _ _ (by omega), HK7.out k' (by omega)]
          unfold ROut
          exact ⟨_, _, rfl, hfin, (below3 HB7.out (Nat.le_succ _) _ _ _).drew⟩
end
end Go.Proofs.Ytjapfckadikjiaa
