/- The law EscapeHeap. -/
import Derived.Test.YtlbildodjnjniaaEsS
namespace Go.Proofs.Ytlbildodjnjniaa
open Go.RowKit

/-- Those flows that take no address. -/
def noAdr (fs : List Fl) : List Fl := fs.filter fun f => decide (0 ≤ f.rf)
theorem way_nonneg {fs : List Fl} {B r v d : Int} (h0 : ∀ f ∈ fs, 0 ≤ f.rf) (hB : 0 ≤ B) (h : Way fs B r v d) : 0 ≤ d := by
  cases h with
  | root => omega
  | step hf _ => have := h0 _ hf; omega
theorem no_esc {ps : List Pt} {fs : List Fl} (h0 : ∀ f ∈ fs, 0 ≤ f.rf) {x : Nat} : ¬ Esc ps fs x := fun h => by
  have key : ∀ r y : Int, ¬ Hld fs r y := fun r y hh => by have := way_nonneg h0 (by omega) hh; omega
  cases h with
  | heap h => exact key _ _ h
  | deep _ _ h _ => exact key _ _ h
  | esc _ h _ => exact key _ _ h
theorem noAdr_nonneg (fs : List Fl) : ∀ f ∈ noAdr fs, 0 ≤ f.rf := fun f hf => by
  have := (List.mem_filter.1 hf).2
  exact of_decide_eq_true this
theorem heapL_none {ps : List Pt} {E : Nat → Bool} : ∀ {j : Nat}, (∀ i, i < j → E i = false) → heapL ps E j = []
  | 0, _ => rfl
  | j + 1, h => by rw [heapL_succ, heapL_none fun i hi => h i (by omega), h j (by omega)]; simp
theorem esc_self {ps : List Pt} {gs : List Fl} {p : Nat} (h : (⟨-1, (p : Int), -1⟩ : Fl) ∈ gs) : Esc ps gs p := by
  refine .heap ?_
  have := Way.step (B := 51200) (root := -1) (d := 0) h .root
  exact this
theorem na_succ {fs : List Fl} {j : Nat} {f : Fl} (h : fs[j]? = some f) : noAdr (fs.take (j + 1)) = noAdr (fs.take j) ++ if 0 ≤ f.rf then [f] else [] := by
  unfold noAdr
  rw [List.take_add_one, h, List.filter_append]
  by_cases hx : 0 ≤ f.rf <;> simp [hx]
theorem flow_at {w : World} {ao : Option Addr} {n cap : Nat} {fs : List Fl} (F : FlsAt w (.slice ao n cap) fs) {j : Nat} {f : Fl} (h : fs[j]? = some f) : ∃ g o, ao = some ⟨g, o, none⟩ ∧ g < w.heap.size ∧ w.cell? ⟨g, o + j * 3, none⟩ = some (.int .i64 f.to) ∧ w.cell? ⟨g, o + j * 3 + 1, none⟩ = some (.int .i64 f.fr) ∧ w.cell? ⟨g, o + j * 3 + 2, none⟩ = some (.int .i64 f.rf) := by
  obtain ⟨ao', cap', e, hc⟩ := F
  cases e
  exact hc j f h
section
variable {w : World} {vp vf : Value} {ps : List Pt} {fs : List Fl}
theorem heap_early (R : PtsAt w vp ps) (F : FlsAt w vf fs) (wh : Int) (h : ps.length = 0 ∨ 60 < ps.length ∨ 300 < fs.length) :
    Calls Try.prog 7 #[vp, vf, .int .u16 wh] w fun e w' => e = .returned (.bool true) ∧ Below w.heap.size w w' := by
  have ha := fun W : World => awake_any W
  obtain ⟨ao, cap, rfl, _⟩ := R
  obtain ⟨bo, cbp, rfl, _⟩ := F
  generalize ps.length = n at *
  generalize fs.length = m at *
  by_cases h1 : n = 0
  · have g1 : ((n : Int) == 0) = true := by simp; omega
    go_enter Try.func7, Try.ntmps7
    go_wp2_with fail
    refine (ha _).mono ?_
    rintro e w2 ⟨rfl, hb2⟩
    go_wp2_with (go_at_call 10; refine (ha _).mono ?_; rintro e w3 ⟨rfl, hb3⟩)
    go_ret
    exact ⟨rfl, hb2.trans (hb3.mono hb2.size)⟩
  · have g1 : ((n : Int) == 0) = false := by simp; omega
    by_cases h2 : 60 < n
    · have g2 : decide (60 < (n : Int)) = true := by simp; omega
      go_enter Try.func7, Try.ntmps7
      go_wp2_with fail
      refine (ha _).mono ?_
      rintro e w2 ⟨rfl, hb2⟩
      go_wp2_with (go_at_call 10; refine (ha _).mono ?_; rintro e w3 ⟨rfl, hb3⟩)
      go_ret
      exact ⟨rfl, hb2.trans (hb3.mono hb2.size)⟩
    · have g2 : decide (60 < (n : Int)) = false := by simp; omega
      have g3 : decide (300 < (m : Int)) = true := by simp; omega
      go_enter Try.func7, Try.ntmps7
      go_wp2_with fail
      refine (ha _).mono ?_
      rintro e w2 ⟨rfl, hb2⟩
      go_wp2_with (go_at_call 10; refine (ha _).mono ?_; rintro e w3 ⟨rfl, hb3⟩)
      go_ret
      exact ⟨rfl, hb2.trans (hb3.mono hb2.size)⟩
set_option maxHeartbeats 2000000 in
theorem heap_main (R : PtsAt w vp ps) (F : FlsAt w vf fs) (wh : Nat) (hwh : wh < 65536) (h1 : ps.length ≠ 0) (h2 : ps.length ≤ 60) (h3 : fs.length ≤ 300) :
    Calls Try.prog 7 #[vp, vf, .int .u16 (wh : Int)] w fun e w' => e = .returned (.bool true) ∧ Below w.heap.size w w' := by
  have ha := fun W : World => awake_any W
  have HR := hide R
  have HF := hide F
  obtain ⟨ao, cap, rfl, _⟩ := R
  obtain ⟨bo, cbp, rfl, _⟩ := F
  generalize hn : ps.length = n at *
  generalize hm : fs.length = m at *
  have HN := hide (And.intro hn hm)
  have g1 : ((n : Int) == 0) = false := by simp; omega
  have g2 : decide (60 < (n : Int)) = false := by simp; omega
  have g3 : decide (300 < (m : Int)) = false := by simp; omega
  have b1 : 0 < (n : Int) := by omega
  have b2 : (n : Int) ≤ 60 := by omega
  have b3 : (m : Int) ≤ 300 := by omega
  have b4 : (wh : Int) < 65536 := by omega
  clear hn hm
  go_enter Try.func7, Try.ntmps7
  go_wp2_with fail
  refine (ha _).mono ?_
  rintro e w2 ⟨rfl, hb2⟩
  have HB2 := hide hb2
  clear hb2 ha
  go_upto_region 4 with fail
  have hp : ((wh : Int) % (n : Int)) = ((wh % n : Nat) : Int) := by simp
  rw [hp]
  have hpn : wh % n < n := Nat.mod_lt _ (by omega)
  clear hp b4 hwh
  generalize wh % n = p at hpn ⊢
  -- the copy, and the flow behind it
  obtain ⟨W1, hW1⟩ : ∃ W1, w2.alloc (.cells #[] 42) = W1 := ⟨_, rfl⟩
  have hb1 : Below w2.heap.size w2 W1 := by rw [← hW1]; exact (Below.refl _ _).alloc (Nat.le_refl _) _
  have n1 : W1.heap[w2.heap.size]? = some (.cells #[] 42 (0, 0)) := by rw [← hW1]; exact heap_new _ _ rfl
  obtain ⟨v1, w3, hrun1, own1, gr1⟩ := copy_app (B := w2.heap.size) n1 (Nat.le_refl _) (HF.out.below (HB2.out.trans (hb1.mono HB2.out.size))) (by rw [HN.out.2]; omega)
  have hb3 : Below w2.heap.size w2 w3 := hb1.grown gr1 hb1.size (fun q hq => by cases hq; exact Nat.le_refl _)
  obtain ⟨W4, hW4⟩ : ∃ W4, w3.alloc (.cells #[.int .i64 (-1), .int .i64 (p : Int), .int .i64 (-1)] 42) = W4 := ⟨_, rfl⟩
  have hb34 : Below w3.heap.size w3 W4 := by rw [← hW4]; exact (Below.refl _ _).alloc (Nat.le_refl _) _
  have n4 : W4.heap[w3.heap.size]? = some (.cells #[.int .i64 (-1), .int .i64 (p : Int), .int .i64 (-1)] 42 (0, 0)) := by rw [← hW4]; exact heap_new _ _ rfl
  have own4 := ownsRow_keep (w' := W4) own1 fun g hg => hb34.block g (own1.lt g hg).2
  have hb4 := hb3.trans (hb34.mono hb3.size)
  obtain ⟨g2, c2, w5, hrun2, own5, gr5⟩ := more_app (f := ⟨-1, (p : Int), -1⟩) own4 hb4.size n4 (by rw [HN.out.2]; omega)
  have hb5 : Below w2.heap.size w2 w5 := hb4.grown gr5 hb4.size (fun q hq => (own4.lt q hq).1)
  obtain ⟨a1, c1, hv1⟩ := row_form own1
  rw [HN.out.2] at hv1
  subst hv1
  rw [HN.out.2] at hrun2
  have F5 := FlsAt.of_row own5
  rw [HN.out.2] at F5
  have HF5 := hide F5
  have HB5 := hide (HB2.out.trans (hb5.mono HB2.out.size))
  clear hb1 n1 own1 gr1 hb3 hb34 n4 own4 hb4 own5 gr5 hb5 F5 HB2
  go_wp2_with (at_builtin; first | (refine wpList_append_eq rfl _ _ 23 rfl rfl rfl hrun1 ?_; clear hrun1) | (refine wpList_append_eq rfl _ _ 23 rfl rfl rfl hrun2 ?_))
  clear hrun2 hW1 hW4
  obtain ⟨gs, hgs⟩ : ∃ gs, fs ++ [⟨-1, (p : Int), -1⟩] = gs := ⟨_, rfl⟩
  rw [hgs] at HF5
  have hpg : (⟨-1, (p : Int), -1⟩ : Fl) ∈ gs := by rw [← hgs]; simp
  have hsub : ∀ f ∈ noAdr fs, f ∈ gs := fun f hf => by rw [← hgs]; exact List.mem_append.2 (.inl (List.mem_filter.1 hf).1)
  have hb0 := HB5.out
  have HGS := hide (And.intro hpg hsub)
  clear hgs hpg hsub
  by_cases hgood : faultN ps gs = 0
  · have G := fault_ok.1 hgood
    have hs := solve_ok (HR.out.below HB5.out) HF5.out G
    rw [HN.out.1] at hs
    have HG := hide G
    clear hgood G
    refine hs.mono ?_
    rintro e w6 ⟨v, E, rfl, HV, hb6⟩
    obtain ⟨ae, ce, hve, hec⟩ := HV.out.1
    rw [List.length_map, List.length_range] at hve
    subst hve
    have HEC := hide hec
    have HE := hide HV.out.2
    have HB6 := hide (HB5.out.trans (hb6.mono HB5.out.size))
    have HF6 := hide (HF5.out.below hb6)
    clear hs hec HV
    have hr := reach_ok (HR.out.below HB6.out) HF6.out HG.out (p : Int) (by omega) (by rw [HN.out.1]; omega)
    rw [HN.out.1] at hr
    go_wp2_with fail
    refine hr.mono ?_
    rintro e w7 ⟨l, vl, rfl, HL, hb7⟩
    obtain ⟨al, cl, hvl, hlc⟩ := HL.out.1
    rw [List.length_map, List.length_range] at hvl
    subst hvl
    have HLC := hide hlc
    have HLL := hide HL.out.2
    have HB7 := hide (HB6.out.trans (hb7.mono HB6.out.size))
    have hk := hide (fun (g o : Nat) (h : g < w6.heap.size) => (hb7.cell (p := ⟨g, o, none⟩) h))
    have hz67 := hb7.size
    clear hr hlc HL hb6 hb7
    have hEp : E p = true := (HE.out p hpn).2 (esc_self HGS.out.1)
    have HEP := hide hEp
    clear hEp
    go_wp2
    go_loopg [13] n (fun K i wr => ∃ j : Nat, i = .int .i64 j ∧ j ≤ n ∧ n - j ≤ K ∧ w7 = wr)
    case atStart => exact ⟨0, rfl, Nat.zero_le _, Nat.le_refl _, rfl⟩
    case round =>
      obtain ⟨j, rfl, hj, hkk, rfl⟩ := hrel
      obtain ⟨G1, rfl⟩ : ∃ G1, G1 = gk := ⟨gk, rfl⟩
      by_cases hlt : j < n
      · obtain ⟨g, o, hao, hg, c0⟩ := HLC.out j (l j) (by rw [List.getElem?_map, List.getElem?_range hlt]; rfl)
        subst hao
        obtain ⟨g', o', hao', hg', c1⟩ := HEC.out j (E j) (by rw [List.getElem?_map, List.getElem?_range hlt]; rfl)
        subst hao'
        rw [← hk.out g' (o' + j) hg'] at c1
        have bj : (j : Int) < (n : Int) := by omega
        by_cases hx : l j = -1
        · have hej : E j = true := (HE.out j hlt).2 (.esc (r := p) (by rw [HN.out.1]; exact hpn) (by
            have := HLL.out.way j (by omega)
            rw [hx] at this; exact this) (esc_self HGS.out.1))
          rw [hej] at c1
          rw [hx] at c0
          clear hej hx
          go_wp2
          go_roundg (n - (j + 1))
          case measure => omega
          case rel => exact ⟨j + 1, by go_num, by omega, Nat.le_refl _, rfl⟩
        · have hx' : (l j == -1) = false := by simpa using hx
          go_wp2
          go_roundg (n - (j + 1))
          case measure => omega
          case rel => exact ⟨j + 1, by go_num, by omega, Nat.le_refl _, rfl⟩
      · obtain rfl : n = j := by omega
        obtain ⟨W8, hW8⟩ : ∃ W8, w7.alloc (.cells #[] 42) = W8 := ⟨_, rfl⟩
        have hb8 : Below w7.heap.size w7 W8 := by rw [← hW8]; exact (Below.refl _ _).alloc (Nat.le_refl _) _
        have n8 : W8.heap[w7.heap.size]? = some (.cells #[] 42 (0, 0)) := by rw [← hW8]; exact heap_new _ _ rfl
        have HJ0 := hide (And.intro (empty_row n8 (Nat.le_refl _)) hb8)
        clear hb8 n8
        go_upto_region 15 with fail
        clear hW8
        go_wp2
        go_loopg [14, 15] m (fun K v i wr => ∃ j : Nat, i = .int .i64 j ∧ j ≤ m ∧ m - j ≤ K ∧ Hid (wr.ownsRow w7.heap.size 42 3 v (noAdr (fs.take j)).length (fcs (noAdr (fs.take j))) ∧ Below w7.heap.size w7 wr))
        case atStart => exact ⟨0, rfl, Nat.zero_le _, Nat.le_refl _, HJ0⟩
        case round =>
          clear HJ0
          obtain ⟨j, rfl, hj, hkk, HJ⟩ := hrel
          obtain ⟨av, cv, hv⟩ := row_form HJ.out.1
          subst hv
          by_cases hlt : j < m
          · obtain ⟨f, hf⟩ : ∃ f, fs[j]? = some f := ⟨fs[j]'(by rw [HN.out.2]; exact hlt), by simp⟩
            obtain ⟨g, o, hao, hg, c0⟩ := flow_at HF.out hf
            cases hao
            have hbw := HB7.out.trans (HJ.out.2.mono HB7.out.size)
            obtain ⟨d0, d1, d2⟩ := c0
            rw [← hbw.cell (p := ⟨g, o + j * 3, none⟩) hg] at d0
            rw [← hbw.cell (p := ⟨g, o + j * 3 + 1, none⟩) hg] at d1
            rw [← hbw.cell (p := ⟨g, o + j * 3 + 2, none⟩) hg] at d2
            have hs := na_succ hf
            have hnl : (noAdr (fs.take j)).length ≤ 300 := Nat.le_trans (List.length_filter_le _ _) (by rw [List.length_take]; omega)
            have bj : (j : Int) < (m : Int) := by omega
            by_cases hx : 0 ≤ f.rf
            · rw [if_pos hx] at hs
              obtain ⟨W9, hW9⟩ : ∃ W9, wr.alloc (.cells #[.int .i64 f.to, .int .i64 f.fr, .int .i64 f.rf] 42) = W9 := ⟨_, rfl⟩
              have hb9 : Below wr.heap.size wr W9 := by rw [← hW9]; exact (Below.refl _ _).alloc (Nat.le_refl _) _
              have n9 : W9.heap[wr.heap.size]? = some (.cells #[.int .i64 f.to, .int .i64 f.fr, .int .i64 f.rf] 42 (0, 0)) := by rw [← hW9]; exact heap_new _ _ rfl
              have own9 := ownsRow_keep (w' := W9) HJ.out.1 fun g hg => hb9.block g (HJ.out.1.lt g hg).2
              have hb79 := HJ.out.2.trans (hb9.mono HJ.out.2.size)
              obtain ⟨ga, ca, w10, hrun, hown, hgrow⟩ := more_app own9 hb79.size n9 (by omega)
              have HJ4 := hide (show w10.ownsRow w7.heap.size 42 3 (.slice (some ⟨ga, 0, none⟩) ((noAdr (fs.take j)).length + 1) ca) (noAdr (fs.take (j + 1))).length (fcs (noAdr (fs.take (j + 1)))) ∧ Below w7.heap.size w7 w10 from by
                rw [hs]
                exact ⟨hown, hb79.grown hgrow hb79.size (fun q hq => (own9.lt q hq).1)⟩)
              clear hb9 n9 own9 hb79 hown hgrow hs hbw hnl
              go_wp2_with (at_builtin; refine wpList_append_eq rfl _ _ 23 rfl rfl rfl hrun ?_)
              go_roundg (m - (j + 1))
              case measure => omega
              case rel => exact ⟨j + 1, by go_num, by omega, Nat.le_refl _, HJ4⟩
            · rw [if_neg hx, List.append_nil] at hs
              have hx' : decide (f.rf ≥ 0) = false := by simpa using hx
              have HJ4 := HJ
              rw [← hs] at HJ4
              have hle : (noAdr (fs.take j)).length = (noAdr (fs.take (j + 1))).length := by rw [hs]
              clear hs HJ hbw hnl
              go_wp2
              go_roundg (m - (j + 1))
              case measure => omega
              case rel => exact ⟨j + 1, by go_num, by omega, Nat.le_refl _, by first | exact HJ4 | (rw [hle]; exact HJ4)⟩
          · obtain rfl : m = j := by omega
            rw [List.take_of_length_le (by rw [HN.out.2]; exact Nat.le_refl _)] at HJ ⊢
            have HBR := hide (HB7.out.trans (HJ.out.2.mono HB7.out.size))
            have GP : Good ps (noAdr fs) := ⟨HG.out.pl, by have := List.length_filter_le (fun f : Fl => decide (0 ≤ f.rf)) fs; have := HN.out.2; unfold noAdr; omega, HG.out.dep, fun f hf => HG.out.snd f (HGS.out.2 f hf)⟩
            have hhp := heap_ok (HR.out.below HBR.out) (FlsAt.of_row HJ.out.1) GP
            obtain ⟨ge, oe, haoe, hge, ce0⟩ := HEC.out p (E p) (by rw [List.getElem?_map, List.getElem?_range hpn]; rfl)
            subst haoe
            have hz7 := HJ.out.2.size
            rw [← hk.out ge (oe + p) hge, ← HJ.out.2.cell (p := ⟨ge, oe + p, none⟩) (Nat.lt_of_lt_of_le hge hz67), HEP.out] at ce0
            have hgw : ge < wr.heap.size := by omega
            have bp : (p : Int) < (n : Int) := by omega
            clear HJ GP
            generalize (noAdr fs).length = nl at *
            go_wp2_with fail
            refine hhp.mono ?_
            rintro e w11 ⟨vv, E', rfl, HH, hb11⟩
            have hnil : heapL ps E' ps.length = [] := heapL_none fun i hi => by
              cases hE : E' i with
              | false => rfl
              | true => exact absurd ((HH.out.2 i hi).1 hE) (no_esc (noAdr_nonneg fs))
            have hrow := HH.out.1
            rw [hnil] at hrow
            obtain ⟨az, cz, hvz⟩ := row_form hrow
            simp only [List.length_nil] at hvz
            subst hvz
            have ce1 : w11.cell? ⟨ge, oe + p, none⟩ = some (.bool true) := (hb11.cell (p := ⟨ge, oe + p, none⟩) hgw).trans ce0
            have hb12 := hide (HBR.out.trans (hb11.mono HBR.out.size))
            clear hhp hrow hb11 HH ce0
            go_wp2
            go_ret
            exact ⟨rfl, hb12.out⟩
  · have hs := solve_bad (HR.out.below HB5.out) HF5.out hgood
    have hr := fun (w6 : World) (h : Below w5.heap.size w5 w6) => reach_bad (HR.out.below (HB5.out.trans (h.mono HB5.out.size))) (HF5.out.below h) (p : Int) hgood
    have HRR := hide hr
    clear hr
    generalize faultN ps gs = c at *
    have hc : (c != 0) = true := by simpa using hgood
    refine hs.mono ?_
    rintro e w6 ⟨rfl, hb6⟩
    have hr := HRR.out w6 hb6
    have HB6 := hide (HB5.out.trans (hb6.mono HB5.out.size))
    clear hs hb6
    go_wp2_with fail
    refine hr.mono ?_
    rintro e w7 ⟨rfl, hb7⟩
    go_wp2
    go_ret
    exact ⟨ret_bool (by simp), HB6.out.trans (hb7.mono HB6.out.size)⟩
theorem heap_law (R : PtsAt w vp ps) (F : FlsAt w vf fs) (wh : Nat) (hwh : wh < 65536) : Calls Try.prog 7 #[vp, vf, .int .u16 (wh : Int)] w fun e w' => e = .returned (.bool true) ∧ Below w.heap.size w w' := by
  by_cases h : ps.length = 0 ∨ 60 < ps.length ∨ 300 < fs.length
  · exact heap_early R F wh h
  · exact heap_main R F wh hwh (by omega) (by omega) (by omega)
end
end Go.Proofs.Ytlbildodjnjniaa
