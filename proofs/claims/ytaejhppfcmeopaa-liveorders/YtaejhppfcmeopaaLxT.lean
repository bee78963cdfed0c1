/- The document's Doms. -/
import Derived.Test.YtaejhppfcmeopaaLxS
import Derived.Test.YtaejhppfcmeopaaLxN
namespace Go.Proofs.Ytaejhppfcmeopaa
open Go.RowKit
/-- Whether every way to b goes through d. -/
def oB (bs : List Blk) (d b : Nat) : Bool := aB bs b && !wB bs d b
def outB (bs : List Blk) (k : Nat) : List Int := (List.range k).map fun b => if b = 0 then -1 else ddV (aB bs) (wB bs) b bs.length
theorem outB_succ (bs : List Blk) (k : Nat) : outB bs (k + 1) = outB bs k ++ [if k = 0 then -1 else ddV (aB bs) (wB bs) k bs.length] := by unfold outB; rw [List.range_succ, List.map_append]; rfl
theorem outB_len (bs : List Blk) (k : Nat) : (outB bs k).length = k := by simp [outB]
def fillB (F : Nat → Bool) (k : Nat) : Nat → Bool := fun b => if b < k then F b else false
theorem fillB_up (F : Nat → Bool) (k : Nat) : up (fillB F k) k (F k) = fillB F (k + 1) := by
  funext b
  by_cases e : b = k
  · subst e; rw [up_same]; unfold fillB; rw [if_pos (by omega)]
  · rw [up_other _ _ e]; unfold fillB
    by_cases e2 : b < k
    · rw [if_pos e2, if_pos (by omega)]
    · rw [if_neg e2, if_neg (by omega)]
theorem Ow.new0 (w : World) : Ow w (w.alloc (.cells #[] 3)) (.slice (some ⟨w.heap.size, 0, none⟩) 0 0) [] :=
  ⟨⟨rfl, .inr ⟨w.heap.size, 0, #[], rfl, Nat.le_refl _, heap_new _ _ rfl, Nat.le_refl _, by simp, rfl, rfl⟩⟩, (Below.refl _ _).alloc (Nat.le_refl _) _⟩
theorem ddV_next (bs : List Blk) (b k : Nat) : ddV (aB bs) (wB bs) b (k + 1) = if (!(k == b) && aB bs k && oB bs k b && (decide (ddV (aB bs) (wB bs) b k < 0) || oB bs (ddV (aB bs) (wB bs) b k).toNat k)) = true then (k : Int) else ddV (aB bs) (wB bs) b k := by
  rw [ddV]; rfl
theorem Tr1.congr {w : World} {g n : Nat} {I J : Nat → Bool} (T : Tr1 w g n I) (h : ∀ i, i < n → I i = J i) : Tr1 w g n J := by
  obtain ⟨arr, h1, h2, h3⟩ := T.c
  exact ⟨arr, h1, h2, fun i hi => by rw [h3 i hi, h i hi]⟩
section
variable {w : World}
set_option maxRecDepth 20000 in
set_option maxHeartbeats 8000000 in
theorem rdoms_pos {v : Value} {bs : List Blk} {K : Nat} (S : Snd bs K) (R : BlksAt w v bs) (h0 : bs ≠ []) : Calls Try.prog 19 #[v] w fun e w' => (∃ v', e = .returned v' ∧ Hid (IntsAt w' v' (dmP bs))) ∧ Below w.heap.size w w' := by
  have hl := S.l
  have hpos := List.length_pos_iff.mpr h0
  have hw1 := rwithout_any S R h0 (g := -1) (d := bs.length) (fun y hy => by omega) (by omega)
  have HWD := hide (fun (w1 : World) (h : Below w.heap.size w w1) (d : Nat) => rwithout_any S (R.below h) h0 (g := (d : Int)) (d := d) (fun y hy => by omega) (by omega))
  have HA1 := hide (fun (F : Nat → Bool) (h : ∀ x, F x = true ↔ Av (goN bs) bs.length x) => (fun_of (F := F) (G := aB bs) h (fun x => (aB_iff S h0 x).trans (av_all S h0 x).symm) : F = aB bs))
  have HW2 := hide (fun (F : Nat → Bool) (d : Nat) (h : ∀ x, F x = true ↔ Av (goN bs) d x) => (fun_of (F := F) (G := wB bs d) h (wB_iff S d) : F = wB bs d))
  have HDD := hide (ddV_dm S h0)
  have HSP := hide (fun (b k : Nat) => ddV_spec (aB_iff S h0) (wB_iff S) b k)
  obtain ⟨ao, cap, rfl, _⟩ := R
  obtain ⟨n, hn⟩ : ∃ n, bs.length = n := ⟨_, rfl⟩
  have HN := hide hn
  rw [hn] at hl hpos hw1 HWD ⊢
  have hn2 : (n : Int) ≤ 512 := by omega
  have hn1 : (0 : Int) < (n : Int) := by omega
  clear S hn h0
  have hmk := fun W : World => run_bools W n (by omega)
  go_enter Try.func19, Try.ntmps19
  go_upto_region 3 with (go_at_call 28; (with_reducible refine hw1.mono ?_); rintro e w1 ⟨rfl, hb1, HT1⟩; have HB1 := hide hb1; clear hb1 hw1)
  have HTA : Hid (Tr1 w1 w.heap.size n (aB bs)) := hide (by
    obtain ⟨F, h1, h2⟩ := HT1.out
    rw [← HN.out] at h2
    rw [HA1.out F h2] at h1
    exact h1)
  clear HT1
  go_wp2
  go_loopw [4, 5] (fun vo i wr => ∃ j g c : Nat, j ≤ n ∧ i = .int .i64 j ∧ vo = .slice (some ⟨g, 0, none⟩) j c ∧ Hid (On w1 wr n (.slice (some ⟨g, 0, none⟩) j c) (oB bs) j)) (fun _ i _ => n - (intOf i).toNat)
  case atStart => exact ⟨0, _, _, Nat.zero_le _, rfl, rfl, On.new w1 n (oB bs)⟩
  case round =>
    obtain ⟨j, g, c, hj, rfl, rfl, HJ⟩ := hrel
    by_cases hlt : j < n
    · have bj : (j : Int) < (n : Int) := by omega
      have HBW := hide (HB1.out.trans (HJ.out.b.mono HB1.out.size))
      have hwj := HWD.out wr HBW.out j
      go_upto_region 8 with (go_at_call 28; (with_reducible refine hwj.mono ?_); rintro e w2 ⟨rfl, hb2, HT2⟩; have HB2 := hide hb2; clear hb2 hwj)
      obtain ⟨rb, hrb⟩ : ∃ r, w2.heap.size = r := ⟨_, rfl⟩
      have hrlo : wr.heap.size ≤ rb := by have := HB2.out.size; omega
      obtain ⟨W3, hW3⟩ : ∃ W, w2.alloc (.cells (reps n (.bool false)) 4) = W := ⟨_, rfl⟩
      have hb23 := (Below.refl w2.heap.size w2).alloc (Nat.le_refl _) (.cells (reps n (.bool false)) 4)
      have T3 : Tr1 (w2.alloc (.cells (reps n (.bool false)) 4)) w2.heap.size n (fun _ => false) := ⟨_, heap_new _ _ rfl, reps_size _ _, fun i hi => reps_get hi⟩
      rw [hW3] at hb23 T3
      have hz3 : W3.heap.size = rb + 1 := by rw [← hW3, ← hrb]; simp
      rw [hrb] at T3
      have hBr3 : Below wr.heap.size wr W3 := HB2.out.trans (hb23.mono HB2.out.size)
      have HTW : Hid (Tr1 W3 wr.heap.size n (wB bs j)) := hide (by
        obtain ⟨F, h1, h2⟩ := HT2.out
        rw [HW2.out F j h2] at h1
        exact h1.keep (hb23.block _ h1.lt))
      have HTA3 : Hid (Tr1 W3 w.heap.size n (aB bs)) := hide ((HTA.out.keep (HJ.out.b.block _ HTA.out.lt)).keep (hBr3.block _ (Nat.lt_of_lt_of_le HTA.out.lt HJ.out.b.size)))
      have hne1 : w.heap.size ≠ rb := by have := HTA.out.lt; have := HJ.out.b.size; omega
      have hne2 : wr.heap.size ≠ rb := by have := HTW.out.lt; have h4 := HB2.out.size; have : wr.heap.size < w2.heap.size := by
                                            obtain ⟨F, h1, _⟩ := HT2.out
                                            exact h1.lt
                                          omega
      have H3 := hide (And.intro T3 (And.intro hBr3 (And.intro hne1 hne2)))
      show Code.wp Try.prog _ _ _ (w2.alloc (.cells (reps n (.bool false)) 4))
      rw [hrb, hW3]
      have lW := HTW.out.lt
      clear hb23 T3 hBr3 hne1 hne2 hW3 HB2 HT2 hrb
      go_wp2
      go_loopw [8] (fun i wi => ∃ k : Nat, k ≤ n ∧ i = .int .i64 k ∧ Hid (Tr1 wi rb n (fillB (oB bs j) k) ∧ Kp (fun b => b = rb) W3 wi)) (fun i _ => n - (intOf i).toNat)
      case atStart => exact ⟨0, Nat.zero_le _, rfl, H3.out.1.congr (fun i _ => by simp [fillB]), Kp.refl _ _⟩
      case round =>
        obtain ⟨k, hk, rfl, HI⟩ := hrel
        by_cases hkn : k < n
        · have bk : (k : Int) < (n : Int) := by omega
          obtain ⟨ca, _⟩ := (HTA3.out.keep (HI.out.2.block _ HTA3.out.lt H3.out.2.2.1)).cell hkn
          obtain ⟨cw, _⟩ := (HTW.out.keep (HI.out.2.block _ HTW.out.lt H3.out.2.2.2)).cell hkn
          obtain ⟨cr, zr⟩ := HI.out.1.cell hkn
          have lr := HI.out.1.lt
          have la := (HTA3.out.keep (HI.out.2.block _ HTA3.out.lt H3.out.2.2.1)).lt
          have lw := (HTW.out.keep (HI.out.2.block _ HTW.out.lt H3.out.2.2.2)).lt
          have HST := hide (show ∀ x : Bool, x = oB bs j k → Tr1 (wr.setCell ⟨rb, k, none⟩ (.bool x)) rb n (fillB (oB bs j) (k + 1)) from fun x hx => by rw [hx, ← fillB_up]; exact HI.out.1.set _)
          cases hA : aB bs k with
          | false =>
            rw [hA] at ca
            have hv := hide (show false = oB bs j k by unfold oB; rw [hA]; rfl)
            clear hA
            go_wp2
            go_roundw
            case rel => exact ⟨k + 1, by omega, by go_num, HST.out _ hv.out, HI.out.2.trans (Kp.setCell _ _ _)⟩
            case measure => simp [intOf]; omega
          | true =>
            rw [hA] at ca
            cases hW : wB bs j k with
            | false =>
              rw [hW] at cw
              have hv := hide (show true = oB bs j k by unfold oB; rw [hA, hW]; rfl)
              clear hA hW
              go_wp2
              go_roundw
              case rel => exact ⟨k + 1, by omega, by go_num, HST.out _ hv.out, HI.out.2.trans (Kp.setCell _ _ _)⟩
              case measure => simp [intOf]; omega
            | true =>
              rw [hW] at cw
              have hv := hide (show false = oB bs j k by unfold oB; rw [hA, hW]; rfl)
              clear hA hW
              go_wp2
              go_roundw
              case rel => exact ⟨k + 1, by omega, by go_num, HST.out _ hv.out, HI.out.2.trans (Kp.setCell _ _ _)⟩
              case measure => simp [intOf]; omega
        · obtain rfl : k = n := by omega
          have hBi := Kp.below (Nat.le_refl _) H3.out.2.1 HI.out.2 (fun b hb => by omega)
          obtain ⟨g2, c2, W5, hr, V5⟩ := (HJ.out.under hBi).push (g := rb) (HI.out.1.congr (fun i hi => by unfold fillB; rw [if_pos hi])) (by omega)
          have HRUN := hide hr
          have HV5 := hide V5
          clear hBi hr V5
          go_wp2_with (refine wpList_append_eq (by rfl) _ _ 52 (by rfl) (by rfl) (by rfl) HRUN.out ?_)
          go_roundw
          case rel => exact ⟨j + 1, g2, c2, by omega, by go_num, rfl, HV5⟩
          case measure => simp [intOf]; omega
    · obtain rfl : j = n := by omega
      go_upto_region 14 with fail
      obtain ⟨W0, rfl⟩ : ∃ W0, W0 = wr := ⟨wr, rfl⟩
      go_wp2
      go_loopw [9, 10] (fun vo vb wi => ∃ b2 g2 c2 : Nat, b2 ≤ j ∧ vb = .int .i64 b2 ∧ vo = .slice (some ⟨g2, 0, none⟩) b2 c2 ∧ Hid (Ow W0 wi (.slice (some ⟨g2, 0, none⟩) b2 c2) (outB bs b2))) (fun _ vb _ => j - (intOf vb).toNat)
      case atStart => exact ⟨0, _, _, Nat.zero_le _, rfl, rfl, Ow.new0 W0⟩
      case round =>
        obtain ⟨b2, g2, c2, hb2, rfl, rfl, HO⟩ := hrel
        by_cases hbn : b2 < j
        · have bb : (b2 : Int) < (j : Int) := by omega
          have hOl : (outB bs b2).length = b2 := outB_len bs b2
          by_cases hz : b2 = 0
          · subst hz
            obtain ⟨g3, c3, W5, hr, V5⟩ := HO.out.push (-1) (by rw [hOl]; omega)
            rw [hOl] at hr V5
            have HV5 := hide (show Ow W0 W5 (.slice (some ⟨g3, 0, none⟩) (0 + 1) c3) (outB bs (0 + 1)) by rw [outB_succ, if_pos rfl]; exact V5)
            have HRUN := hide hr
            clear hr V5
            go_wp2
            refine wp_loop_rounds 1 ?_
            rw [rounds_succ]
            go_wp2_with (refine wpList_append_eq (by rfl) _ _ 34 (by rfl) (by rfl) (by rfl) HRUN.out ?_)
            go_roundw
            case rel => exact ⟨0 + 1, g3, c3, by omega, by go_num, rfl, HV5⟩
            case measure => simp [intOf]; omega
          · have hz2 : (0 : Int) < (b2 : Int) := by omega
            obtain ⟨g3, c3, W5, hr, V5⟩ := HO.out.push (ddV (aB bs) (wB bs) b2 j) (by rw [hOl]; omega)
            rw [hOl] at hr V5
            have HV5 := hide (show Ow W0 W5 (.slice (some ⟨g3, 0, none⟩) (b2 + 1) c3) (outB bs (b2 + 1)) by rw [outB_succ, if_neg hz, HN.out]; exact V5)
            have HRUN := hide hr
            clear hr V5
            go_wp2
            go_loopw [11, 12] (fun vv vd wk => ∃ k : Nat, k ≤ j ∧ vd = .int .i64 k ∧ vv = .int .i64 (ddV (aB bs) (wB bs) b2 k) ∧ wk = wr) (fun _ vd _ => j - (intOf vd).toNat)
            case atStart => exact ⟨0, Nat.zero_le _, rfl, rfl, rfl⟩
            case round =>
              obtain ⟨k, hk, rfl, rfl, rfl⟩ := hrel
              have HSQ := hide (HSP.out b2 k)
              have HNX0 := hide (ddV_next bs b2 k)
              obtain ⟨bv, hbv⟩ : ∃ x, ddV (aB bs) (wB bs) b2 k = x := ⟨_, rfl⟩
              rw [hbv] at HSQ HNX0 ⊢
              have HBV := hide hbv
              clear hbv
              by_cases hkn : k < j
              · have bk : (k : Int) < (j : Int) := by omega
                have hTA := (HTA.out.keep (HJ.out.b.block _ HTA.out.lt)).keep (HO.out.b.block _ (Nat.lt_of_lt_of_le HTA.out.lt HJ.out.b.size))
                obtain ⟨ca, _⟩ := hTA.cell hkn
                have la := hTA.lt
                have hOn := HJ.out.under HO.out.b
                obtain ⟨g7, c7, gk, e7, d1, d2, l7, lk⟩ := hOn.cell hkn hbn
                cases e7
                clear hTA
                by_cases hkb : k = b2
                · have hkb2 : (k : Int) = (b2 : Int) := by rw [hkb]
                  have HNX : Hid (ddV (aB bs) (wB bs) b2 (k + 1) = bv) := hide (by rw [HNX0.out, hkb]; simp)
                  clear hOn hkb
                  go_wp2
                  go_roundw
                  case rel => exact ⟨k + 1, by omega, by go_num, by rw [HNX.out], trivial⟩
                  case measure => simp [intOf]; omega
                · have hkb2 : ¬ (k : Int) = (b2 : Int) := by omega
                  have hkb3 : (k == b2) = false := by simpa using hkb
                  cases hA : aB bs k with
                  | false =>
                    rw [hA] at ca
                    have HNX : Hid (ddV (aB bs) (wB bs) b2 (k + 1) = bv) := hide (by rw [HNX0.out, hA]; simp)
                    clear hOn hkb hkb3 hA
                    go_wp2
                    go_roundw
                    case rel => exact ⟨k + 1, by omega, by go_num, by rw [HNX.out], trivial⟩
                    case measure => simp [intOf]; omega
                  | true =>
                    rw [hA] at ca
                    cases hO : oB bs k b2 with
                    | false =>
                      rw [hO] at d2
                      have HNX : Hid (ddV (aB bs) (wB bs) b2 (k + 1) = bv) := hide (by rw [HNX0.out, hO]; simp)
                      clear hOn hkb hkb3 hA hO
                      go_wp2
                      go_roundw
                      case rel => exact ⟨k + 1, by omega, by go_num, by rw [HNX.out], trivial⟩
                      case measure => simp [intOf]; omega
                    | true =>
                      rw [hO] at d2
                      rcases HSQ.out with ⟨h1, _⟩ | ⟨r, h1, h2, _⟩
                      · subst h1
                        have HNX : Hid (ddV (aB bs) (wB bs) b2 (k + 1) = (k : Int)) := hide (by rw [HNX0.out, hkb3, hA, hO]; simp)
                        clear hOn hkb hkb3 hA hO
                        go_wp2
                        go_roundw
                        case rel => exact ⟨k + 1, by omega, by go_num, by rw [HNX.out], trivial⟩
                        case measure => simp [intOf]; omega
                      · subst h1
                        have hr0 : ¬ (r : Int) < 0 := by omega
                        have hrn : (r : Int) < (j : Int) := by omega
                        obtain ⟨g8, c8, gr, e8, d3, d4, _, lr⟩ := hOn.cell (show r < j by omega) hkn
                        cases e8
                        cases hO2 : oB bs r k with
                        | false =>
                          rw [hO2] at d4
                          have HNX : Hid (ddV (aB bs) (wB bs) b2 (k + 1) = (r : Int)) := hide (by rw [HNX0.out, hkb3, hA, hO, Int.toNat_natCast, hO2]; simp [hr0])
                          clear hOn hkb hkb3 hA hO hO2
                          go_wp2
                          go_roundw
                          case rel => exact ⟨k + 1, by omega, by go_num, by rw [HNX.out], trivial⟩
                          case measure => simp [intOf]; omega
                        | true =>
                          rw [hO2] at d4
                          have HNX : Hid (ddV (aB bs) (wB bs) b2 (k + 1) = (k : Int)) := hide (by rw [HNX0.out, hkb3, hA, hO, Int.toNat_natCast, hO2]; simp [hr0])
                          clear hOn hkb hkb3 hA hO hO2
                          go_wp2
                          go_roundw
                          case rel => exact ⟨k + 1, by omega, by go_num, by rw [HNX.out], trivial⟩
                          case measure => simp [intOf]; omega
              · obtain rfl : k = j := by omega
                rw [HBV.out] at HRUN
                go_wp2_with (refine wpList_append_eq (by rfl) _ _ 34 (by rfl) (by rfl) (by rfl) HRUN.out ?_)
                go_roundw
                case rel => exact ⟨b2 + 1, g3, c3, by omega, by go_num, rfl, HV5⟩
                case measure => simp [intOf]; omega
        · obtain rfl : b2 = j := by omega
          have HF := hide (HB1.out.trans ((HJ.out.b.trans (HO.out.b.mono HJ.out.b.size)).mono HB1.out.size))
          have HIF := hide (IntsAt.of_row HO.out.r (by rw [outB_len]; omega))
          go_wp2
          go_ret
          refine ⟨⟨_, rfl, ?_⟩, HF.out⟩
          have hx := HDD.out
          rw [HN.out] at hx
          rw [← hx, ← HN.out]
          have h3 := HIF.out
          unfold outB at h3
          rw [← HN.out] at h3
          exact h3
end
end Go.Proofs.Ytaejhppfcmeopaa
