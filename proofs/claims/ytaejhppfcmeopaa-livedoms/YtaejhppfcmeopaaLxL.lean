/- doms and Doms of the program. -/
import Derived.Test.YtaejhppfcmeopaaLxK
namespace Go.Proofs.Ytaejhppfcmeopaa
open Go.RowKit
section
variable {w : World}
set_option maxRecDepth 20000 in
set_option maxHeartbeats 4000000 in
theorem repeat0 {b cp : Nat} {x : Int} (h0 : w.cell? ⟨b, 0, none⟩ = some (.int .i64 x)) : Calls Try.prog 45 #[.slice (some ⟨b, 0, none⟩) 1 cp, .int .i64 0] w fun e w' => (∃ g, e = .returned (.slice (some ⟨g, 0, none⟩) 0 0)) ∧ Below w.heap.size w w' := by
  have hmul := mul_any 1 0 (by omega) (by omega) w
  rw [show 1 * 0 / 18446744073709551616 = 0 by omega, show 1 * 0 % 18446744073709551616 = 0 by omega] at hmul
  have lb := World.block_lt_of_cell? w _ h0
  have hmk : (Instr.makeSlice 34 (.int .i64 0) (.int .i64 0)).run Try.prog w = .ok (.slice (some ⟨w.heap.size, 0, none⟩) 0 0) (w.alloc (.cells #[] 3)) := run_intsM w 0 (by omega)
  have hnb : (w.alloc (.cells #[] 3)).heap[w.heap.size]? = some (.cells #[] 3 (0, 0)) := heap_new _ _ rfl
  have hrun := run_copy_row (P := Try.prog) (w.alloc (.cells #[] 3)) 34 34 3 3 w.heap.size 0 0 0 ⟨b, 0, none⟩ 1 cp #[] 3 [] Try.underlying34 (by kernel_rfl) hnb rfl (fun j v hj => by simp at hj) (by simp) (fun v hv => by simp at hv)
  have HBE := hide (below_setRow ((Below.refl w.heap.size w).alloc (Nat.le_refl _) (.cells #[] 3)) (Nat.le_refl _) (([] : List Value).toArray))
  clear hnb
  go_enter Try.func45, Try.ntmps45
  go_wp2_with (go_at_call 53; refine hmul.mono ?_; rintro e w2 ⟨rfl, rfl⟩)
  refine wp_loop_rounds 1 ?_
  rw [rounds_succ]
  go_wp2
  go_ret
  exact ⟨⟨_, rfl⟩, HBE.out⟩
set_option maxRecDepth 20000 in
set_option maxHeartbeats 4000000 in
theorem doms_pos {v : Value} {bs : List Blk} {K : Nat} (S : Snd bs K) (R : BlksAt w v bs) (h0 : bs ≠ []) : Calls Try.prog 26 #[v] w fun e w' => (∃ v', e = .returned v' ∧ Hid (IntsAt w' v' (dmP bs))) ∧ Below w.heap.size w w' := by
  have hgo := goOn_any S R
  have HOR := hide (fun (w1 : World) (h : Below w.heap.size w w1) => order_any S (R.below h))
  have HO := hide (go_rpo S h0)
  have HLT := hide (fun (x : Nat) (h : x ∈ ordP bs) => ord_lt S h0 h)
  have hol := ord_len S h0
  have hl := S.l
  have hpos := List.length_pos_iff.mpr h0
  have HS := hide S
  obtain ⟨ao, cap, rfl, _⟩ := R
  obtain ⟨n, hn⟩ : ∃ n, bs.length = n := ⟨_, rfl⟩
  have HN := hide hn
  rw [hn] at hgo HOR hl hpos ⊢
  obtain ⟨m, hm⟩ : ∃ m, (ordP bs).length = m := ⟨_, rfl⟩
  have HM := hide hm
  rw [hm] at hol
  clear S hn hm h0
  have hn2 : (n : Int) ≤ 512 := by omega
  have hm2 : (m : Int) ≤ 512 := by omega
  go_enter Try.func26, Try.ntmps26
  go_upto_region 3 with (first
    | (go_at_call 44; with_reducible refine hgo.mono ?_; rintro e w1 ⟨rfl, G, hb1⟩; have H1 := hide (And.intro G hb1); clear G hb1)
    | (go_at_call 25; with_reducible refine (HOR.out _ H1.out.2).mono ?_; rintro e w2 ⟨vo, rfl, hown, hb2⟩
       obtain ⟨ag, ac, evo⟩ := row_form hown
       rw [zs_len, HM.out] at evo
       subst evo
       have HI2 := hide (IntsAt.of_row hown (by rw [zs_len, HM.out]; omega))
       have H2 := hide (And.intro (H1.out.1.below hb2) (H1.out.2.trans (hb2.mono H1.out.2.size)))
       clear hown hb2)
    | (go_at_call 45
       have hrp := repeat_any (cp := 1) (cell_of (o := 0) (heap_new w2 (.cells #[.int .i64 (-1)] 3) rfl) rfl) (show 1 ≤ n by omega) (show n ≤ 1000 by omega)
       refine hrp.mono ?_; rintro e w3 ⟨rfl, R3⟩; have H3 := hide R3; clear R3 hrp))
  obtain ⟨L, hL⟩ : ∃ L, w2.heap.size + 1 = L := ⟨_, rfl⟩
  have hB3 : Below w2.heap.size w2 w3 := (((Below.refl w2.heap.size w2).alloc (Nat.le_refl _) (.cells #[.int .i64 (-1)] 3)).trans (H3.out.bel.mono (by simp)))
  have hblk : w3.heap[L]? = some (.cells (ints (dlF n (ordP bs) (arP (suc bs)) ((ordP bs).take 0) 0 [])).toArray 3 (0, 0)) := by
    obtain ⟨arr, h1, h2, h3⟩ := H3.out.blk
    rw [← hL, show w2.heap.size + 1 = (w2.alloc (.cells #[.int .i64 (-1)] 3)).heap.size by simp, h1, List.take_zero, dlF_start]
    congr 2
    apply Array.ext_getElem?
    intro i
    by_cases hi : i < n
    · rw [h3 i hi, List.getElem?_toArray]
      exact (ints_get (by rw [List.getElem?_replicate, if_pos hi])).symm
    · rw [Array.getElem?_eq_none (by omega), List.getElem?_toArray, List.getElem?_eq_none (by simp [ints]; omega)]
  have hKB : ∀ wr, Kp (fun b => b = L) w3 wr → Below w2.heap.size w2 wr := fun wr h => Kp.below (Nat.le_refl _) hB3 h (fun b hb => by omega)
  have hL3 := lt_of_block hblk
  rw [hL]
  have HKB := hide hKB
  have HBLK := hide hblk
  clear hKB hblk hB3 H3 hL
  go_wp2
  go_loopw [21] (fun i wr => ∃ j : Nat, j ≤ m ∧ i = .int .i64 j ∧ Hid (∃ d0, wr.heap[L]? = some (.cells (ints (dlF n (ordP bs) (arP (suc bs)) ((ordP bs).take j) d0 [])).toArray 3 (0, 0)) ∧ Kp (fun b => b = L) w3 wr)) (fun i _ => m - (intOf i).toNat)
  case atStart => exact ⟨0, Nat.zero_le _, rfl, 0, HBLK.out, Kp.refl _ _⟩
  case round =>
    obtain ⟨j, hj, rfl, HJ⟩ := hrel
    obtain ⟨d0, hbl, hkp⟩ := HJ.out
    have HB2 := hide (HKB.out _ hkp)
    by_cases hlt : j < m
    · obtain ⟨d, hd⟩ : ∃ d, (ordP bs)[j]? = some d := ⟨(ordP bs)[j]'(by rw [HM.out]; exact hlt), by simp⟩
      have hdn : d < n := by have := HLT.out d (List.mem_of_getElem? hd); rw [HN.out] at this; exact this
      obtain ⟨gv, ov, rfl, hgv, cv⟩ := (HI2.out.below HB2.out).cell (i := j) (show (zs (ordP bs))[j]? = some (d : Int) by simp [zs, hd])
      have bj : (j : Int) < (m : Int) := by omega
      have har := around_any (cap := n) (fun t => suc_sm t) (fun t i h => by have := goN_lt HS.out t i ((go_bit HS.out t i).mp h); rw [HN.out] at this; exact this) hl hpos (H2.out.1.below HB2.out) (one := d) (by omega)
      obtain ⟨sm, hsm⟩ : ∃ sm, arP (suc bs) d = sm := ⟨_, rfl⟩
      rw [hsm] at har
      have HSM := hide hsm
      have HD := hide hd
      have HKP := hide (And.intro hbl hkp)
      clear hd hbl hkp HJ hsm
      go_upto_region 7 with (go_at_call 46; with_reducible refine har.mono ?_; rintro e w4 ⟨rfl, hb4⟩; have H4 := hide hb4; clear hb4 har)
      have hbx := BoxS.new w4 sm
      have hB5 : Below wr.heap.size wr (w4.alloc (.cells (wc sm) 64)) := H4.out.trans ((Below.refl w4.heap.size w4).alloc (Nat.le_refl _) (.cells (wc sm) 64) |>.mono H4.out.size)
      have hLr : L < wr.heap.size := lt_of_block HKP.out.1
      have hLb : w4.heap.size ≠ L := by have := H4.out.size; omega
      obtain ⟨b8, hb8⟩ : ∃ b, w4.heap.size = b := ⟨_, rfl⟩
      show Code.wp Try.prog _ _ _ (w4.alloc (.cells (wc sm) 64))
      obtain ⟨W5, hW5⟩ : ∃ W, w4.alloc (.cells (wc sm) 64) = W := ⟨_, rfl⟩
      rw [hW5] at hbx hB5 ⊢
      rw [hb8] at hbx hLb ⊢
      have hK5 : Kp (fun b => b = L) w3 W5 := HKP.out.2.trans (Kp.of_below hB5)
      have hL5 : W5.heap[L]? = some (.cells (ints (dlF n (ordP bs) (arP (suc bs)) ((ordP bs).take j) d [])).toArray 3 (0, 0)) := by
        rw [hB5.block _ hLr, HKP.out.1]
        congr 3
      have H5 := hide (And.intro hL5 (And.intro hK5 hbx))
      clear hL5 hK5 hbx hB5 hW5 hb8 H4 hLr HKP HB2
      go_wp2
      go_loopw [30] (fun k wi => ∃ k2 : Nat, k2 ≤ m ∧ k = .int .i64 k2 ∧ Hid (wi.heap[L]? = some (.cells (ints (dlF n (ordP bs) (arP (suc bs)) ((ordP bs).take j) d ((ordP bs).take k2))).toArray 3 (0, 0)) ∧ Kp (fun b => b = L) w3 wi ∧ BoxS wi b8 sm)) (fun k _ => m - (intOf k).toNat)
      case atStart => exact ⟨0, Nat.zero_le _, rfl, by rw [List.take_zero]; exact H5.out⟩
      case round =>
        obtain ⟨k2, hk2, rfl, HI⟩ := hrel
        obtain ⟨hl1, hk1, hb1⟩ := HI.out
        by_cases hkm : k2 < m
        · obtain ⟨x, hx⟩ : ∃ x, (ordP bs)[k2]? = some x := ⟨(ordP bs)[k2]'(by rw [HM.out]; exact hkm), by simp⟩
          have hxm := List.mem_of_getElem? hx
          have hxn : x < n := by have := HLT.out x hxm; rw [HN.out] at this; exact this
          obtain ⟨gx, ox, ex, hgx, cx⟩ := (HI2.out.below (HKB.out _ hk1)).cell (i := k2) (show (zs (ordP bs))[k2]? = some (x : Int) by simp [zs, hx])
          cases ex
          have bk : (k2 : Int) < (m : Int) := by omega
          have bx : (x : Int) < (n : Int) := by omega
          obtain ⟨a0, a1, a2, a3, a4, a5, a6, a7⟩ := hb1.all
          have l8 := hb1.lt
          have hha := has_any (w := wr) sm x (by omega)
          have hts : (ordP bs).take (k2 + 1) = (ordP bs).take k2 ++ [x] := by rw [List.take_add_one, hx]; rfl
          cases hbit : sm.testBit x with
          | true =>
            rw [hbit] at hha
            have HE := hide (show dlF n (ordP bs) (arP (suc bs)) ((ordP bs).take j) d ((ordP bs).take (k2 + 1)) = dlF n (ordP bs) (arP (suc bs)) ((ordP bs).take j) d ((ordP bs).take k2) by rw [hts, dlF_same hxm (by rw [HSM.out]; exact hbit)])
            clear hx hxm hts hbit hl1 hk1 hb1
            go_wp2_with (go_at_call 41; refine hha.mono ?_; rintro e w6 ⟨rfl, hb6⟩; have H6 := hide hb6; clear hb6 hha)
            go_roundw
            case rel => exact ⟨k2 + 1, by omega, by go_num, by rw [HE.out]; exact (H6.out.block _ (lt_of_block HI.out.1)).trans HI.out.1, HI.out.2.1.trans (Kp.of_below H6.out), HI.out.2.2.keep (H6.out.block _ HI.out.2.2.lt)⟩
            case measure => simp [intOf]; omega
          | false =>
            rw [hbit] at hha
            have HE := hide (show (dlF n (ordP bs) (arP (suc bs)) ((ordP bs).take j) d ((ordP bs).take k2)).set x (d : Int) = dlF n (ordP bs) (arP (suc bs)) ((ordP bs).take j) d ((ordP bs).take (k2 + 1)) by rw [hts, dlF_set hxn hxm (by rw [HSM.out]; exact hbit)])
            clear hx hxm hts hbit hl1 hk1 hb1
            go_wp2_with (go_at_call 41; refine hha.mono ?_; rintro e w6 ⟨rfl, hb6⟩
                         have h6l := (hb6.block _ (lt_of_block HI.out.1)).trans HI.out.1
                         have c6 := cell_of h6l (by rw [List.getElem?_toArray]; exact ints_get (dlF_get (q := (ordP bs).take k2) (d := d) (pre := (ordP bs).take j) (o := ordP bs) (sn := arP (suc bs)) hxn))
                         have z6 := fz_of x h6l
                         have l6 := lt_of_block h6l
                         have H6 := hide (And.intro hb6 h6l); clear hb6 hha h6l)
            go_roundw
            case rel =>
              refine ⟨k2 + 1, by omega, by go_num, ?_, (HI.out.2.1.trans (Kp.of_below H6.out.1)).trans (Kp.setCell _ _ _), (HI.out.2.2.keep (H6.out.1.block _ HI.out.2.2.lt)).keep (Below.heap_setCell _ _ _ _ (by simpa using hLb))⟩
              rw [heap_setCell_same _ _ _ _ H6.out.2, ← HE.out, List.setIfInBounds_toArray]
              congr 3
              simp [ints, List.map_set]
            case measure => simp [intOf]; omega
        · obtain rfl : k2 = m := by omega
          have ht : (ordP bs).take k2 = ordP bs := List.take_of_length_le (by rw [HM.out]; exact Nat.le_refl _)
          rw [ht] at hl1
          have hts : (ordP bs).take (j + 1) = (ordP bs).take j ++ [d] := by rw [List.take_add_one, HD.out]; rfl
          rw [dlF_done (x := 0), ← hts] at hl1
          have HF := hide (And.intro hl1 hk1)
          clear hl1 hk1 hb1 ht hts HI
          go_wp2
          go_roundw
          case rel => exact ⟨j + 1, by omega, by go_num, 0, HF.out.1, HF.out.2⟩
          case measure => simp [intOf]; omega
    · obtain rfl : j = m := by omega
      have ht : (ordP bs).take j = ordP bs := List.take_of_length_le (by rw [HM.out]; exact Nat.le_refl _)
      rw [ht, ← HN.out, dlF_end] at hbl
      have HF := hide (And.intro hbl (H2.out.2.trans (HB2.out.mono H2.out.2.size)))
      clear hbl hkp HJ ht
      go_wp2
      go_ret
      refine ⟨⟨.slice (some ⟨L, 0, none⟩) n n, rfl, ?_⟩, HF.out.2⟩
      refine ⟨some ⟨L, 0, none⟩, n, by rw [dmP_len, HN.out], by rw [dmP_len, HN.out]; omega, fun i x hx => ⟨L, 0, rfl, lt_of_block HF.out.1, ?_⟩⟩
      rw [Nat.zero_add]
      exact cell_of HF.out.1 (by rw [List.getElem?_toArray]; exact ints_get hx)
end
end Go.Proofs.Ytaejhppfcmeopaa
