/- SlotsMoved: all ranges later by as much get the same slots. -/
import Derived.Test.YtmkeahfdbmfajaaSxQ
namespace Go.Proofs.Ytmkeahfdbmfajaa
open Go.RowKit
theorem Try.info37 : (Try.prog.info? 37).map (fun i => (i.zero, i.size, i.bytes)) = some (some (.agg #[.int .i64 0, .int .i64 0]), 2, 16) := by kernel_rfl
/-- Ranges' numbers, one behind the other. -/
def rcs : List Rg → List Value
  | [] => []
  | p :: r => .int .i64 p.fr :: .int .i64 p.en :: rcs r
theorem rcs_append : ∀ l m : List Rg, rcs (l ++ m) = rcs l ++ rcs m
  | [], _ => rfl
  | p :: r, m => by simp [rcs, rcs_append r m]
theorem rcs_get : ∀ {l : List Rg} {i : Nat} {p : Rg}, l[i]? = some p → (rcs l)[i * 2]? = some (.int .i64 p.fr) ∧ (rcs l)[i * 2 + 1]? = some (.int .i64 p.en)
  | [], i, p, h => by simp at h
  | q :: r, 0, p, h => by simp at h; subst h; exact ⟨rfl, rfl⟩
  | q :: r, i + 1, p, h => by
    have := rcs_get (l := r) (i := i) (p := p) (by simpa using h)
    rw [show (i + 1) * 2 = i * 2 + 1 + 1 from by omega]
    simpa [rcs] using this
/-- Ranges of one's own, made since w0. -/
structure OwR (w0 w : World) (vo : Value) (n : Nat) (xs : List Value) : Prop where
  r : w.ownsRow w0.heap.size 37 2 vo n xs
  b : Below w0.heap.size w0 w
section
variable {w0 w : World} {vo : Value} {n : Nat} {xs : List Value}
theorem OwR.new (w : World) : OwR w (w.alloc (.cells #[] 37)) (.slice (some ⟨w.heap.size, 0, none⟩) 0 0) 0 [] :=
  ⟨⟨rfl, .inr ⟨w.heap.size, 0, #[], rfl, Nat.le_refl _, heap_new _ _ rfl, Nat.le_refl _, by simp, rfl, rfl⟩⟩, (Below.refl _ _).alloc (Nat.le_refl _) _⟩
theorem OwR.push (V : OwR w0 w vo n xs) (x y : Int) (hl : (n + 1) * 16 ≤ 140737488355328) : ∃ g2 cap w', (Builtin.append_ #[22, 22] 22 #[vo, .slice (some ⟨w.heap.size, 0, none⟩) 1 1]).run Try.prog (w.alloc (.cells #[.int .i64 x, .int .i64 y] 37)) = .ok (.slice (some ⟨g2, 0, none⟩) (n + 1) cap) w' ∧ OwR w0 w' (.slice (some ⟨g2, 0, none⟩) (n + 1) cap) (n + 1) (xs ++ [.int .i64 x, .int .i64 y]) := by
  have hB1 := (Below.refl w.heap.size w).alloc (Nat.le_refl _) (.cells #[.int .i64 x, .int .i64 y] 37)
  obtain ⟨i0, hi, hz0, hz1, hz2⟩ := info_parts Try.info37
  obtain ⟨g2, cap, w3, hr, hown, hgrow, _, _⟩ := run_append_lies (P := Try.prog) (w.alloc (.cells #[.int .i64 x, .int .i64 y] 37)) 22 22 w0.heap.size 37 i0 _ 2 16 Try.underlying22 hi hz0 hz1 hz2 rfl (by decide) vo n xs (ownsRow_keep V.r (fun h hh => hB1.block h (V.r.lt h hh).2)) ⟨w.heap.size, 0, none⟩ 1 1 [.int .i64 x, .int .i64 y] rfl (World.news_of_block (heap_new w (.cells #[.int .i64 x, .int .i64 y] 37) rfl))
    (by intro u hu; simp at hu; rcases hu with rfl | rfl <;> rfl) (by decide) (by unfold maxLen; omega) hl (Nat.le_trans V.b.size hB1.size) _ rfl
  refine ⟨g2, cap, w3, hr, hown, ?_⟩
  refine ⟨hgrow.os.trans (hB1.os.trans V.b.os), hgrow.tape.trans (hB1.tape.trans V.b.tape), hgrow.output.trans (hB1.output.trans V.b.output), Nat.le_trans V.b.size (Nat.le_trans hB1.size hgrow.size), fun j hj => ?_⟩
  have hj2 := Nat.lt_of_lt_of_le hj V.b.size
  exact ((hgrow.block j (Nat.lt_of_lt_of_le hj2 hB1.size) (fun e => by have := (V.r.lt j e.symm).1; omega)).trans (hB1.block j hj2)).trans (V.b.block j hj)
theorem OwR.under {w' : World} (V : OwR w0 w vo n xs) (h : Below w.heap.size w w') : OwR w0 w' vo n xs :=
  ⟨ownsRow_keep V.r (fun g hg => h.block g (V.r.lt g hg).2), V.b.trans (h.mono V.b.size)⟩
theorem OwR.at {l : List Rg} (V : OwR w0 w vo n (rcs l)) (hn : l.length = n) (hl : l.length ≤ 9223372036854775807) : RgsAt w vo l := by
  subst hn
  obtain ⟨ao, cap, rfl⟩ := row_form V.r
  refine ⟨hl, ao, cap, rfl, fun j p hj => ?_⟩
  have hj' := get_lt hj
  obtain ⟨e1, e2⟩ := rcs_get hj
  rcases V.r.2 with ⟨_, h0⟩ | ⟨g, cap, cur, e, _, h2, _, _, _, h3⟩
  · omega
  · cases e
    rw [← h3, List.getElem?_take, if_pos (by omega)] at e1 e2
    exact ⟨g, 0, rfl, lt_of_block h2, by simpa [World.cell?, h2] using e1, by simpa [World.cell?, h2] using e2⟩
end
theorem flt_of {l : List Rg} (h1 : l.length ≤ 20000) (h2 : ∀ p ∈ l, 0 ≤ p.fr ∧ p.fr < p.en) : fltP l = 0 := by
  unfold fltP
  rw [if_neg (by omega), if_neg]
  rw [Bool.not_eq_true, List.any_eq_false]
  intro p hp
  have := h2 p hp
  unfold badR
  simp only [Bool.or_eq_true, decide_eq_true_eq]
  omega
theorem mv_flt {l : List Rg} {b : Int} (hb : 0 ≤ b) (h : fltP l = 0) : fltP (mvP b l) = 0 := by
  obtain ⟨h1, h2⟩ := fltP_ok h
  refine flt_of (by rw [mv_len]; exact h1) fun p hp => ?_
  unfold mvP at hp
  obtain ⟨q, hq, rfl⟩ := List.mem_map.mp hp
  have := snd_of h2 q hq
  simp only
  omega
theorem mv_slt {l : List Rg} {b : Int} (hb : 0 ≤ b) (h : fltP l = 0) : sltP (mvP b l) = sltP l ∧ cntP (mvP b l) = cntP l := by
  unfold sltP cntP
  rw [if_pos h, if_pos h, if_pos (mv_flt hb h), if_pos (mv_flt hb h)]
  exact ⟨(mv_asg b l).2, (mv_asg b l).1⟩
theorem slt_len {l : List Rg} (h : fltP l = 0) : (sltP l).length = l.length := by
  unfold sltP
  rw [if_pos h]
  exact runP_len _ _
theorem mv_take {l : List Rg} {j : Nat} {p : Rg} (b : Int) (h : l[j]? = some p) : mvP b (l.take (j + 1)) = mvP b (l.take j) ++ [⟨p.fr + b, p.en + b⟩] := by
  rw [take_snoc h]; unfold mvP; rw [List.map_append]; rfl
theorem wrap_id {x : Int} (h1 : -9223372036854775808 ≤ x) (h2 : x ≤ 9223372036854775807) : IntKind.i64.wrap x = x := by rw [IntKind.wrap_i64]; omega
section
variable {w : World}
set_option maxRecDepth 20000 in
set_option maxHeartbeats 4000000 in
theorem moved_law {v : Value} {l : List Rg} {b : Nat} (R : RgsAt w v l) (hb16 : b < 65536) (hsz : l.length * 16 ≤ 140737488355328) : Calls Try.prog 5 #[v, .int .u16 b] w fun e w' => e = .returned (.bool true) ∧ Below w.heap.size w w' := by
  have hs := assign_any R
  have HA := hide (fun W : World => awake_any W)
  have HR := hide R
  obtain ⟨ao, cap, rfl⟩ := R.slice
  have HSZ := hide hsz
  have hlen := R.len
  by_cases h0 : fltP l = 0
  · rw [h0] at hs
    have HF := hide h0
    have HSND := hide (snd_of (fltP_ok h0).2)
    have hl2 := (fltP_ok h0).1
    obtain ⟨n, hn⟩ : ∃ n, l.length = n := ⟨_, rfl⟩
    have HN := hide hn
    obtain ⟨cn, hcn⟩ : ∃ cn, cntP l = cn := ⟨_, rfl⟩
    have HC := hide hcn
    rw [hn] at HR hl2 hs ⊢
    rw [hcn] at hs
    have hn2 : (n : Int) ≤ 20000 := by omega
    clear R hn hcn h0 hsz hlen
    go_enter Try.func5, Try.ntmps5
    go_wp2_with (go_at_call 7; refine hs.mono ?_; rintro e w1 ⟨⟨vs, rfl, HI⟩, hb1⟩; have HB1 := hide hb1; clear hs hb1)
    go_loopw [8, 9] (fun vl i wr => ∃ j : Nat, j ≤ n ∧ i = .int .i64 j ∧ Hid (OwR w1 wr vl j (rcs (mvP b (l.take j))))) (fun _ i _ => n - (intOf i).toNat)
    case atStart => exact ⟨0, Nat.zero_le _, rfl, OwR.new w1⟩
    case round =>
      obtain ⟨j, hj, rfl, HJ⟩ := hrel
      by_cases hlt : j < n
      · obtain ⟨p, hp⟩ : ∃ p, l[j]? = some p := ⟨l[j]'(by rw [HN.out]; exact hlt), by simp⟩
        have HBW := hide (HB1.out.trans (HJ.out.b.mono HB1.out.size))
        obtain ⟨g, o, rfl, hg, c0, c1⟩ := (HR.out.below HBW.out).cell hp
        have bj : (j : Int) < (n : Int) := by omega
        obtain ⟨hp1, hp2⟩ := HSND.out p (List.mem_of_getElem? hp)
        by_cases hbig : 1099511627776 < p.en
        · have hbig' : decide (p.en > 1099511627776) = true := by simpa using hbig
          go_wp2_with (go_at_call 10; refine (HA.out _).mono ?_; rintro e w2 ⟨rfl, hb2⟩)
          go_ret
          exact ⟨rfl, HBW.out.trans (hb2.mono HBW.out.size)⟩
        · have hbig' : decide (p.en > 1099511627776) = false := by simpa using hbig
          have e0 : IntKind.i64.wrap (b : Int) = b := wrap_id (by omega) (by omega)
          have e1 : IntKind.i64.wrap (p.fr + (b : Int)) = p.fr + b := wrap_id (by omega) (by omega)
          have e2 : IntKind.i64.wrap (p.en + (b : Int)) = p.en + b := wrap_id (by omega) (by omega)
          obtain ⟨al, cl, hvl⟩ := row_form HJ.out.r
          subst hvl
          obtain ⟨g2, cap2, w3, hr, V3⟩ := (HJ.out.under (below_drewN (Below.refl wr.heap.size wr) 1)).push (p.fr + b) (p.en + b) (by omega)
          have HV := hide (show OwR w1 w3 (.slice (some ⟨g2, 0, none⟩) (j + 1) cap2) (j + 1) (rcs (mvP b (l.take (j + 1)))) by rw [mv_take _ hp, rcs_append]; exact V3)
          clear V3 hp HJ
          go_wp2_with fail
          go_region_law (refine step_append_eq (by rfl) _ _ 22 (by rfl) (by rfl) (by rfl) hr ?_)
          all_goals go_wp2_with fail
          all_goals go_roundw
          all_goals first
            | (case rel => exact ⟨j + 1, by omega, by go_num, HV⟩)
            | (case measure => simp [intOf]; omega)
      · obtain rfl : j = n := by omega
        have ht : l.take j = l := List.take_of_length_le (by rw [HN.out]; exact Nat.le_refl _)
        rw [ht] at HJ
        obtain ⟨al, cl, hvl⟩ := row_form HJ.out.r
        subst hvl
        have HBW := hide (HB1.out.trans (HJ.out.b.mono HB1.out.size))
        clear ht
        go_wp2_with (first
          | (go_at_call 12; refine HSM.out.mono ?_; rintro e w4 ⟨rfl, hb4⟩; clear HSM)
          | (go_at_call 7; refine HS2.out.mono ?_; rintro e w3 ⟨⟨vs2, rfl, HI2⟩, hb3⟩
             have HSM := hide (samei_any ((HI.out.below (HJ.out.b.trans (hb2.mono HJ.out.b.size))).below hb3) HI2.out (by rw [slt_len HF.out, HN.out]; omega))
             clear HS2)
          | (go_at_call 10; refine (HA.out _).mono ?_; rintro e w2 ⟨rfl, hb2⟩
             have hs2 := assign_any ((HJ.out.under hb2).at (by rw [mv_len]; exact HN.out) (by rw [mv_len, HN.out]; omega))
             rw [mv_flt (by omega) HF.out, (mv_slt (by omega) HF.out).1, (mv_slt (by omega) HF.out).2, HC.out] at hs2
             have HS2 := hide hs2
             clear hs2))
        go_ret
        have hb5 := hb2.trans (hb3.mono hb2.size)
        exact ⟨rfl, HBW.out.trans ((hb5.trans (hb4.mono hb5.size)).mono HBW.out.size)⟩
  · obtain ⟨f, hf⟩ : ∃ f, fltP l = f := ⟨_, rfl⟩
    rw [hf] at hs h0
    have hf2 : decide (f = 0) = false := by simpa using h0
    have hf3 : (f == 0) = false := by simpa using h0
    obtain ⟨n, hn⟩ : ∃ n, l.length = n := ⟨_, rfl⟩
    have HN := hide hn
    obtain ⟨cn, hcn⟩ : ∃ cn, cntP l = cn := ⟨_, rfl⟩
    rw [hn] at HR hs hlen ⊢
    rw [hcn] at hs
    have hn2 : (n : Int) ≤ 9223372036854775807 := by omega
    have HSZ2 := hide (show n * 16 ≤ 140737488355328 by rw [← hn]; exact hsz)
    clear R hn hcn hf hsz HSZ
    go_enter Try.func5, Try.ntmps5
    go_wp2_with (go_at_call 7; refine hs.mono ?_; rintro e w1 ⟨⟨vs, rfl, HI⟩, hb1⟩; have HB1 := hide hb1; clear hs hb1)
    go_loopw [8, 9] (fun vl i wr => ∃ j : Nat, j ≤ n ∧ i = .int .i64 j ∧ Hid (∃ xs, OwR w1 wr vl j xs)) (fun _ i _ => n - (intOf i).toNat)
    case atStart => exact ⟨0, Nat.zero_le _, rfl, _, OwR.new w1⟩
    case round =>
      obtain ⟨j, hj, rfl, HJ0⟩ := hrel
      obtain ⟨xs, hJ⟩ := HJ0.out
      have HJ := hide hJ
      clear hJ HJ0
      by_cases hlt : j < n
      · obtain ⟨p, hp⟩ : ∃ p, l[j]? = some p := ⟨l[j]'(by rw [HN.out]; exact hlt), by simp⟩
        have HBW := hide (HB1.out.trans (HJ.out.b.mono HB1.out.size))
        obtain ⟨g, o, rfl, hg, c0, c1⟩ := (HR.out.below HBW.out).cell hp
        have bj : (j : Int) < (n : Int) := by omega
        by_cases hbig : 1099511627776 < p.en
        · have hbig' : decide (p.en > 1099511627776) = true := by simpa using hbig
          go_wp2_with (go_at_call 10; refine (HA.out _).mono ?_; rintro e w2 ⟨rfl, hb2⟩)
          go_ret
          exact ⟨rfl, HBW.out.trans (hb2.mono HBW.out.size)⟩
        · have hbig' : decide (p.en > 1099511627776) = false := by simpa using hbig
          have e0 : IntKind.i64.wrap (b : Int) = b := wrap_id (by omega) (by omega)
          obtain ⟨x1, e1⟩ : ∃ x, IntKind.i64.wrap (p.fr + (b : Int)) = x := ⟨_, rfl⟩
          obtain ⟨x2, e2⟩ : ∃ x, IntKind.i64.wrap (p.en + (b : Int)) = x := ⟨_, rfl⟩
          obtain ⟨al, cl, hvl⟩ := row_form HJ.out.r
          subst hvl
          obtain ⟨g2, cap2, w3, hr, V3⟩ := (HJ.out.under (below_drewN (Below.refl wr.heap.size wr) 1)).push x1 x2 (by have := HSZ2.out; omega)
          have HV := hide V3
          clear V3 hp HJ
          go_wp2_with fail
          go_region_law (refine step_append_eq (by rfl) _ _ 22 (by rfl) (by rfl) (by rfl) hr ?_)
          all_goals go_wp2_with fail
          all_goals go_roundw
          all_goals first
            | (case rel => exact ⟨j + 1, by omega, by go_num, _, HV⟩)
            | (case measure => simp [intOf]; omega)
      · obtain rfl : j = n := by omega
        have HBW := hide (HB1.out.trans (HJ.out.b.mono HB1.out.size))
        go_wp2_with (first
          | (have kk := hb2; clear kk; go_at_call 10; refine (HA.out _).mono ?_; rintro e w3 ⟨rfl, hb3⟩)
          | (go_at_call 10; refine (HA.out _).mono ?_; rintro e w2 ⟨rfl, hb2⟩))
        go_ret
        exact ⟨rfl, HBW.out.trans ((hb2.trans (hb3.mono hb2.size)).mono HBW.out.size)⟩
end
end Go.Proofs.Ytmkeahfdbmfajaa
