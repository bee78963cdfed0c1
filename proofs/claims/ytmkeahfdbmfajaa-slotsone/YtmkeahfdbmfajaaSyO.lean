/- SlotsOne: ranges that follow one another need one slot, the same once more one more. -/
import Derived.Test.YtmkeahfdbmfajaaSxR
import Derived.Test.YtmkeahfdbmfajaaSxS
namespace Go.Proofs.Ytmkeahfdbmfajaa
open Go.RowKit
/-- Lengths that lie somewhere. -/
def LensAt (w : World) (v : Value) (l : List Nat) : Prop :=
  ∃ ao cap, v = .slice ao l.length cap ∧ l.length ≤ cap ∧ cap ≤ 9223372036854775807 ∧ (∀ x ∈ l, x < 65536) ∧ ∀ (j u : Nat), l[j]? = some u → ∃ b o, ao = some ⟨b, o, none⟩ ∧ b < w.heap.size ∧ w.cell? ⟨b, o + j, none⟩ = some (.int .u16 u)
theorem rcs_cases : ∀ {l : List Rg} {i : Nat} {u : Value}, (rcs l)[i]? = some u → ∃ k p, l[k]? = some p ∧ ((i = k * 2 ∧ u = .int .i64 p.fr) ∨ (i = k * 2 + 1 ∧ u = .int .i64 p.en))
  | [], i, u, h => by simp [rcs] at h
  | q :: r, 0, u, h => ⟨0, q, rfl, .inl ⟨rfl, by simp [rcs] at h; exact h.symm⟩⟩
  | q :: r, 1, u, h => ⟨0, q, rfl, .inr ⟨rfl, by simp [rcs] at h; exact h.symm⟩⟩
  | q :: r, i + 2, u, h => by
    obtain ⟨k, p, h1, h2⟩ := rcs_cases (l := r) (i := i) (u := u) (by simpa [rcs] using h)
    refine ⟨k + 1, p, by simpa using h1, ?_⟩
    rcases h2 with ⟨e1, e2⟩ | ⟨e1, e2⟩
    · exact .inl ⟨by omega, e2⟩
    · exact .inr ⟨by omega, e2⟩
theorem rcs_len : ∀ l : List Rg, (rcs l).length = l.length * 2
  | [] => rfl
  | p :: r => by simp [rcs, rcs_len r]; omega
section
variable {w0 w : World} {vo : Value} {m n : Nat} {xs : List Value}
theorem OwR.copy (V : OwR w0 w vo m xs) {ao : Option Addr} {cap : Nat} {l : List Rg} (R : RgsAt w (.slice ao n cap) l) (hn : l.length = n) (h0 : 0 < n) (hl : (m + n) * 16 ≤ 140737488355328) : ∃ g2 cap' w', (Builtin.append_ #[22, 22] 22 #[vo, .slice ao n cap]).run Try.prog w = .ok (.slice (some ⟨g2, 0, none⟩) (m + n) cap') w' ∧ OwR w0 w' (.slice (some ⟨g2, 0, none⟩) (m + n) cap') (m + n) (xs ++ rcs l) ∧ ∀ (g : Nat), g < w.heap.size → vo.ownBlock ≠ some g → w'.heap[g]? = w.heap[g]? := by
  obtain ⟨p0, hp0⟩ : ∃ p, l[0]? = some p := ⟨l[0]'(by omega), by simp⟩
  obtain ⟨ga, oa, rfl, hga, _⟩ := R.cell hp0
  obtain ⟨i0, hi, hz0, hz1, hz2⟩ := info_parts Try.info37
  have ad : ∀ r, (⟨ga, oa, none⟩ : Addr).add r = ⟨ga, oa + r, none⟩ := fun r => by cases r <;> simp [Addr.add]
  have hnews : ∀ (j : Nat) (u : Value), (rcs l)[j]? = some u → w.cell? ((⟨ga, oa, none⟩ : Addr).add j) = some u := fun j u hu => by
    rw [ad]
    obtain ⟨k, p, hp, h⟩ := rcs_cases hu
    obtain ⟨g, o, e, _, c0, c1⟩ := R.cell hp
    cases e
    rcases h with ⟨rfl, rfl⟩ | ⟨rfl, rfl⟩
    · exact c0
    · rw [← Nat.add_assoc]; exact c1
  have h1 : ∀ u ∈ rcs l, u.oneCell' = true := fun u hu => by
    obtain ⟨j, hj⟩ := List.getElem?_of_mem hu
    obtain ⟨k, p, hp, h⟩ := rcs_cases hj
    rcases h with ⟨_, rfl⟩ | ⟨_, rfl⟩ <;> rfl
  obtain ⟨g2, cap', w3, hr, hown, hgrow, _, _⟩ := run_append_lies (P := Try.prog) w 22 22 w0.heap.size 37 i0 _ 2 16 Try.underlying22 hi hz0 hz1 hz2 rfl (by decide) vo m xs V.r ⟨ga, oa, none⟩ n cap (rcs l) (by rw [rcs_len, hn]) hnews h1 h0 (by unfold maxLen; omega) hl V.b.size _ rfl
  refine ⟨g2, cap', w3, hr, ⟨hown, ?_⟩, fun g hg hne => hgrow.block g hg fun e => hne e.symm⟩
  exact ⟨hgrow.os.trans V.b.os, hgrow.tape.trans V.b.tape, hgrow.output.trans V.b.output, Nat.le_trans V.b.size hgrow.size, fun j hj => (hgrow.block j (Nat.lt_of_lt_of_le hj V.b.size) (fun e => by have := (V.r.lt j e.symm).1; omega)).trans (V.b.block j hj)⟩
end
theorem cT_flt {ns : List Nat} {n : Nat} (h : n ≤ 20000) : fltP (cT (tot ns) n) = 0 := by
  refine flt_of (by rw [cT_len]; exact h) fun p hp => ?_
  obtain ⟨j, _, rfl⟩ := cT_mem (tot ns) hp
  exact ⟨tot_nn ns j, tot_lt ns (by omega)⟩
theorem dT_flt {ns : List Nat} {n : Nat} (h : n ≤ 10000) : fltP (cT (tot ns) n ++ cT (tot ns) n) = 0 := by
  refine flt_of (by rw [List.length_append, cT_len]; omega) fun p hp => ?_
  rw [List.mem_append, or_self] at hp
  obtain ⟨j, _, rfl⟩ := cT_mem (tot ns) hp
  exact ⟨tot_nn ns j, tot_lt ns (by omega)⟩
theorem rep_get {n i : Nat} {x : Int} (h : i < n) : (List.replicate n x)[i]? = some x := by rw [List.getElem?_replicate, if_pos h]
theorem flt0 : fltP [] = 0 := rfl
theorem ord0 : ordP [] = [] := List.length_eq_zero_iff.mp (ordP_len [])
theorem slt0 : sltP [] = [] := by
  unfold sltP asgP
  rw [if_pos flt0, ord0]
  rfl
theorem cnt0 : cntP [] = 0 := by
  unfold cntP asgP
  rw [if_pos flt0, ord0]
  rfl
theorem one_slt (ns : List Nat) {n : Nat} (h : n ≤ 20000) : sltP (cT (tot ns) n) = List.replicate n 0 ∧ cntP (cT (tot ns) n) = if n = 0 then 0 else 1 := by
  unfold sltP cntP
  rw [if_pos (cT_flt h), if_pos (cT_flt h)]
  exact ⟨(one_asg (tot ns) (fun _ _ => tot_lt ns) n).2, (one_asg (tot ns) (fun _ _ => tot_lt ns) n).1⟩
theorem two_slt (ns : List Nat) {n : Nat} (h : n ≤ 10000) : sltP (cT (tot ns) n ++ cT (tot ns) n) = List.replicate n 0 ++ List.replicate n 1 ∧ cntP (cT (tot ns) n ++ cT (tot ns) n) = if n = 0 then 0 else 2 := by
  unfold sltP cntP
  rw [if_pos (dT_flt h), if_pos (dT_flt h)]
  exact ⟨(two_asg (tot ns) (fun _ _ => tot_lt ns) n).2, (two_asg (tot ns) (fun _ _ => tot_lt ns) n).1⟩
section
variable {w : World}
set_option maxRecDepth 20000 in
set_option maxHeartbeats 8000000 in
theorem one_law {v : Value} {l : List Nat} (R : LensAt w v l) : Calls Try.prog 6 #[v] w fun e w' => e = .returned (.bool true) ∧ Below w.heap.size w w' := by
  have HA := hide (fun W : World => awake_any W)
  obtain ⟨ao, cap, rfl, hcap, hcm, h16, hcell⟩ := R
  obtain ⟨ns, hns⟩ : ∃ ns, l.take 200 = ns := ⟨_, rfl⟩
  obtain ⟨n, hn⟩ : ∃ n, ns.length = n := ⟨_, rfl⟩
  have hn2 : n ≤ 200 := by rw [← hn, ← hns, List.length_take]; omega
  have hc : (200 < l.length ∧ n = 200) ∨ (l.length ≤ 200 ∧ l.length = n) := by rw [← hn, ← hns, List.length_take]; omega
  have HN := hide hn
  have H16 := hide (show ∀ x ∈ ns, x < 65536 from fun x hx => h16 x (List.mem_of_mem_take (by rw [hns]; exact hx)))
  have HC := hide (show ∀ (j u : Nat), ns[j]? = some u → ∃ b o, ao = some ⟨b, o, none⟩ ∧ b < w.heap.size ∧ w.cell? ⟨b, o + j, none⟩ = some (.int .u16 u) from fun j u hu => hcell j u (by
    rw [← hns, List.getElem?_take] at hu
    split at hu
    · exact hu
    · cases hu))
  obtain ⟨L, hL⟩ : ∃ L, l.length = L := ⟨_, rfl⟩
  rw [hL] at hc hcap ⊢
  clear hns hn h16 hcell hL
  have hL2 : (L : Int) ≤ 9223372036854775807 := by omega
  have hE : Hid (∀ (b : Nat), RgsAt (w.alloc (.cells #[] 37)) (.slice (some ⟨b, 0, none⟩) 0 0) []) := fun b => ⟨by simp, _, 0, rfl, fun j p hp => by simp at hp⟩
  rcases hc with ⟨hc, h⟩ | ⟨hc, h⟩
  · subst h
    have hc' : (200 : Int) < (L : Int) := by omega
    have hcc : (200 : Int) ≤ (cap : Int) := by omega
    go_enter Try.func6, Try.ntmps6
    go_wp2
    go_loopw [3, 4, 5] (fun vl va i wr => ∃ j : Nat, j ≤ 200 ∧ i = .int .i64 j ∧ va = .int .i64 (tot ns j) ∧ Hid (OwR w wr vl j (rcs (cT (tot ns) j)))) (fun _ _ i _ => 200 - (intOf i).toNat)
    case atStart => exact ⟨0, Nat.zero_le _, rfl, rfl, OwR.new w⟩
    case round =>
      obtain ⟨j, hj, rfl, rfl, HJ⟩ := hrel
      by_cases hlt : j < 200
      · obtain ⟨x, hx⟩ : ∃ x, ns[j]? = some x := ⟨ns[j]'(by rw [HN.out]; exact hlt), by simp⟩
        have hx16 := H16.out x (List.mem_of_getElem? hx)
        obtain ⟨gb, ob, rfl, hg, c0⟩ := HC.out j x hx
        have htl := tot_le H16.out j
        have htn := tot_nn ns j
        have hts : tot ns (j + 1) = tot ns j + ((x : Int) + 1) := by simp only [tot]; rw [show ns.getD j 0 = x by simp [List.getD_eq_getElem?_getD, hx]]
        have hsn := cT_snoc (tot ns) j
        obtain ⟨b, hb⟩ : ∃ b, tot ns (j + 1) = b := ⟨_, rfl⟩
        have HB := hide hb
        obtain ⟨a, ha⟩ : ∃ a, tot ns j = a := ⟨_, rfl⟩
        rw [hb] at hts hsn
        rw [ha] at htl htn hts hsn ⊢
        have HS := hide hsn
        rw [← keep_cell HJ.out.b hg] at c0
        have bj : (j : Int) < (200 : Int) := by omega
        have e0 : IntKind.i64.wrap (x : Int) = x := wrap_id (by omega) (by omega)
        have e1 : IntKind.i64.wrap ((x : Int) + 1) = (x : Int) + 1 := wrap_id (by omega) (by omega)
        have e2 : IntKind.i64.wrap (a + ((x : Int) + 1)) = b := by rw [wrap_id (by omega) (by omega)]; exact hts.symm
        obtain ⟨al, cl, hvl⟩ := row_form HJ.out.r
        subst hvl
        obtain ⟨g2, cap2, w3, hr, V3⟩ := HJ.out.push a b (by omega)
        have HV := hide (show OwR w w3 (.slice (some ⟨g2, 0, none⟩) (j + 1) cap2) (j + 1) (rcs (cT (tot ns) (j + 1))) by rw [HS.out, rcs_append]; exact V3)
        clear V3 hx HJ hsn hts hb ha htl htn hx16
        go_wp2_with (refine wpList_append_eq (by rfl) _ _ 22 (by rfl) (by rfl) (by rfl) hr ?_)
        go_roundw
        case rel => exact ⟨j + 1, by omega, by go_num, by rw [HB.out], HV⟩
        case measure => simp [intOf]; omega
      · obtain rfl : j = 200 := by omega
        obtain ⟨al, cl, hvl⟩ := row_form HJ.out.r
        subst hvl
        have hat := HJ.out.at (cT_len _ _) (by rw [cT_len]; omega)
        have HBW := hide HJ.out.b
        have hs := assign_any hat
        have HAT := hide hat
        clear hat HJ hlt hj
        rw [cT_flt (by omega), (one_slt ns (by omega)).1, (one_slt ns (by omega)).2, if_neg (by omega)] at hs
        go_upto_region 11 with (go_at_call 7; with_reducible refine hs.mono ?_; rintro e w2 ⟨⟨v2, rfl, HI2⟩, hb2⟩)
        clear hs
        obtain ⟨a2, c2, e2⟩ := HI2.out.slice
        rw [List.length_replicate] at e2
        subst e2
        obtain ⟨g3, c3, w3, hr1, V3, k3⟩ := (OwR.new w2).copy ((HAT.out.below hb2).below ((Below.refl w2.heap.size w2).alloc (Nat.le_refl _) (.cells #[] 37))) (cT_len _ _) (by omega) (by omega)
        rw [Nat.zero_add] at hr1 V3
        clear k3
        obtain ⟨g4, c4, w4, hr2, V4, k4⟩ := V3.copy ((HAT.out.below hb2).below V3.b) (cT_len _ _) (by omega) (by omega)
        clear k4
        rw [List.nil_append, ← rcs_append] at V4
        have hs2 := assign_any (V4.at (by rw [List.length_append, cT_len]) (by rw [List.length_append, cT_len]; omega))
        rw [dT_flt (by omega), (two_slt ns (by omega)).1, (two_slt ns (by omega)).2, if_neg (by omega)] at hs2
        have HS2 := hide hs2
        have HB2 := hide (And.intro hb2 V4.b)
        have HR1 := hide hr1
        have HR2 := hide hr2
        clear hs2 V3 V4 hb2 hr1 hr2
        go_wp2_with (first
          | (have kk := st2; clear kk; refine wpList_append_eq (by rfl) _ _ 22 (by rfl) (by rfl) (by rfl) HR2.out ?_)
          | (refine wpList_append_eq (by rfl) _ _ 22 (by rfl) (by rfl) (by rfl) HR1.out ?_; have st2 : True := trivial)
          | (go_at_call 7; with_reducible refine HS2.out.mono ?_; rintro e w5 ⟨⟨v5, rfl, HI5⟩, hb5⟩
             obtain ⟨a5, c5, e5⟩ := HI5.out.slice
             rw [List.length_append, List.length_replicate, List.length_replicate] at e5
             subst e5
             have HB5 := hide hb5
             clear hb5 HS2))
        go_loopw [15] (fun i wr => ∃ k q : Nat, k ≤ 200 ∧ i = .int .i64 k ∧ wr = w5.drewN q) (fun i _ => 200 - (intOf i).toNat)
        case atStart => exact ⟨0, 0, Nat.zero_le _, rfl, rfl⟩
        case round =>
          obtain ⟨k, q, hk, rfl, rfl⟩ := hrel
          by_cases hlt : k < 200
          · have bk : (k : Int) < (200 : Int) := by omega
            obtain ⟨ga, oa, rfl, hga, c0⟩ := ((HI2.out.below HB2.out.2).below HB5.out).cell (j := k) (x := 0) (rep_get hlt)
            obtain ⟨gb, ob, rfl, hgb, c1⟩ := HI5.out.cell (j := k) (x := 0) (by rw [List.getElem?_append_left (by rw [List.length_replicate]; exact hlt)]; exact rep_get hlt)
            obtain ⟨gb', ob', eb, hgb', c2⟩ := HI5.out.cell (j := 200 + k) (x := 1) (by rw [List.getElem?_append_right (by rw [List.length_replicate]; exact Nat.le_add_right _ _), List.length_replicate, Nat.add_sub_cancel_left]; exact rep_get hlt)
            cases eb
            have bk2 : ((200 + k : Nat) : Int) < ((200 + 200 : Nat) : Int) := by omega
            have e3 : IntKind.i64.wrap ((200 : Int) + (k : Int)) = ((200 + k : Nat) : Int) := by rw [wrap_id (by omega) (by omega)]; omega
            go_wp2
            go_quiet (fail)
            go_wp2
            go_roundw
            case rel => exact ⟨k + 1, q + nq, by omega, by go_num, rfl⟩
            case measure => simp [intOf]; omega
          · obtain rfl : k = 200 := by omega
            go_wp2_with (go_at_call 10; refine (HA.out _).mono ?_; rintro e w6 ⟨rfl, hb6⟩)
            go_ret
            have hq := HBW.out.trans ((HB2.out.1.trans ((HB2.out.2.trans (HB5.out.mono HB2.out.2.size)).mono HB2.out.1.size)).mono HBW.out.size)
            exact ⟨ret_bool (by first | rfl | (rw [beq_iff_eq]; omega)), hq.trans (((below_drewN (Below.refl _ _) q).trans (hb6.mono (Nat.le_refl _))).mono hq.size)⟩

  · subst h
    have hc' : decide ((200 : Int) < (L : Int)) = false := by simp; omega
    have hL3 : (L : Int) ≤ 200 := by omega
    by_cases hz : L = 0
    · subst hz
      have hs1 := fun W : World => assign_any (w := W) (v := .slice (some ⟨w.heap.size, 0, none⟩) 0 0) (l := []) ⟨by simp, _, 0, rfl, fun j p hp => by simp at hp⟩
      have hs2 := fun (W : World) (b : Nat) => assign_any (w := W) (v := .slice (some ⟨b, 0, none⟩) 0 0) (l := []) ⟨by simp, _, 0, rfl, fun j p hp => by simp at hp⟩
      rw [flt0, slt0, cnt0] at hs1 hs2
      have HS1 := hide hs1
      have HS2 := hide hs2
      clear hs1 hs2 hE HC H16 HN
      go_enter Try.func6, Try.ntmps6
      go_wp2
      refine wp_loop_rounds 1 ?_
      rw [rounds_succ]
      go_wp2_with (first
        | (have kk := st1; clear kk; go_at_call 7; refine (HS2.out _ _).mono ?_; rintro e w3 ⟨⟨v3, rfl, HI3⟩, hb3⟩; obtain ⟨a3, c3, rfl⟩ := HI3.out.slice)
        | (go_at_call 7; refine (HS1.out _).mono ?_; rintro e w2 ⟨⟨v2, rfl, HI2⟩, hb2⟩; obtain ⟨a2, c2, rfl⟩ := HI2.out.slice; have st1 : True := trivial))
      refine wp_loop_rounds 1 ?_
      rw [rounds_succ]
      go_wp2_with (go_at_call 10; refine (HA.out _).mono ?_; rintro e w6 ⟨rfl, hb6⟩)
      go_ret
      have h1 := ((Below.refl w.heap.size w).alloc (Nat.le_refl _) (.cells #[] 37)).trans (hb2.mono (by simp))
      have h2 := h1.trans (((Below.refl w2.heap.size w2).alloc (Nat.le_refl _) (.cells #[] 37)).mono h1.size)
      have h3 := h2.trans (hb3.mono h2.size)
      exact ⟨rfl, h3.trans (hb6.mono h3.size)⟩
    go_enter Try.func6, Try.ntmps6
    go_wp2
    go_loopw [3, 4, 5] (fun vl va i wr => ∃ j : Nat, j ≤ L ∧ i = .int .i64 j ∧ va = .int .i64 (tot ns j) ∧ Hid (OwR w wr vl j (rcs (cT (tot ns) j)))) (fun _ _ i _ => L - (intOf i).toNat)
    case atStart => exact ⟨0, Nat.zero_le _, rfl, rfl, OwR.new w⟩
    case round =>
      obtain ⟨j, hj, rfl, rfl, HJ⟩ := hrel
      by_cases hlt : j < L
      · obtain ⟨x, hx⟩ : ∃ x, ns[j]? = some x := ⟨ns[j]'(by rw [HN.out]; exact hlt), by simp⟩
        have hx16 := H16.out x (List.mem_of_getElem? hx)
        obtain ⟨gb, ob, rfl, hg, c0⟩ := HC.out j x hx
        have htl := tot_le H16.out j
        have htn := tot_nn ns j
        have hts : tot ns (j + 1) = tot ns j + ((x : Int) + 1) := by simp only [tot]; rw [show ns.getD j 0 = x by simp [List.getD_eq_getElem?_getD, hx]]
        have hsn := cT_snoc (tot ns) j
        obtain ⟨b, hb⟩ : ∃ b, tot ns (j + 1) = b := ⟨_, rfl⟩
        have HB := hide hb
        obtain ⟨a, ha⟩ : ∃ a, tot ns j = a := ⟨_, rfl⟩
        rw [hb] at hts hsn
        rw [ha] at htl htn hts hsn ⊢
        have HS := hide hsn
        rw [← keep_cell HJ.out.b hg] at c0
        have bj : (j : Int) < (L : Int) := by omega
        have e0 : IntKind.i64.wrap (x : Int) = x := wrap_id (by omega) (by omega)
        have e1 : IntKind.i64.wrap ((x : Int) + 1) = (x : Int) + 1 := wrap_id (by omega) (by omega)
        have e2 : IntKind.i64.wrap (a + ((x : Int) + 1)) = b := by rw [wrap_id (by omega) (by omega)]; exact hts.symm
        obtain ⟨al, cl, hvl⟩ := row_form HJ.out.r
        subst hvl
        obtain ⟨g2, cap2, w3, hr, V3⟩ := HJ.out.push a b (by omega)
        have HV := hide (show OwR w w3 (.slice (some ⟨g2, 0, none⟩) (j + 1) cap2) (j + 1) (rcs (cT (tot ns) (j + 1))) by rw [HS.out, rcs_append]; exact V3)
        clear V3 hx HJ hsn hts hb ha htl htn hx16
        go_wp2_with (refine wpList_append_eq (by rfl) _ _ 22 (by rfl) (by rfl) (by rfl) hr ?_)
        go_roundw
        case rel => exact ⟨j + 1, by omega, by go_num, by rw [HB.out], HV⟩
        case measure => simp [intOf]; omega
      · obtain rfl : j = L := by omega
        obtain ⟨al, cl, hvl⟩ := row_form HJ.out.r
        subst hvl
        have hat := HJ.out.at (cT_len _ _) (by rw [cT_len]; omega)
        have HBW := hide HJ.out.b
        have hs := assign_any hat
        have HAT := hide hat
        clear hat HJ hlt hj
        rw [cT_flt (by omega), (one_slt ns (by omega)).1, (one_slt ns (by omega)).2, if_neg (by omega)] at hs
        go_upto_region 11 with (go_at_call 7; with_reducible refine hs.mono ?_; rintro e w2 ⟨⟨v2, rfl, HI2⟩, hb2⟩)
        clear hs
        obtain ⟨a2, c2, e2⟩ := HI2.out.slice
        rw [List.length_replicate] at e2
        subst e2
        obtain ⟨g3, c3, w3, hr1, V3, k3⟩ := (OwR.new w2).copy ((HAT.out.below hb2).below ((Below.refl w2.heap.size w2).alloc (Nat.le_refl _) (.cells #[] 37))) (cT_len _ _) (by omega) (by omega)
        rw [Nat.zero_add] at hr1 V3
        clear k3
        obtain ⟨g4, c4, w4, hr2, V4, k4⟩ := V3.copy ((HAT.out.below hb2).below V3.b) (cT_len _ _) (by omega) (by omega)
        clear k4
        rw [List.nil_append, ← rcs_append] at V4
        have hs2 := assign_any (V4.at (by rw [List.length_append, cT_len]) (by rw [List.length_append, cT_len]; omega))
        rw [dT_flt (by omega), (two_slt ns (by omega)).1, (two_slt ns (by omega)).2, if_neg (by omega)] at hs2
        have HS2 := hide hs2
        have HB2 := hide (And.intro hb2 V4.b)
        have HR1 := hide hr1
        have HR2 := hide hr2
        clear hs2 V3 V4 hb2 hr1 hr2
        go_wp2_with (first
          | (have kk := st2; clear kk; refine wpList_append_eq (by rfl) _ _ 22 (by rfl) (by rfl) (by rfl) HR2.out ?_)
          | (refine wpList_append_eq (by rfl) _ _ 22 (by rfl) (by rfl) (by rfl) HR1.out ?_; have st2 : True := trivial)
          | (go_at_call 7; with_reducible refine HS2.out.mono ?_; rintro e w5 ⟨⟨v5, rfl, HI5⟩, hb5⟩
             obtain ⟨a5, c5, e5⟩ := HI5.out.slice
             rw [List.length_append, List.length_replicate, List.length_replicate] at e5
             subst e5
             have HB5 := hide hb5
             clear hb5 HS2))
        go_loopw [15] (fun i wr => ∃ k q : Nat, k ≤ j ∧ i = .int .i64 k ∧ wr = w5.drewN q) (fun i _ => j - (intOf i).toNat)
        case atStart => exact ⟨0, 0, Nat.zero_le _, rfl, rfl⟩
        case round =>
          obtain ⟨k, q, hk, rfl, rfl⟩ := hrel
          by_cases hlt : k < j
          · have bk : (k : Int) < (j : Int) := by omega
            obtain ⟨ga, oa, rfl, hga, c0⟩ := ((HI2.out.below HB2.out.2).below HB5.out).cell (j := k) (x := 0) (rep_get hlt)
            obtain ⟨gb, ob, rfl, hgb, c1⟩ := HI5.out.cell (j := k) (x := 0) (by rw [List.getElem?_append_left (by rw [List.length_replicate]; exact hlt)]; exact rep_get hlt)
            obtain ⟨gb', ob', eb, hgb', c2⟩ := HI5.out.cell (j := j + k) (x := 1) (by rw [List.getElem?_append_right (by rw [List.length_replicate]; exact Nat.le_add_right _ _), List.length_replicate, Nat.add_sub_cancel_left]; exact rep_get hlt)
            cases eb
            have bk2 : ((j + k : Nat) : Int) < ((j + j : Nat) : Int) := by omega
            have e3 : IntKind.i64.wrap ((j : Int) + (k : Int)) = ((j + k : Nat) : Int) := by rw [wrap_id (by omega) (by omega)]; omega
            go_wp2
            go_quiet (fail)
            go_wp2
            go_roundw
            case rel => exact ⟨k + 1, q + nq, by omega, by go_num, rfl⟩
            case measure => simp [intOf]; omega
          · obtain rfl : k = j := by omega
            go_wp2_with (go_at_call 10; refine (HA.out _).mono ?_; rintro e w6 ⟨rfl, hb6⟩)
            go_ret
            have hq := HBW.out.trans ((HB2.out.1.trans ((HB2.out.2.trans (HB5.out.mono HB2.out.2.size)).mono HB2.out.1.size)).mono HBW.out.size)
            exact ⟨ret_bool (by first | rfl | (rw [beq_iff_eq]; omega)), hq.trans (((below_drewN (Below.refl _ _) q).trans (hb6.mono (Nat.le_refl _))).mono hq.size)⟩

end
end Go.Proofs.Ytmkeahfdbmfajaa
