/- The document's Assign of ranges. -/
import Derived.Test.YtmkeahfdbmfajaaSyC
namespace Go.Proofs.Ytmkeahfdbmfajaa
open Go.RowKit
/-- What lies in memory while the document gives slots away. -/
structure Ra (w wr : World) (g o : Nat) (vt : Value) (l : List Rg) (un sl : List Int) : Prop where
  t : Ow w wr vt un
  hg : w.heap.size ≤ g
  s : wr.heap[g]? = some (.cells (ints sl).toArray 3 (0, 0))
  tg : vt.ownBlock ≠ some g
  tno : vt.ownBlock ≠ some o
  og : o ≠ g
  r : ∀ (j a : Nat), (ordP l)[j]? = some a → wr.cell? ⟨o, j, none⟩ = some (.int .i64 a)
  ol : o < wr.heap.size
section
variable {w wr w' : World} {g o : Nat} {vt : Value} {l : List Rg} {un sl : List Int}
theorem Ra.under (V : Ra w wr g o vt l un sl) (h : Below wr.heap.size wr w') : Ra w w' g o vt l un sl := by
  obtain ⟨h1, h2, h3, h4, h5, h6, h7, h8⟩ := V
  exact ⟨h1.under h, h2, (h.block _ (lt_of_block h3)).trans h3, h4, h5, h6, fun j a ha => by rw [← h7 j a ha]; exact World.cell?_of_block (a := ⟨o, j, none⟩) (h.block _ h8), Nat.lt_of_lt_of_le h8 h.size⟩
theorem Ra.push (V : Ra w wr g o vt l un sl) (x : Int) (hl : un.length ≤ 100000) : ∃ g2 cap w', (Builtin.append_ #[23, 23] 23 #[vt, .slice (some ⟨wr.heap.size, 0, none⟩) 1 1]).run Try.prog (wr.alloc (.cells #[.int .i64 x] 3)) = .ok (.slice (some ⟨g2, 0, none⟩) (un.length + 1) cap) w' ∧ Ra w w' g o (.slice (some ⟨g2, 0, none⟩) (un.length + 1) cap) l (un ++ [x]) sl ∧ ∀ b, b < wr.heap.size → vt.ownBlock ≠ some b → w'.heap[b]? = wr.heap[b]? := by
  have hB1 := (Below.refl wr.heap.size wr).alloc (Nat.le_refl _) (.cells #[.int .i64 x] 3)
  have U := V.under hB1
  obtain ⟨g2, cap, w3, hr, hown, hgrow, hat, _⟩ := run_appI (x := x) U.t.r (heap_new wr (.cells #[.int .i64 x] 3) rfl) (by omega) (Nat.le_trans V.t.b.size hB1.size)
  have hk : ∀ b, b < wr.heap.size → vt.ownBlock ≠ some b → w3.heap[b]? = wr.heap[b]? := fun b hb hne => (hgrow.block b (Nat.lt_of_lt_of_le hb hB1.size) hne.symm).trans (hB1.block b hb)
  refine ⟨g2, cap, w3, hr, ⟨⟨?_, ?_⟩, V.hg, ?_, ?_, ?_, V.og, fun j a ha => ?_, ?_⟩, hk⟩
  · have e2 : ints (un ++ [x]) = ints un ++ [.int .i64 x] := by simp [ints]
    rw [e2]
    simp only [List.length_append, List.length_cons, List.length_nil]
    exact hown
  · refine ⟨hgrow.os.trans U.t.b.os, hgrow.tape.trans U.t.b.tape, hgrow.output.trans U.t.b.output, Nat.le_trans U.t.b.size hgrow.size, fun j hj => ?_⟩
    exact (hgrow.block j (Nat.lt_of_lt_of_le hj U.t.b.size) (fun e => by have := (U.t.r.lt j e.symm).1; omega)).trans (U.t.b.block j hj)
  · rw [hk g (lt_of_block V.s) V.tg]; exact V.s
  · intro e
    simp only [Value.ownBlock, Option.some.injEq] at e
    subst e
    rcases hat with h | h
    · exact V.tg h
    · have := lt_of_block V.s; have := hB1.size; omega
  · intro e
    simp only [Value.ownBlock, Option.some.injEq] at e
    subst e
    rcases hat with h | h
    · exact V.tno h
    · have := V.ol; have := hB1.size; omega
  · rw [← V.r j a ha]
    exact World.cell?_of_block (a := ⟨o, j, none⟩) (hk o V.ol V.tno)
  · exact Nat.lt_of_lt_of_le V.ol (Nat.le_trans hB1.size hgrow.size)
theorem Ra.setT {gt m c : Nat} (V : Ra w wr g o (.slice (some ⟨gt, 0, none⟩) m c) l un sl) (hm : un.length = m) {s : Nat} {x : Int} (hs : un[s]? = some x) (y : Int) : wr.cell? ⟨gt, s, none⟩ = some (.int .i64 x) ∧ wr.frozen? ⟨gt, s, none⟩ = false ∧ gt < wr.heap.size ∧ Ra w (wr.setCell ⟨gt, s, none⟩ (.int .i64 y)) g o (.slice (some ⟨gt, 0, none⟩) m c) l (un.set s y) sl := by
  subst hm
  have h := V.t.r
  obtain ⟨g1, cap1, e1, c1, z1, lg, b1, hlo⟩ := row_int h hs
  cases e1
  have hg1 : g ≠ gt := fun e => V.tg (by rw [e]; rfl)
  have ho1 : o ≠ gt := fun e => V.tno (by rw [e]; rfl)
  refine ⟨c1, z1, lg, ⟨⟨?_, Kp.below (Nat.le_refl _) V.t.b (Kp.setCell _ _ _) (fun j hj => by omega)⟩, V.hg, ?_, V.tg, V.tno, V.og, fun j a ha => ?_, by simpa using V.ol⟩⟩
  · rw [ints_set, List.length_set]
    exact row_set _ h b1
  · rw [Below.heap_setCell _ _ _ _ (by simpa using hg1)]; exact V.s
  · rw [← V.r j a ha]
    exact World.cell?_of_block (a := ⟨o, j, none⟩) (Below.heap_setCell _ _ _ _ (by simpa using ho1))
theorem Ra.setS (V : Ra w wr g o vt l un sl) {a : Nat} {x : Int} (ha : sl[a]? = some x) (y : Int) : wr.cell? ⟨g, a, none⟩ = some (.int .i64 x) ∧ wr.frozen? ⟨g, a, none⟩ = false ∧ Ra w (wr.setCell ⟨g, a, none⟩ (.int .i64 y)) g o vt l un (sl.set a y) := by
  refine ⟨cell_of V.s (by rw [List.getElem?_toArray]; exact ints_get ha), fz_of _ V.s, ⟨⟨ownsRow_keep V.t.r fun b hb => Below.heap_setCell _ _ _ _ ?_, Kp.below (Nat.le_refl _) V.t.b (Kp.setCell _ _ _) (fun j hj => by have := V.hg; omega)⟩, V.hg, ?_, V.tg, V.tno, V.og, fun j b hb => ?_, by simpa using V.ol⟩⟩
  · show b ≠ g
    intro e
    exact V.tg (by rw [hb, e])
  · rw [heap_setCell_same _ _ _ _ V.s, ints_set, List.setIfInBounds_toArray]
  · rw [← V.r j b hb]
    exact World.cell?_of_block (a := ⟨o, j, none⟩) (Below.heap_setCell _ _ _ _ (by simpa using V.og))
theorem gv_old {s : Nat} (e : Int) (h : s < un.length) : un.set s e = gv un s e := by unfold gv; rw [if_pos h]
theorem gv_new (e : Int) : (un ++ [0]).set un.length e = gv un un.length e := by
  unfold gv
  rw [if_neg (Nat.lt_irrefl _), List.set_append_right _ _ (Nat.le_refl _), Nat.sub_self]
  rfl
theorem lst_not {t : Int} {s : Nat} (h : s < lst un t) : t < un.getD s 0 := by
  have hl := lst_le un t
  have := List.not_of_lt_findIdx (p := fun x => decide (x ≤ t)) (xs := un) h
  rw [List.getD_eq_getElem?_getD, List.getElem?_eq_getElem (by omega), Option.getD_some]
  simpa using this
end
section
variable {w : World}
set_option maxRecDepth 20000 in
set_option maxHeartbeats 4000000 in
theorem rassign_any {v : Value} {l : List Rg} (R : RgsAt w v l) (hl : l.length ≤ 20000) : Calls Try.prog 11 #[v] w fun e w' => (∃ vs, e = .returned (.tuple #[vs, .int .i64 ((asgP l).1.length : Nat)]) ∧ Hid (IntsAt w' vs (asgP l).2)) ∧ Below w.heap.size w w' := by
  have HR := hide R
  obtain ⟨ao, cap, rfl⟩ := R.slice
  obtain ⟨n, hn⟩ : ∃ n, l.length = n := ⟨_, rfl⟩
  have HN := hide hn
  rw [hn] at hl HR ⊢
  obtain ⟨cn, hcn⟩ : ∃ cn, (asgP l).1.length = cn := ⟨_, rfl⟩
  have HC := hide hcn
  rw [hcn]
  clear R hn hcn
  have hmk := fun W : World => run_ints W n (by omega)
  have hn2 : (n : Int) ≤ 20000 := by omega
  have HB0 := hide (((Below.refl w.heap.size w).alloc (Nat.le_refl _) (.cells (reps n (.int .i64 0)) 3)).alloc (by simp) (.cells #[] 3))
  go_enter Try.func11, Try.ntmps11
  go_wp2_with (go_at_call 20
               have hro := rorder_any (HR.out.below HB0.out) (by rw [HN.out]; exact hl)
               rw [HN.out] at hro
               refine hro.mono ?_
               rintro e w1 ⟨o, co, rfl, HO⟩
               clear hro hmk)
  go_loopw [5, 7] (fun vt i wr => ∃ j : Nat, j ≤ n ∧ i = .int .i64 j ∧ Hid (∃ gt c, vt = .slice (some ⟨gt, 0, none⟩) (runP l ((ordP l).take j)).1.length c ∧ Ra w wr w.heap.size o vt l (runP l ((ordP l).take j)).1 (runP l ((ordP l).take j)).2)) (fun _ i _ => n - (intOf i).toNat)
  case atStart =>
    have hz : ((w.alloc (.cells (reps n (.int .i64 0)) 3)).alloc (.cells #[] 3)).heap.size = w.heap.size + 2 := by simp
    have hb1 := HO.out.b
    have hlo := HO.out.r.lt o rfl
    rw [hz] at hb1 hlo
    have e0 : runP l ((ordP l).take 0) = ([], List.replicate n 0) := by rw [List.take_zero, ← HN.out]; rfl
    refine ⟨0, Nat.zero_le _, rfl, ?_⟩
    rw [e0]
    refine ⟨w.heap.size + 1, 0, by simp, ⟨?_, HB0.out.trans (hb1.mono (by omega))⟩, Nat.le_refl _, ?_, ?_, ?_, ?_, fun j a ha => ?_, hlo.2⟩
    · have hg1 : w1.heap[w.heap.size + 1]? = some (.cells #[] 3 (0, 0)) := by
        rw [hb1.block _ (by omega)]
        exact heap_new _ _ (by simp)
      exact ⟨rfl, .inr ⟨w.heap.size + 1, 0, #[], by simp, by omega, hg1, Nat.le_refl _, by simp, rfl, rfl⟩⟩
    · rw [hb1.block _ (by omega), heap_under _ _ (by simp)]
      have e2 : (ints (List.replicate n 0)).toArray = reps n (.int .i64 0) := by unfold ints reps; rw [List.map_replicate]
      rw [e2]
      exact heap_new _ _ rfl
    · intro e; simp [Value.ownBlock] at e
    · intro e; simp [Value.ownBlock] at e; omega
    · omega
    · obtain ⟨g', c', e1, c1, _⟩ := row_int HO.out.r (zs_at ha)
      cases e1
      exact c1
  case round =>
    obtain ⟨j, hj, rfl, HJ⟩ := hrel
    by_cases hlt : j < n
    · obtain ⟨gt, c, hvt, V⟩ := HJ.out
      obtain ⟨a, ha⟩ : ∃ a, (ordP l)[j]? = some a := ⟨(ordP l)[j]'(by rw [ordP_len, HN.out]; exact hlt), by simp⟩
      have hal := ordP_lt (List.mem_of_getElem? ha)
      obtain ⟨p, hp⟩ : ∃ p, l[a]? = some p := ⟨l[a], by simp⟩
      have hstep := run_take ha
      rw [kf_get hp, kt_get hp] at hstep
      have hsl : (runP l ((ordP l).take j)).2.length = n := by rw [runP_len]; exact HN.out
      have hul : (runP l ((ordP l).take j)).1.length ≤ 20000 := Nat.le_trans (runP_un _ _) (by rw [List.length_take]; omega)
      obtain ⟨un, hun⟩ : ∃ un, (runP l ((ordP l).take j)).1 = un := ⟨_, rfl⟩
      obtain ⟨sl, hsl2⟩ : ∃ sl, (runP l ((ordP l).take j)).2 = sl := ⟨_, rfl⟩
      rw [hun, hsl2] at hstep V
      rw [hun] at hul hvt
      rw [hsl2] at hsl
      have HST := hide hstep
      subst hvt
      obtain ⟨ga, oa, rfl, hga, c0, c1⟩ := (HR.out.below V.t.b).cell hp
      have co := V.r j a ha
      have ba : (a : Int) < (n : Int) := by rw [← HN.out]; omega
      have bj : (j : Int) < (n : Int) := by omega
      have HV := hide V
      have HA := hide (And.intro ha (And.intro hsl hul))
      clear V HJ hstep hun hsl2 ha hp hal hsl
      obtain ⟨m, hm⟩ : ∃ m, un.length = m := ⟨_, rfl⟩
      have HM := hide hm
      rw [hm] at HV hul ⊢
      clear hm
      go_upto_region 9 with fail
      obtain ⟨b, hb⟩ : ∃ b, wr.heap.size = b := ⟨_, rfl⟩
      obtain ⟨W, hW⟩ : ∃ W, wr.alloc (.cells #[.int .i64 p.fr, .int .i64 p.en] 37) = W := ⟨_, rfl⟩
      have VW := HV.out.under ((Below.refl wr.heap.size wr).alloc (Nat.le_refl _) (.cells #[.int .i64 p.fr, .int .i64 p.en] 37))
      have hbx := heap_new wr (.cells #[.int .i64 p.fr, .int .i64 p.en] 37) rfl
      have hgb := (HV.out.t.r.lt gt rfl).2
      rw [hW] at VW hbx
      rw [hb] at hbx hgb
      rw [hb, hW]
      have HW := hide (And.intro VW (And.intro hbx hgb))
      clear VW hbx hgb hW hb HV co c0 c1
      go_loopw [9] (fun k wi => ∃ s q : Nat, s ≤ lst un p.fr ∧ k = .int .i64 s ∧ wi = W.drewN q) (fun k _ => lst un p.fr - (intOf k).toNat)
      case atStart => exact ⟨0, 0, Nat.zero_le _, rfl, rfl⟩
      case round =>
        obtain ⟨s, q, hs, rfl, rfl⟩ := hrel
        have hll := lst_le un p.fr
        rw [HM.out] at hll
        have d0 := cell_of (o := 0) HW.out.2.1 rfl
        have bl := lt_of_block HW.out.2.1
        by_cases hsl : s < lst un p.fr
        · have hx := lst_not hsl
          obtain ⟨x, hx2⟩ : ∃ x, un[s]? = some x := ⟨un[s]'(by rw [HM.out]; omega), by simp⟩
          rw [show un.getD s 0 = x by simp [List.getD_eq_getElem?_getD, hx2]] at hx
          obtain ⟨ct, _, lt, _⟩ := HW.out.1.setT HM.out hx2 0
          have bs : (s : Int) < (m : Int) := by omega
          clear hx2
          go_wp2
          go_quiet (fail)
          go_wp2
          go_roundw
          case rel => exact ⟨s + 1, q + nq, by omega, by go_num, rfl⟩
          case measure => simp [intOf]; omega
        · have hse : lst un p.fr = s := by omega
          have HSE := hide hse
          by_cases hsm : s < m
          · obtain ⟨x, hx2⟩ : ∃ x, un[s]? = some x := ⟨un[s]'(by rw [HM.out]; omega), by simp⟩
            have hx := lst_hit (un := un) (t := p.fr) (by rw [hse, HM.out]; exact hsm)
            rw [hse, show un.getD s 0 = x by simp [List.getD_eq_getElem?_getD, hx2]] at hx
            obtain ⟨ct, _, lt, _⟩ := HW.out.1.setT HM.out hx2 0
            have hxx : decide (p.fr < x) = false := by simp only [decide_eq_false_iff_not]; omega
            have bs : (s : Int) < (m : Int) := by omega
            have HX := hide hx2
            have HSM := hide hsm
            have hsm2 : ((s : Int) == (m : Int)) = false := by simp; omega
            clear hx2 hx hse hsl hs
            go_wp2
            go_quiet (fail)
            obtain ⟨W2, hW2⟩ : ∃ W2, (W.drewN q).drewN nq = W2 := ⟨_, rfl⟩
            have hB2 : Below W.heap.size W W2 := by rw [← hW2]; exact below_drewN (below_drewN (Below.refl _ _) _) _
            rw [hW2]
            have VW2 := HW.out.1.under hB2
            have d1 := cell_of (o := 1) ((hB2.block _ bl).trans HW.out.2.1) rfl
            have bl2 : b < W2.heap.size := Nat.lt_of_lt_of_le bl hB2.size
            obtain ⟨t1, t2, t3, V3⟩ := VW2.setT HM.out HX.out p.en
            have k1 := V3.r j a HA.out.1
            have lo := V3.ol
            obtain ⟨xs, hxs⟩ : ∃ xs, sl[a]? = some xs := ⟨sl[a]'(by rw [HA.out.2.1]; omega), by simp⟩
            obtain ⟨s1, s2, V4⟩ := V3.setS hxs (s : Int)
            have ls := lt_of_block V3.s
            rw [gv_old p.en (by rw [HM.out]; exact HSM.out)] at V4
            have HV4 := hide V4
            clear V4 V3 VW2 hB2 hW2 hxs d0 ct lt
            go_wp2_with fail
            go_roundw
            case rel => exact ⟨j + 1, by omega, by go_num, gt, c, by rw [HST.out, HSE.out]; show _ = Value.slice _ (gv un s p.en).length _; rw [gv_len, HM.out, if_pos HSM.out], by rw [HST.out, HSE.out]; exact HV4.out⟩
            case measure => simp [intOf]; omega
          · have hsm3 : s = m := by omega
            subst hsm3
            have hbs : decide ((s : Int) < (s : Int)) = false := by simp
            clear hse hsl hs
            go_wp2
            go_quiet (fail)
            obtain ⟨W2, hW2⟩ : ∃ W2, (W.drewN q).drewN nq = W2 := ⟨_, rfl⟩
            have hB2 : Below W.heap.size W W2 := by rw [← hW2]; exact below_drewN (below_drewN (Below.refl _ _) _) _
            rw [hW2]
            have VW2 := HW.out.1.under hB2
            have bx2 := (hB2.block _ bl).trans HW.out.2.1
            obtain ⟨g3, c3, w3, hr, V3, k3⟩ := VW2.push 0 (by rw [HM.out]; omega)
            rw [HM.out] at hr V3
            have bx3 := (k3 b (lt_of_block bx2) (by have := HW.out.2.2; simp only [Value.ownBlock, ne_eq, Option.some.injEq]; omega)).trans bx2
            have d1 := cell_of (o := 1) bx3 rfl
            have bl3 := lt_of_block bx3
            have hlen : (un ++ [0]).length = s + 1 := by rw [List.length_append, HM.out]; rfl
            obtain ⟨t1, t2, t3, V4⟩ := V3.setT hlen (s := s) (x := 0) (by rw [List.getElem?_append_right (by rw [HM.out]; exact Nat.le_refl _), HM.out, Nat.sub_self]; rfl) p.en
            have k1 := V4.r j a HA.out.1
            have lo := V4.ol
            obtain ⟨xs, hxs⟩ : ∃ xs, sl[a]? = some xs := ⟨sl[a]'(by rw [HA.out.2.1]; omega), by simp⟩
            obtain ⟨s1, s2, V5⟩ := V4.setS hxs (s : Int)
            have ls := lt_of_block V4.s
            have hgn := gv_new (un := un) p.en
            rw [HM.out] at hgn
            rw [hgn] at V5
            have HV5 := hide V5
            have HRUN := hide hr
            have bs1 : (s : Int) < ((s + 1 : Nat) : Int) := by omega
            clear V5 V4 V3 VW2 hB2 hW2 hxs d0 hgn hr k3 bx2 bx3
            go_wp2_with (refine wpList_append_eq (by rfl) _ _ 23 (by rfl) (by rfl) (by rfl) HRUN.out ?_)
            go_roundw
            case rel => exact ⟨j + 1, by omega, by go_num, g3, c3, by rw [HST.out, HSE.out]; show _ = Value.slice _ (gv un s p.en).length _; rw [gv_len, HM.out, if_neg (Nat.lt_irrefl _)], by rw [HST.out, HSE.out]; exact HV5.out⟩
            case measure => simp [intOf]; omega
    · obtain rfl : j = n := by omega
      have ht : (ordP l).take j = ordP l := List.take_of_length_le (by rw [ordP_len, HN.out]; exact Nat.le_refl _)
      rw [ht] at HJ
      obtain ⟨gt, c, hvt, V⟩ := HJ.out
      subst hvt
      have hlen : (runP l (ordP l)).1.length = cn := HC.out
      rw [hlen]
      have HF := hide (And.intro V.s V.t.b)
      clear V HJ
      go_wp2
      go_returns
      refine ⟨⟨.slice (some ⟨w.heap.size, 0, none⟩) j j, rfl, ?_⟩, HF.out.2⟩
      have hl2 : (asgP l).2.length = j := by rw [← HN.out]; exact runP_len _ _
      refine ⟨some ⟨w.heap.size, 0, none⟩, j, by rw [hl2], by omega, fun i x hx => ⟨w.heap.size, 0, rfl, lt_of_block HF.out.1, ?_⟩⟩
      rw [Nat.zero_add]
      exact cell_of HF.out.1 (by rw [List.getElem?_toArray]; exact ints_get hx)
end
end Go.Proofs.Ytmkeahfdbmfajaa
