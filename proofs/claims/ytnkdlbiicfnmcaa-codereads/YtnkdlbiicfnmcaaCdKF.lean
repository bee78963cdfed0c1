/- The reader's list: F. -/
import Derived.Test.YtnkdlbiicfnmcaaCdOF
namespace Go.Proofs.Ytnkdlbiicfnmcaa
open Go.RowKit
section
variable {B A : Nat} {w w' : World} {s : Rs} {g o : Nat} {c : Array Value} {t : TypeId}
set_option maxRecDepth 100000 in
set_option maxHeartbeats 2000000 in
theorem rlistF_any (L : Rl B A w s) (hl : s.rest.length ≤ MB) (hc : w.heap[g]? = some (.cells c t (0, 0))) (hg : B ≤ g) (hA : g ≠ A) (hco : c[o]? = some (.slice none 0 0)) (htT : t ≠ 58) (hwt : 48 ≠ t) (hti : 3 ∉ [71, t, 58]) (htj : 60 ∉ [71, t, 58]) :
    Calls Try.prog 35 #[.agg #[ri A], .pointer (some ⟨g, o, none⟩), .func (.func 36) #[.agg #[ri A]] #[]] w fun e w' => e = .returned (.tuple #[]) ∧ ∃ v, Rl B A w' (lstR fdR s).2 ∧ RowP 58 5 RFd 0 w' v (lstR fdR s).1 ∧ RPut A g o [v] w w' := by
  have hAl := L.lt
  have hBw : B ≤ w.heap.size := by have := L.1; omega
  have hgl := lt_of_block hc
  obtain ⟨W1, hW1⟩ : ∃ W1, w.alloc (.cells #[ri A] 48) = W1 := ⟨_, rfl⟩
  have hb : W1.heap[w.heap.size]? = some (.cells #[ri A] 48 (0, 0)) := by rw [← hW1]; exact heap_new _ _ rfl
  have z1 : W1.heap.size = w.heap.size + 1 := by rw [← hW1]; simp
  have cb : W1.cell? ⟨w.heap.size, 0, none⟩ = some (ri A) := cell_of hb rfl
  have F0 := hide (show Fr A w W1.drew from hW1 ▸ Fr.of_below (below_drew ((Below.refl _ _).alloc (Nat.le_refl _) _)))
  have L1 := hide (show Rl B A W1.drew s from hW1 ▸ (L.alloc _).drew)
  have hcg : W1.heap[g]? = some (.cells c t (0, 0)) := by rw [← hW1, Below.heap_alloc _ _ _ hgl]; exact hc
  have c1 : W1.cell? ⟨g, o, none⟩ = some (.slice none 0 0) := cell_of hcg hco
  have HCG := hide hcg
  have HC := hide hc
  have HG := hide hg
  have HA := hide hA
  have HCO := hide hco
  have HT := hide htT
  have HWT := hide hwt
  have HTI := hide hti
  have HTJ := hide htj
  have HB := hide hb
  have HZ := hide z1
  have HBW := hide hBw
  have HGL := hide hgl
  have HAL := hide hAl
  have HN := hide (rcount_any L1.out hl 0)
  have HE := hide (cntR_eats s)
  have HNL := hide (cntR_le s)
  have HL := hide hl
  have HW := hide (show lstR fdR s = loopR fdR (cntR s).1 (cntR s).2 from rfl)
  generalize (cntR s).1 = n at *
  generalize (cntR s).2 = s0 at *
  clear hb L hl hc hg hA hco htT hwt z1 hBw hgl hAl hcg hti htj
  go_enter Try.func35, Try.ntmps35
  go_wp2_with fail
  clear hW1
  go_region_held3 (fun W => W.cell? ⟨w.heap.size, 0, none⟩ = some (ri A) ∧ W.cell? ⟨g, o, none⟩ = some (.slice none 0 0)) (first | exact ⟨cb, c1⟩ | exact ⟨cb2, c2⟩ | go_keep) ((go_simp; go_upon; go_at_call 65; refine HN.out.mono ?_; rintro e w2 ⟨rfl, LX, FX⟩; have cb2 : w2.cell? ⟨w.heap.size, 0, none⟩ = some (ri A) := cell_of ((FX.block w.heap.size (show w.heap.size < W1.heap.size by rw [HZ.out]; omega) (by have := HAL.out; omega)).trans HB.out) rfl; have c2 : w2.cell? ⟨g, o, none⟩ = some (.slice none 0 0) := cell_of ((FX.block g (show g < W1.heap.size by have := HGL.out; rw [HZ.out]; omega) HA.out).trans HCG.out) HCO.out))
  have HLX := hide LX
  have HPX := hide ((F0.out.trans FX).put_same (o := o) (cs := [.slice none 0 0]) HC.out HA.out (fun r u hu => by
    cases r with
    | zero => simp at hu; subst hu; exact HCO.out
    | succ r => simp at hu))
  have HBX := hide ((FX.block w.heap.size (show w.heap.size < W1.heap.size by rw [HZ.out]; omega) (by have := HAL.out; omega)).trans HB.out)
  have HS0 := hide (show s0 = failS ∨ 0 + s0.rest.length ≤ MB by
    rcases HE.out with h | h
    · exact .inl h
    · exact .inr (by have := HL.out; omega))
  clear LX FX cb c1 cb2 c2 HN F0 L1 HB HE HCG
  go_wp2_with fail
  go_loopw [7] (fun a wr => RdR 58 5 RFd fdR B A g o w n s0 a wr) (fun a _ => n - (intOf a).toNat)
  case atStart => exact ⟨s0, [], .slice none 0 0, rfl, Nat.zero_le _, ⟨[], ⟨by simp, .inl ⟨rfl, rfl⟩⟩, fun j x h => by simp at h⟩, HLX.out, HPX.out, HBX.out, HS0.out, by simp⟩
  case round =>
    obtain ⟨s1, l, v, rfl, hln, hrow, hRl, hput, hbx, hs1, hlp⟩ := hrel
    obtain ⟨ci, ei1, ei2, ei3, _⟩ := hput.self _ _ HC.out
    have cb : wr.cell? ⟨w.heap.size, 0, none⟩ = some (ri A) := cell_of hbx rfl
    have c1 : wr.cell? ⟨g, o, none⟩ = some v := cell_of ei1 (by have := ei3 0 v rfl; simpa using this)
    have HGO := hide (rgoing_any hRl)
    have HROW := hide hrow
    have HRl := hide hRl
    have HPUT := hide hput
    have HBX2 := hide hbx
    have HS1 := hide hs1
    have HLP := hide hlp
    obtain ⟨xs0, hrow0, _⟩ := hrow
    obtain ⟨va, vc, hv⟩ := row_form hrow0
    subst hv
    clear hRl hput hbx hs1 hlp ei1 ei2 ei3 hrow0
    by_cases hlt : l.length < n
    · have d1 : decide ((l.length : Int) < (n : Int)) = true := by simp; omega
      have d2 : decide (l.length < n) = true := by simpa using hlt
      cases hbad : s1.bad with
      | true =>
        have HBD := hide hbad
        rw [hbad] at HGO
        clear hbad
        generalize hj : l.length = j at *
        have HJ := hide hj
        clear hj
        go_wp2_with fail
        refine HGO.out.mono ?_
        rintro e w3 ⟨rfl, rfl⟩
        go_wp2
        go_returns
        have h1 := HLP.out
        rw [loopR_bad fdR _ HBD.out, List.append_nil] at h1
        rw [HW.out, ← h1]
        exact ⟨rfl, _, HRl.out, HROW.out.base0, HPUT.out⟩
      | false =>
        rw [hbad] at HGO
        have HBD := hide hbad
        clear hbad
        have hs2 : l.length + s1.rest.length ≤ MB := by
          rcases HS1.out with h | h
          · have := HBD.out; rw [h] at this; cases this
          · exact h
        have HL8 := hide (show l.length ≤ 8000000 by simp only [MB] at hs2; omega)
        have HM1 := hide (show s1.rest.length ≤ MB by omega)
        have HEA := hide (fdR_eats s1)
        have HS2 := hide hs2
        clear hs2
        obtain ⟨i0, hi, hz0, hz1, hz2⟩ := info_parts Try.info58
        obtain ⟨W2, hW2⟩ : ∃ W2, wr.alloc (.cells #[.int .i64 0, .slice none 0 0, .slice none 0 0, .slice none 0 0, .slice none 0 0] 58) = W2 := ⟨_, rfl⟩
        have hz2' : W2.heap.size = wr.heap.size + 1 := by rw [← hW2]; simp
        have we0 : W2.cell? ⟨wr.heap.size, 0, none⟩ = some (.int .i64 0) := hW2 ▸ cell_of (heap_new _ _ rfl) rfl
        have we1 : W2.cell? ⟨wr.heap.size, 1, none⟩ = some (.slice none 0 0) := hW2 ▸ cell_of (heap_new _ _ rfl) rfl
        have we2 : W2.cell? ⟨wr.heap.size, 2, none⟩ = some (.slice none 0 0) := hW2 ▸ cell_of (heap_new _ _ rfl) rfl
        have we3 : W2.cell? ⟨wr.heap.size, 3, none⟩ = some (.slice none 0 0) := hW2 ▸ cell_of (heap_new _ _ rfl) rfl
        have we4 : W2.cell? ⟨wr.heap.size, 4, none⟩ = some (.slice none 0 0) := hW2 ▸ cell_of (heap_new _ _ rfl) rfl
        obtain ⟨W4, hW4⟩ : ∃ W4, W2.drew.alloc (.cells #[.int .i64 0, .slice none 0 0, .slice none 0 0, .slice none 0 0, .slice none 0 0] 58) = W4 := ⟨_, rfl⟩
        have HBel := hide (show Below wr.heap.size wr W4 from by rw [← hW4, ← hW2]; exact (below_drew ((Below.refl _ _).alloc (Nat.le_refl _) _)).alloc (by simp) _)
        have HBlk := hide (show W4.heap[W2.heap.size]? = some (.cells #[.int .i64 0, .slice none 0 0, .slice none 0 0, .slice none 0 0, .slice none 0 0] 58 (0, 0)) from by rw [← hW4]; exact heap_new _ _ rfl)
        have cw1 : W2.cell? ⟨g, o, none⟩ = some (.slice va l.length vc) := by rw [← hW2]; exact (World.cell?_of_block (a := ⟨g, o, none⟩) (Below.heap_alloc wr _ g (World.block_lt_of_cell? wr _ c1))).trans c1
        have cw2 : W4.cell? ⟨g, o, none⟩ = some (.slice va l.length vc) := by rw [← hW4]; exact (World.cell?_of_block (a := ⟨g, o, none⟩) (Below.heap_alloc W2.drew _ g (World.block_lt_of_cell? W2 _ cw1))).trans cw1
        have HZ2' := hide hz2'
        clear hz2'
        obtain ⟨g', cap, w3, hrun, k0, k1, k2, L3, k3, hBg, hg'A, hcap, ⟨cur, hcur, hcs, hzs⟩, NEXT⟩ := grow_step (T := 58) (k := 5) (st := 23) (t := t) (P := RFd) (rfd_keep HTI.out HTJ.out) Try.underlying23 hi hz0 hz1 hz2 rfl (by decide) (by decide) (by simp [Value.oneCell', Value.cells]) HROW.out HRl.out HPUT.out HC.out HG.out HA.out HBX2.out HT.out (by decide) (by decide) HWT.out HBel.out HBlk.out HL8.out 23 HBW.out
        have HIT := hide (show RItem 5 RFd fdR 36 (fun p => #[.agg #[ri A], p]) B A g' (l.length * 5) _ s1 from ritem_F L3 HM1.out hcur hBg hg'A (by omega) (fun r u hu => hzs r u hu))
        unfold RItem at HIT
        have HRUN := hide hrun
        have HNX := hide NEXT
        have hcap' : (l.length : Int) + 1 ≤ (cap : Int) := by omega
        clear hrun L3 hcur hcs hzs NEXT hBg hg'A hcap hi hz0 hz1 hz2
        have hln2 : (l.length : Int) < (l.length : Int) + 1 := by omega
        generalize hj : l.length = j at *
        have HJ := hide hj
        clear hj
        go_wp2_with fail
        refine HGO.out.mono ?_
        rintro e w5 ⟨rfl, rfl⟩
        go_wp2_with fail
        clear hW2
        go_region_law (refine step_append_eq (by rfl) _ _ 23 23 (by rfl) (by rfl) (by rfl) HRUN.out ?_)
        all_goals (
        have HPX3 := hide k3
        generalize hW5 : w3.setCell ⟨g, o, none⟩ (.slice (some ⟨g', 0, none⟩) (j + 1) cap) = W5 at *
        clear hW5
        go_wp2_with fail
        refine HIT.out.mono ?_
        rintro e w4 ⟨rfl, cs, hcl, hR4, hP4, hput4⟩
        have HR4 := hide hR4
        have HN4 := hide (HNX.out w4 _ cs hcl hput4 hP4)
        clear hcl hR4 hP4 hput4 HIT HNX
        go_wp2
        go_roundw
        case rel =>
          refine ⟨(fdR s1).2, l ++ [(fdR s1).1], _, ?_, ?_, HN4.out.1, HR4.out, HN4.out.2.1, HN4.out.2.2, ?_, ?_⟩
          · rw [List.length_append, List.length_singleton, HJ.out]; exact num_next hlt HNL.out
          · rw [List.length_append, List.length_singleton, HJ.out]; exact hlt
          · rw [List.length_append, List.length_singleton, HJ.out]
            rcases HEA.out with h | h
            · exact .inl h
            · exact .inr (by have := HS2.out; omega)
          · have h1 := HLP.out
            rw [show n - j = n - (j + 1) + 1 by omega, loopR_next fdR HBD.out] at h1
            rw [List.length_append, List.length_singleton, HJ.out, List.append_assoc]
            exact h1
        case measure => exact meas_int hlt HNL.out)
    · obtain rfl : n = l.length := by omega
      have d1 : decide ((l.length : Int) < (l.length : Int)) = false := by simp
      have d2 : decide (l.length < l.length) = false := by simp
      have HFIN := hide (show (l, s1) = loopR fdR l.length s0 by have := HLP.out; rwa [Nat.sub_self, loopR, List.append_nil] at this)
      generalize hj : l.length = j at *
      have HJ := hide hj
      clear hj
      go_wp2
      go_returns
      rw [HW.out, ← HFIN.out]
      exact ⟨rfl, _, HRl.out, HROW.out.base0, HPUT.out⟩
end
end Go.Proofs.Ytnkdlbiicfnmcaa
