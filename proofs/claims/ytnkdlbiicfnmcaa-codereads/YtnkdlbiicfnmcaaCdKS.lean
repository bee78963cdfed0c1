/- The reader's list: S. -/
import Derived.Test.YtnkdlbiicfnmcaaCdR4
namespace Go.Proofs.Ytnkdlbiicfnmcaa
open Go.RowKit
section
variable {B A : Nat} {w w' : World} {s : Rs} {g o : Nat} {c : Array Value} {t : TypeId}
set_option maxRecDepth 100000 in
set_option maxHeartbeats 2000000 in
theorem rlistS_any (L : Rl B A w s) (hl : s.rest.length ≤ MB) (hc : w.heap[g]? = some (.cells c t (0, 0))) (hg : B ≤ g) (hA : g ≠ A) (hco : c[o]? = some (.slice none 0 0)) (htT : t ≠ 9) (hwt : 48 ≠ t) :
    Calls Try.prog 39 #[.agg #[ri A], .pointer (some ⟨g, o, none⟩), .func (.method "halyard/code.text") #[ri A] #[]] w fun e w' => e = .returned (.tuple #[]) ∧ ∃ v, Rl B A w' (lstR strR s).2 ∧ RowP 9 1 StrP 0 w' v (lstR strR s).1 ∧ RPut A g o [v] w w' := by
  have hAl := L.lt
  have hBw : B ≤ w.heap.size := by have := L.1; omega
  have hgl := lt_of_block hc
  obtain ⟨W1, hW1⟩ : ∃ W1, w.alloc (.cells #[ri A] 48) = W1 := ⟨_, rfl⟩
  have hb : W1.heap[w.heap.size]? = some (.cells #[ri A] 48 (0, 0)) := by rw [← hW1]; exact heap_new _ _ rfl
  have z1 : W1.heap.size = w.heap.size + 1 := by rw [← hW1]; simp
  have cb : W1.cell? ⟨w.heap.size, 0, none⟩ = some (ri A) := cell_of hb rfl
  have F0 := hide (show Fr A w W1.drew from hW1 ▸ Fr.of_below (below_drew ((Below.refl _ _).alloc (Nat.le_refl _) _)))
  have L1 := hide (show Rl B A W1.drew s from hW1 ▸ (L.alloc _).drew)
  have hcg : W1.heap[g]? = some (.cells c t (0, 0)) := by rw [← hW1, Below.heap_alloc _ _ _ hgl]; exact hc
  have c1 : W1.cell? ⟨g, o, none⟩ = some (.slice none 0 0) := cell_of hcg hco
  have HCG := hide hcg
  have HC := hide hc
  have HG := hide hg
  have HA := hide hA
  have HCO := hide hco
  have HT := hide htT
  have HWT := hide hwt
  have HB := hide hb
  have HZ := hide z1
  have HBW := hide hBw
  have HGL := hide hgl
  have HAL := hide hAl
  have HN := hide (rcount_any L1.out hl 0)
  have HE := hide (cntR_eats s)
  have HNL := hide (cntR_le s)
  have HL := hide hl
  have HW := hide (show lstR strR s = loopR strR (cntR s).1 (cntR s).2 from rfl)
  generalize (cntR s).1 = n at *
  generalize (cntR s).2 = s0 at *
  clear hb L hl hc hg hA hco htT hwt z1 hBw hgl hAl hcg
  go_enter Try.func39, Try.ntmps39
  go_wp2_with fail
  clear hW1
  go_region_held3 (fun W => W.cell? ⟨w.heap.size, 0, none⟩ = some (ri A) ∧ W.cell? ⟨g, o, none⟩ = some (.slice none 0 0)) (first | exact ⟨cb, c1⟩ | exact ⟨cb2, c2⟩ | go_keep) ((go_simp; go_upon; go_at_call 65; refine HN.out.mono ?_; rintro e w2 ⟨rfl, LX, FX⟩; have cb2 : w2.cell? ⟨w.heap.size, 0, none⟩ = some (ri A) := cell_of ((FX.block w.heap.size (show w.heap.size < W1.heap.size by rw [HZ.out]; omega) (by have := HAL.out; omega)).trans HB.out) rfl; have c2 : w2.cell? ⟨g, o, none⟩ = some (.slice none 0 0) := cell_of ((FX.block g (show g < W1.heap.size by have := HGL.out; rw [HZ.out]; omega) HA.out).trans HCG.out) HCO.out))
  have HLX := hide LX
  have HPX := hide ((F0.out.trans FX).put_same (o := o) (cs := [.slice none 0 0]) HC.out HA.out (fun r u hu => by
    cases r with
    | zero => simp at hu; subst hu; exact HCO.out
    | succ r => simp at hu))
  have HBX := hide ((FX.block w.heap.size (show w.heap.size < W1.heap.size by rw [HZ.out]; omega) (by have := HAL.out; omega)).trans HB.out)
  have HS0 := hide (show s0 = failS ∨ 0 + s0.rest.length ≤ MB by
    rcases HE.out with h | h
    · exact .inl h
    · exact .inr (by have := HL.out; omega))
  clear LX FX cb c1 cb2 c2 HN F0 L1 HB HE HCG
  go_wp2_with fail
  go_loopw [7] (fun a wr => RdR 9 1 StrP strR B A g o w n s0 a wr) (fun a _ => n - (intOf a).toNat)
  case atStart => exact ⟨s0, [], .slice none 0 0, rfl, Nat.zero_le _, ⟨[], ⟨by simp, .inl ⟨rfl, rfl⟩⟩, fun j x h => by simp at h⟩, HLX.out, HPX.out, HBX.out, HS0.out, by simp⟩
  case round =>
    obtain ⟨s1, l, v, rfl, hln, hrow, hRl, hput, hbx, hs1, hlp⟩ := hrel
    obtain ⟨ci, ei1, ei2, ei3, _⟩ := hput.self _ _ HC.out
    have cb : wr.cell? ⟨w.heap.size, 0, none⟩ = some (ri A) := cell_of hbx rfl
    have c1 : wr.cell? ⟨g, o, none⟩ = some v := cell_of ei1 (by have := ei3 0 v rfl; simpa using this)
    have HGO := hide (rgoing_any hRl)
    have HROW := hide hrow
    have HRl := hide hRl
    have HPUT := hide hput
    have HBX2 := hide hbx
    have HS1 := hide hs1
    have HLP := hide hlp
    obtain ⟨xs0, hrow0, _⟩ := hrow
    obtain ⟨va, vc, hv⟩ := row_form hrow0
    subst hv
    clear hRl hput hbx hs1 hlp ei1 ei2 ei3 hrow0
    by_cases hlt : l.length < n
    · have d1 : decide ((l.length : Int) < (n : Int)) = true := by simp; omega
      have d2 : decide (l.length < n) = true := by simpa using hlt
      cases hbad : s1.bad with
      | true =>
        have HBD := hide hbad
        rw [hbad] at HGO
        clear hbad
        generalize hj : l.length = j at *
        have HJ := hide hj
        clear hj
        go_wp2_with fail
        refine HGO.out.mono ?_
        rintro e w3 ⟨rfl, rfl⟩
        go_wp2
        go_returns
        have h1 := HLP.out
        rw [loopR_bad strR _ HBD.out, List.append_nil] at h1
        rw [HW.out, ← h1]
        exact ⟨rfl, _, HRl.out, HROW.out.base0, HPUT.out⟩
      | false =>
        rw [hbad] at HGO
        have HBD := hide hbad
        clear hbad
        have hs2 : l.length + s1.rest.length ≤ MB := by
          rcases HS1.out with h | h
          · have := HBD.out; rw [h] at this; cases this
          · exact h
        have HL8 := hide (show l.length ≤ 8000000 by simp only [MB] at hs2; omega)
        have HM1 := hide (show s1.rest.length ≤ MB by omega)
        have HEA := hide (strR_eats s1)
        have HS2 := hide hs2
        clear hs2
        obtain ⟨i0, hi, hz0, hz1, hz2⟩ := info_parts Try.info9
        have HBel := hide (show Below wr.heap.size wr (wr.alloc (.cells #[.string ⟨#[]⟩] 9)) from (Below.refl _ _).alloc (Nat.le_refl _) _)
        have HBlk := hide (show (wr.alloc (.cells #[.string ⟨#[]⟩] 9)).heap[wr.heap.size]? = some (.cells #[.string ⟨#[]⟩] 9 (0, 0)) from heap_new _ _ rfl)
        obtain ⟨g', cap, w3, hrun, k0, k1, k2, L3, k3, hBg, hg'A, hcap, ⟨cur, hcur, hcs, hzs⟩, NEXT⟩ := grow_step (T := 9) (k := 1) (st := 25) (t := t) (P := StrP) (str_keep _) Try.underlying25 hi hz0 hz1 hz2 rfl (by decide) (by decide) (by simp [Value.oneCell', Value.cells]) HROW.out HRl.out HPUT.out HC.out HG.out HA.out HBX2.out HT.out (by decide) (by decide) HWT.out HBel.out HBlk.out HL8.out 25 HBW.out
        have HIT := hide (show RItem 1 StrP strR 69 (fun p => #[rp A, p]) B A g' (l.length) _ s1 from ritem_S L3 HM1.out hcur hBg hg'A (by omega))
        unfold RItem at HIT
        have HRUN := hide hrun
        have HNX := hide NEXT
        have hcap' : (l.length : Int) + 1 ≤ (cap : Int) := by omega
        clear hrun L3 hcur hcs hzs NEXT hBg hg'A hcap hi hz0 hz1 hz2
        have hln2 : (l.length : Int) < (l.length : Int) + 1 := by omega
        generalize hj : l.length = j at *
        have HJ := hide hj
        clear hj
        go_wp2_with fail
        refine HGO.out.mono ?_
        rintro e w5 ⟨rfl, rfl⟩
        go_wp2_with (at_builtin; refine wpList_append_eq rfl _ _ 25 25 rfl rfl rfl HRUN.out ?_)
        have HPX3 := hide k3
        generalize hW5 : w3.setCell ⟨g, o, none⟩ (.slice (some ⟨g', 0, none⟩) (j + 1) cap) = W5 at *
        clear hW5
        go_wp2_with fail
        refine HIT.out.mono ?_
        rintro e w4 ⟨rfl, cs, hcl, hR4, hP4, hput4⟩
        have HR4 := hide hR4
        have HN4 := hide (HNX.out w4 _ cs hcl (by rw [Nat.mul_one]; exact hput4) hP4)
        clear hcl hR4 hP4 hput4 HIT HNX
        go_wp2
        go_roundw
        case rel =>
          refine ⟨(strR s1).2, l ++ [(strR s1).1], _, ?_, ?_, HN4.out.1, HR4.out, HN4.out.2.1, HN4.out.2.2, ?_, ?_⟩
          · rw [List.length_append, List.length_singleton, HJ.out]; exact num_next hlt HNL.out
          · rw [List.length_append, List.length_singleton, HJ.out]; exact hlt
          · rw [List.length_append, List.length_singleton, HJ.out]
            rcases HEA.out with h | h
            · exact .inl h
            · exact .inr (by have := HS2.out; omega)
          · have h1 := HLP.out
            rw [show n - j = n - (j + 1) + 1 by omega, loopR_next strR HBD.out] at h1
            rw [List.length_append, List.length_singleton, HJ.out, List.append_assoc]
            exact h1
        case measure => exact meas_int hlt HNL.out
    · obtain rfl : n = l.length := by omega
      have d1 : decide ((l.length : Int) < (l.length : Int)) = false := by simp
      have d2 : decide (l.length < l.length) = false := by simp
      have HFIN := hide (show (l, s1) = loopR strR l.length s0 by have := HLP.out; rwa [Nat.sub_self, loopR, List.append_nil] at this)
      generalize hj : l.length = j at *
      have HJ := hide hj
      clear hj
      go_wp2
      go_returns
      rw [HW.out, ← HFIN.out]
      exact ⟨rfl, _, HRl.out, HROW.out.base0, HPUT.out⟩
end
end Go.Proofs.Ytnkdlbiicfnmcaa
