/- The document's show and Text. -/
import Derived.Test.YtbejkphekfbfnaaGreatTyV
namespace Go.Proofs.YtbejkphekfbfnaaGreat
open Go.RowKit
attribute [local go_sem ↓] Go.wp_at_zero Go.wp_at_succ

theorem wrap_small4 {x : Int} (h1 : 0 ≤ x) (h2 : x ≤ 1000000) : IntKind.i64.wrap x = x := by
  simp [IntKind.wrap, IntKind.signed, IntKind.bits]; omega
theorem ba_lit (a : Array UInt8) (b : List UInt8) : (⟨a⟩ : ByteArray) ++ ⟨b.toArray⟩ = ⟨(a.toList ++ b).toArray⟩ := by
  apply ByteArray.ext
  simp
section
variable {n : Nat} (hI : ShC n) (s : List UInt8) (m : Int) (ks : List Tr) (ao : Option Addr) (c : Nat) (S : Nat → Prop) (w : World)
theorem show_1 : Calls Tryz.prog 41 #[.agg #[.int .i64 1, .string ⟨s.toArray⟩, .int .i64 m, .slice ao ks.length c]] w (OutS4 [105, 110, 116] w) := by
    have hX0 := Hxt.start (w := w) (c0 := .int .i64 1) (c1 := .string ⟨s.toArray⟩) (c2 := .int .i64 m) (c3 := .slice ao ks.length c)
    go_enter Tryz.func41, Tryz.ntmps41
    go_wp2
    go_ret
    exact ⟨rfl, hX0.out⟩
theorem show_2 : Calls Tryz.prog 41 #[.agg #[.int .i64 2, .string ⟨s.toArray⟩, .int .i64 m, .slice ao ks.length c]] w (OutS4 [98, 111, 111, 108] w) := by
    have hX0 := Hxt.start (w := w) (c0 := .int .i64 2) (c1 := .string ⟨s.toArray⟩) (c2 := .int .i64 m) (c3 := .slice ao ks.length c)
    go_enter Tryz.func41, Tryz.ntmps41
    go_wp2
    go_ret
    exact ⟨rfl, hX0.out⟩
theorem show_3 : Calls Tryz.prog 41 #[.agg #[.int .i64 3, .string ⟨s.toArray⟩, .int .i64 m, .slice ao ks.length c]] w (OutS4 [115, 116, 114, 105, 110, 103] w) := by
    have hX0 := Hxt.start (w := w) (c0 := .int .i64 3) (c1 := .string ⟨s.toArray⟩) (c2 := .int .i64 m) (c3 := .slice ao ks.length c)
    go_enter Tryz.func41, Tryz.ntmps41
    go_wp2
    go_ret
    exact ⟨rfl, hX0.out⟩
theorem show_8 : Calls Tryz.prog 41 #[.agg #[.int .i64 8, .string ⟨s.toArray⟩, .int .i64 m, .slice ao ks.length c]] w (OutS4 [110, 105, 108] w) := by
    have hX0 := Hxt.start (w := w) (c0 := .int .i64 8) (c1 := .string ⟨s.toArray⟩) (c2 := .int .i64 m) (c3 := .slice ao ks.length c)
    go_enter Tryz.func41, Tryz.ntmps41
    go_wp2
    go_ret
    exact ⟨rfl, hX0.out⟩
theorem show_4 : Calls Tryz.prog 41 #[.agg #[.int .i64 4, .string ⟨s.toArray⟩, .int .i64 m, .slice ao ks.length c]] w (OutS4 s w) := by
    have hX0 := Hxt.start (w := w) (c0 := .int .i64 4) (c1 := .string ⟨s.toArray⟩) (c2 := .int .i64 m) (c3 := .slice ao ks.length c)
    go_enter Tryz.func41, Tryz.ntmps41
    go_wp2
    go_ret
    exact ⟨rfl, hX0.out⟩
include hI
set_option maxHeartbeats 1000000 in
theorem show_5 (a : Tr) (hk1 : ks = [a]) (hM : Mem n ks) (hl : cntNL ks ≤ 500000) (hS : ∀ b, S b → b < w.heap.size) (hL : Lst w S ks (.slice ao ks.length c)) : Calls Tryz.prog 41 #[.agg #[.int .i64 5, .string ⟨s.toArray⟩, .int .i64 m, .slice ao ks.length c]] w (OutS4 ([42] ++ txtN n a) w) := by
    have HI := Lib.hid hI
    obtain ⟨a', g, o, a0, n0, q0, ets, hao, y0, y1, y2, y3, hg, hka⟩ := hL.kid1 (by rw [hk1]; rfl) hS
    rw [hk1] at ets
    cases ets
    subst hk1 hao
    have hm : a ∈ [a] := by simp
    have hfa := hM.form a hm
    have hda := hM.dep a hm
    have hta := txtN_len n a hfa
    simp only [cntNL] at hl
    have hX0 := Hxt.start (w := w) (c0 := .int .i64 5) (c1 := .string ⟨s.toArray⟩) (c2 := .int .i64 m) (c3 := .slice (some ⟨g, o, none⟩) [a].length c)
    have hka' := KT.fr hka (fun b hb => hX0.out.block b (hS b hb)) (fun _ h => h)
    obtain ⟨ak, av, am, aks⟩ := a
    obtain ⟨_, _, e⟩ := (Lst.of hka).slice
    injection e with e4 e5 e7
    clear e4 e7
    subst e5
    have cC := HI.out ak av am aks a0 q0 S _ hfa hda (by omega) (fun b hb => Nat.lt_of_lt_of_le (hS b hb) hX0.out.size) hka'
    simp only [Tr.kind, Tr.text, Tr.num, Nat.add_zero, List.length_cons, List.length_nil, Nat.zero_add] at y0 y1 y2 hX0 cC
    have hQl : (txtN n (.mk ak av am aks)).length ≤ 50000000 := by omega
    generalize txtN n (.mk ak av am aks) = Q at *
    clear hI hM hL hm hka hka' hta
    simp only [List.length_cons, List.length_nil, Nat.zero_add]
    go_enter Tryz.func41, Tryz.ntmps41
    go_wp2_with fail
    refine cC.mono ?_
    rintro e w2 ⟨rfl, hb2⟩
    have hX2 := hX0.next hb2
    clear cC hb2
    go_wp2
    go_ret
    exact ⟨by simp [ba_lit], hX2.out⟩
set_option maxHeartbeats 1000000 in
theorem show_6 (a : Tr) (hk1 : ks = [a]) (hM : Mem n ks) (hl : cntNL ks ≤ 500000) (hS : ∀ b, S b → b < w.heap.size) (hL : Lst w S ks (.slice ao ks.length c)) : Calls Tryz.prog 41 #[.agg #[.int .i64 6, .string ⟨s.toArray⟩, .int .i64 m, .slice ao ks.length c]] w (OutS4 ([91, 93] ++ txtN n a) w) := by
    have HI := Lib.hid hI
    obtain ⟨a', g, o, a0, n0, q0, ets, hao, y0, y1, y2, y3, hg, hka⟩ := hL.kid1 (by rw [hk1]; rfl) hS
    rw [hk1] at ets
    cases ets
    subst hk1 hao
    have hm : a ∈ [a] := by simp
    have hfa := hM.form a hm
    have hda := hM.dep a hm
    have hta := txtN_len n a hfa
    simp only [cntNL] at hl
    have hX0 := Hxt.start (w := w) (c0 := .int .i64 6) (c1 := .string ⟨s.toArray⟩) (c2 := .int .i64 m) (c3 := .slice (some ⟨g, o, none⟩) [a].length c)
    have hka' := KT.fr hka (fun b hb => hX0.out.block b (hS b hb)) (fun _ h => h)
    obtain ⟨ak, av, am, aks⟩ := a
    obtain ⟨_, _, e⟩ := (Lst.of hka).slice
    injection e with e4 e5 e7
    clear e4 e7
    subst e5
    have cC := HI.out ak av am aks a0 q0 S _ hfa hda (by omega) (fun b hb => Nat.lt_of_lt_of_le (hS b hb) hX0.out.size) hka'
    simp only [Tr.kind, Tr.text, Tr.num, Nat.add_zero, List.length_cons, List.length_nil, Nat.zero_add] at y0 y1 y2 hX0 cC
    have hQl : (txtN n (.mk ak av am aks)).length ≤ 50000000 := by omega
    generalize txtN n (.mk ak av am aks) = Q at *
    clear hI hM hL hm hka hka' hta
    simp only [List.length_cons, List.length_nil, Nat.zero_add]
    go_enter Tryz.func41, Tryz.ntmps41
    go_wp2_with fail
    refine cC.mono ?_
    rintro e w2 ⟨rfl, hb2⟩
    have hX2 := hX0.next hb2
    clear cC hb2
    go_wp2
    go_ret
    exact ⟨by simp [ba_lit], hX2.out⟩
set_option maxRecDepth 20000 in
set_option maxHeartbeats 5000000 in
theorem show_7c (g o : Nat) (j : Nat) (hj : j ≤ ks.length) (_hjc : j ≤ c) (hall : ks.length ≤ j) (hM : Mem n ks) (hl : cntNL ks ≤ 500000) (hS : ∀ b, S b → b < w.heap.size) (hL : Lst w S ks (.slice (some ⟨g, o, none⟩) ks.length c)) (hL1 : Lst w S (ks.take j) (.slice (some ⟨g, o, none⟩) (ks.take j).length c)) : Calls Tryz.prog 41 #[.agg #[.int .i64 7, .string ⟨s.toArray⟩, .int .i64 j, .slice (some ⟨g, o, none⟩) ks.length c]] w (OutS4 ([102, 117, 110, 99, 40] ++ (rowP (txtN n) (ks.take j) ++ ([41] ++ resP (txtN n) (ks.drop j)))) w) := by
    have HI := Lib.hid hI
    have HL := Lib.hid hL
    have HL1 := Lib.hid hL1
    have HS := Lib.hid hS
    have HM1 := Lib.hid (hM.take j)
    have HM2 := Lib.hid (hM.drop j)
    have hcc := cut_cnt ks j
    have hr1 := rowP_len (f := txtN n) (ts := ks.take j) fun t ht => txtN_len n t (HM1.out.form t ht)
    have hr2 := rowP_len (f := txtN n) (ts := ks.drop j) fun t ht => txtN_len n t (HM2.out.form t ht)
    have hn := hM.len
    have l1 : (ks.take j).length = j := by simp; omega
    have l2 : (ks.drop j).length = ks.length - j := by simp
    have hX0 := Hxt.start (w := w) (c0 := .int .i64 7) (c1 := .string ⟨s.toArray⟩) (c2 := .int .i64 j) (c3 := .slice (some ⟨g, o, none⟩) ks.length c)
    have cL := row_any4 HI.out (ks.take j) (some ⟨g, o, none⟩) c S _ HM1.out (by omega) (fun b hb => Nat.lt_of_lt_of_le (hS b hb) hX0.out.size) (HL1.out.fr (fun b hb => hX0.out.block b (hS b hb)) (fun _ h => h))
    rw [l1] at cL
    have HR : Hid (resP (txtN n) (ks.drop j) = if (ks.drop j).length = 0 then [] else if (ks.drop j).length = 1 then [32] ++ rowP (txtN n) (ks.drop j) else [32, 40] ++ (rowP (txtN n) (ks.drop j) ++ [41])) := rfl
    have hR1 : (rowP (txtN n) (ks.take j)).length ≤ 50000000 := by omega
    have hR2 : (rowP (txtN n) (ks.drop j)).length ≤ 50000000 := by omega
    generalize hE1 : rowP (txtN n) (ks.take j) = R1 at *
    clear hI hM hL hL1 hr1 hr2 hE1
    have HX : Hid (resP (txtN n) (ks.drop j) = []) := HR.out.trans (by rw [if_pos (by omega)])
    have hw : IntKind.i64.wrap ((ks.length : Int) - j) = (ks.length : Int) - j := wrap_small4 (by omega) (by omega)
    have f0 : ((ks.length : Int) - j == 0) = true := by rw [beq_iff_eq]; omega
    go_enter Tryz.func41, Tryz.ntmps41
    go_wp2_with fail
    refine cL.mono ?_
    rintro e w2 ⟨rfl, hb2⟩
    have hX := hX0.next hb2
    obtain ⟨x0, x1, x2, x3⟩ := hX.cells
    clear cL hb2 hX0
    go_wp2
    go_ret
    exact ⟨by rw [HX.out]; simp [ba_lit], hX.out⟩
set_option maxRecDepth 20000 in
set_option maxHeartbeats 5000000 in
theorem show_7a (hk0 : ks.length = 0) (hM : Mem n ks) (hl : cntNL ks ≤ 500000) (hS : ∀ b, S b → b < w.heap.size) (hL : Lst w S ks (.slice ao ks.length c)) (hL1 : Lst w S (ks.take 0) (.slice ao (ks.take 0).length c)) : Calls Tryz.prog 41 #[.agg #[.int .i64 7, .string ⟨s.toArray⟩, .int .i64 0, .slice ao ks.length c]] w (OutS4 ([102, 117, 110, 99, 40] ++ (rowP (txtN n) (ks.take 0) ++ ([41] ++ resP (txtN n) (ks.drop 0)))) w) := by
    have HI := Lib.hid hI
    have HL := Lib.hid hL
    have HL1 := Lib.hid hL1
    have HS := Lib.hid hS
    have HM1 := Lib.hid (hM.take 0)
    have HM2 := Lib.hid (hM.drop 0)
    have hcc := cut_cnt ks 0
    have hr1 := rowP_len (f := txtN n) (ts := ks.take 0) fun t ht => txtN_len n t (HM1.out.form t ht)
    have hr2 := rowP_len (f := txtN n) (ts := ks.drop 0) fun t ht => txtN_len n t (HM2.out.form t ht)
    have hn := hM.len
    have l1 : (ks.take 0).length = 0 := by simp
    have l2 : (ks.drop 0).length = 0 := by simp; exact List.eq_nil_of_length_eq_zero hk0
    rw [hk0]
    have hX0 := Hxt.start (w := w) (c0 := .int .i64 7) (c1 := .string ⟨s.toArray⟩) (c2 := .int .i64 0) (c3 := .slice ao 0 c)
    have cL := row_any4 HI.out (ks.take 0) ao c S _ HM1.out (by omega) (fun b hb => Nat.lt_of_lt_of_le (hS b hb) hX0.out.size) (HL1.out.fr (fun b hb => hX0.out.block b (hS b hb)) (fun _ h => h))
    rw [l1] at cL
    have HR : Hid (resP (txtN n) (ks.drop 0) = if (ks.drop 0).length = 0 then [] else if (ks.drop 0).length = 1 then [32] ++ rowP (txtN n) (ks.drop 0) else [32, 40] ++ (rowP (txtN n) (ks.drop 0) ++ [41])) := rfl
    have hR1 : (rowP (txtN n) (ks.take 0)).length ≤ 50000000 := by omega
    have hR2 : (rowP (txtN n) (ks.drop 0)).length ≤ 50000000 := by omega
    generalize hE1 : rowP (txtN n) (ks.take 0) = R1 at *
    clear hI hM hL hL1 hr1 hr2 hE1
    have HX : Hid (resP (txtN n) (ks.drop 0) = []) := HR.out.trans (by rw [if_pos (by omega)])
    go_enter Tryz.func41, Tryz.ntmps41
    go_wp2_with fail
    refine cL.mono ?_
    rintro e w2 ⟨rfl, hb2⟩
    have hX := hX0.next hb2
    obtain ⟨x0, x1, x2, x3⟩ := hX.cells
    clear cL hb2 hX0
    go_wp2
    go_ret
    exact ⟨by rw [HX.out]; simp [ba_lit], hX.out⟩
set_option maxRecDepth 20000 in
set_option maxHeartbeats 5000000 in
theorem show_7b (g o : Nat) (j : Nat) (hj : j < ks.length) (hjc : j < c) (_hcc2 : ks.length ≤ c) (hM : Mem n ks) (hl : cntNL ks ≤ 500000) (hS : ∀ b, S b → b < w.heap.size) (hL : Lst w S ks (.slice (some ⟨g, o, none⟩) ks.length c)) (hL1 : Lst w S (ks.take j) (.slice (some ⟨g, o, none⟩) (ks.take j).length c)) (hL2 : Lst w S (ks.drop j) (.slice (some ⟨g, o + j * 4, none⟩) (ks.drop j).length (c - j))) : Calls Tryz.prog 41 #[.agg #[.int .i64 7, .string ⟨s.toArray⟩, .int .i64 j, .slice (some ⟨g, o, none⟩) ks.length c]] w (OutS4 ([102, 117, 110, 99, 40] ++ (rowP (txtN n) (ks.take j) ++ ([41] ++ resP (txtN n) (ks.drop j)))) w) := by
    have HI := Lib.hid hI
    have HL := Lib.hid hL
    have HL1 := Lib.hid hL1
    have HL2 := Lib.hid hL2
    have HS := Lib.hid hS
    have HM1 := Lib.hid (hM.take j)
    have HM2 := Lib.hid (hM.drop j)
    have hcc := cut_cnt ks j
    have hr1 := rowP_len (f := txtN n) (ts := ks.take j) fun t ht => txtN_len n t (HM1.out.form t ht)
    have hr2 := rowP_len (f := txtN n) (ts := ks.drop j) fun t ht => txtN_len n t (HM2.out.form t ht)
    have hn := hM.len
    have l1 : (ks.take j).length = j := by simp; omega
    have l2 : (ks.drop j).length = ks.length - j := by simp
    have hck0 : (c - j == 0) = false := by simp; omega
    have hX0 := Hxt.start (w := w) (c0 := .int .i64 7) (c1 := .string ⟨s.toArray⟩) (c2 := .int .i64 j) (c3 := .slice (some ⟨g, o, none⟩) ks.length c)
    have cL := row_any4 HI.out (ks.take j) (some ⟨g, o, none⟩) c S _ HM1.out (by omega) (fun b hb => Nat.lt_of_lt_of_le (hS b hb) hX0.out.size) (HL1.out.fr (fun b hb => hX0.out.block b (hS b hb)) (fun _ h => h))
    rw [l1] at cL
    have HR : Hid (resP (txtN n) (ks.drop j) = if (ks.drop j).length = 0 then [] else if (ks.drop j).length = 1 then [32] ++ rowP (txtN n) (ks.drop j) else [32, 40] ++ (rowP (txtN n) (ks.drop j) ++ [41])) := rfl
    have hR1 : (rowP (txtN n) (ks.take j)).length ≤ 50000000 := by omega
    have hR2 : (rowP (txtN n) (ks.drop j)).length ≤ 50000000 := by omega
    generalize hE1 : rowP (txtN n) (ks.take j) = R1 at *
    clear hI hM hL hL1 hL2 hr1 hr2 hE1
    have hw : IntKind.i64.wrap ((ks.length : Int) - j) = (ks.length : Int) - j := wrap_small4 (by omega) (by omega)
    have f0 : ((ks.length : Int) - j == 0) = false := by rw [beq_eq_false_iff_ne]; omega
    by_cases h1 : ks.length - j = 1
    · have HX : Hid (resP (txtN n) (ks.drop j) = [32] ++ rowP (txtN n) (ks.drop j)) := HR.out.trans (by rw [if_neg (by omega), if_pos (by omega)])
      have f1 : ((ks.length : Int) - j == 1) = true := by rw [beq_iff_eq]; omega
      have hjl : j < ks.length := by omega
      obtain ⟨a, ha⟩ : ∃ a, ks[j]? = some a := ⟨_, List.getElem?_eq_getElem hjl⟩
      have hda : ks.drop j = [a] := by
        rw [drop_get ha, List.drop_eq_nil_of_le (by omega)]
      have hm : a ∈ ks.drop j := by rw [hda]; simp
      have hfa := HM2.out.form a hm
      have hdp := HM2.out.dep a hm
      have hta := txtN_len n a hfa
      have hca : cntN a ≤ 500000 := by
        have : cntNL (ks.drop j) = cntN a := by rw [hda]; simp [cntNL]
        omega
      have HX2 : Hid (rowP (txtN n) (ks.drop j) = txtN n a) := by rw [Hid, hda]; simp [rowP]
      obtain ⟨g', o', a0, n0, q0, hao, y0, y1, y2, y3, hg, hka⟩ := HL.out.kid ha HS.out
      cases hao
      obtain ⟨ak, av, am, aks⟩ := a
      obtain ⟨_, _, e⟩ := (Lst.of hka).slice
      injection e with e4 e5 e7
      clear e4 e7
      subst e5
      have HK := Lib.hid hka
      simp only [Tr.kind, Tr.text, Tr.num] at y0 y1 y2
      clear ha hda hm hka
      go_enter Tryz.func41, Tryz.ntmps41
      go_wp2_with fail
      refine cL.mono ?_
      rintro e w2 ⟨rfl, hb2⟩
      have hX := hX0.next hb2
      obtain ⟨x0, x1, x2, x3⟩ := hX.cells
      clear cL hb2 hX0
      have cC := HI.out ak av am aks a0 q0 S w2 hfa hdp (by omega) (fun b hb => Nat.lt_of_lt_of_le (HS.out b hb) hX.out.size) (HK.out.fr (fun b hb => hX.out.block b (HS.out b hb)) (fun _ h => h))
      have z0 := (hX.out.cell (p := ⟨g, o + j * 4, none⟩) hg).trans y0
      have z1 := (hX.out.cell (p := ⟨g, o + j * 4 + 1, none⟩) hg).trans y1
      have z2 := (hX.out.cell (p := ⟨g, o + j * 4 + 2, none⟩) hg).trans y2
      have z3 := (hX.out.cell (p := ⟨g, o + j * 4 + 3, none⟩) hg).trans y3
      have hQl : (txtN n (.mk ak av am aks)).length ≤ 50000000 := by omega
      clear y0 y1 y2 y3
      go_wp2_with fail
      refine cC.mono ?_
      rintro e w3 ⟨rfl, hb3⟩
      have hX3 := hX.next hb3
      clear cC hb3
      go_wp2
      go_ret
      exact ⟨by rw [HX.out, HX2.out]; simp [ba_lit], hX3.out⟩
    · have HX : Hid (resP (txtN n) (ks.drop j) = [32, 40] ++ (rowP (txtN n) (ks.drop j) ++ [41])) := HR.out.trans (by rw [if_neg (by omega), if_neg (by omega)])
      have f1 : ((ks.length : Int) - j == 1) = false := by rw [beq_eq_false_iff_ne]; omega
      have hR2' := hR2
      generalize hE2 : rowP (txtN n) (ks.drop j) = R2 at *
      go_enter Tryz.func41, Tryz.ntmps41
      go_wp2_with fail
      refine cL.mono ?_
      rintro e w2 ⟨rfl, hb2⟩
      have hX := hX0.next hb2
      obtain ⟨x0, x1, x2, x3⟩ := hX.cells
      clear cL hb2 hX0
      have cR := row_any4 HI.out (ks.drop j) (some ⟨g, o + j * 4, none⟩) (c - j) S w2 HM2.out (by omega) (fun b hb => Nat.lt_of_lt_of_le (HS.out b hb) hX.out.size) (HL2.out.fr (fun b hb => hX.out.block b (HS.out b hb)) (fun _ h => h))
      rw [l2, hE2] at cR
      clear hE2
      go_wp2_with fail
      refine cR.mono ?_
      rintro e w3 ⟨rfl, hb3⟩
      have hX3 := hX.next hb3
      clear cR hb3
      go_wp2
      go_ret
      exact ⟨by rw [HX.out]; simp [ba_lit], hX3.out⟩
end
end Go.Proofs.YtbejkphekfbfnaaGreat
