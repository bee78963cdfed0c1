/- Tests of statements. -/
import Derived.Test.YtbejkphekfbfnaaGreatSndE
namespace Go.Proofs.YtbejkphekfbfnaaGreat
open Go.RowKit
attribute [local go_sem ↓] Go.wp_at_zero Go.wp_at_succ

set_option maxRecDepth 20000 in
set_option maxHeartbeats 4000000 in
theorem stm_step {n : Nat} {r : Q → Tr → Bool} (hTyp : Tst 137 n (r .typ)) (hExp : Tst 150 n (r .exp)) (hBlk : Tst 125 n (r .blk)) (hBlkS : Tst 125 (n + 1) (blkB r)) (hIfS : Tst 149 (n + 1) (ifB r)) : Tst 141 (n + 1) (stmB r) := by
  intro t sl S w hG hS hF hk
  obtain ⟨k, s, m, ks⟩ := t
  obtain ⟨ao, c, rfl⟩ := (Lst.of hk).slice
  have hF0 := hF
  obtain ⟨hF1, hF2, hF3⟩ := hF0
  change ∀ t ∈ ks, Fit _ t at hF3
  change ks.length ≤ 20000 at hF1
  change s.length ≤ maxLen at hF2
  have hL := Lst.of hk
  have hkn : ks.length ≤ 20000 := hF1
  by_cases hk20 : k = 20
  · subst hk20
    have HR : Hid (stmB r (.mk 20 s m ks) = blkB r (.mk 20 s m ks)) := rfl
    have hX0 := Hx.start (w := w) (c0 := .int .i64 20) (c1 := .string ⟨s.toArray⟩) (c2 := .int .i64 m) (c3 := .slice ao ks.length c)
    have c1 := hBlkS.at hG hS hF hk hX0.out
    change Calls Tryz.prog 141 #[.agg #[.int .i64 20, .string ⟨s.toArray⟩, .int .i64 m, .slice ao ks.length c]] w _
    go_enter Tryz.func141, Tryz.ntmps141
    go_wp2_with fail
    refine c1.mono ?_
    rintro e w1 ⟨rfl, hb1⟩
    have hX1 := hX0.next hb1
    clear c1
    obtain ⟨x0, x1, x2, x3⟩ := hX1.cells
    have HX := HR
    go_wp2
    go_ret
    exact ⟨congrArg (fun b => Ending.returned (Value.bool b)) HX.out.symm, hX1.out⟩
  by_cases hk25 : k = 25
  · subst hk25
    have HR : Hid (stmB r (.mk 25 s m ks) = ifB r (.mk 25 s m ks)) := rfl
    have hX0 := Hx.start (w := w) (c0 := .int .i64 25) (c1 := .string ⟨s.toArray⟩) (c2 := .int .i64 m) (c3 := .slice ao ks.length c)
    have c1 := hIfS.at hG hS hF hk hX0.out
    change Calls Tryz.prog 141 #[.agg #[.int .i64 25, .string ⟨s.toArray⟩, .int .i64 m, .slice ao ks.length c]] w _
    go_enter Tryz.func141, Tryz.ntmps141
    go_wp2_with fail
    refine c1.mono ?_
    rintro e w1 ⟨rfl, hb1⟩
    have hX1 := hX0.next hb1
    clear c1
    obtain ⟨x0, x1, x2, x3⟩ := hX1.cells
    have HX := HR
    go_wp2
    go_ret
    exact ⟨congrArg (fun b => Ending.returned (Value.bool b)) HX.out.symm, hX1.out⟩
  by_cases hk21 : k = 21
  · subst hk21
    have HR : Hid (stmB r (.mk 21 s m ks) = (namedT (.mk 21 s m ks) && (rowB [r .typ] ks || rowB [r .typ, r .exp] ks))) := rfl
    have hX0 := Hx.start (w := w) (c0 := .int .i64 21) (c1 := .string ⟨s.toArray⟩) (c2 := .int .i64 m) (c3 := .slice ao ks.length c)
    have c1 := namedS_any (.mk 21 s m ks) ao ks.length c _ (hG.later hX0.out) hF2
    change Calls Tryz.prog 141 #[.agg #[.int .i64 21, .string ⟨s.toArray⟩, .int .i64 m, .slice ao ks.length c]] w _
    go_enter Tryz.func141, Tryz.ntmps141
    go_wp2_with fail
    refine c1.mono ?_
    rintro e w1 ⟨rfl, hb1⟩
    have hX1 := hX0.next hb1
    clear c1
    obtain ⟨x0, x1, x2, x3⟩ := hX1.cells
    cases h1 : namedT (.mk 21 s m ks) with
    | false =>
      have HX : Hid (stmB r (.mk 21 s m ks) = false) := HR.out.trans (by rw [h1]; try rfl)
      clear h1
      go_wp2
      go_ret
      exact ⟨congrArg (fun b => Ending.returned (Value.bool b)) HX.out.symm, hX1.out⟩
    | true =>
      have HR1 : Hid (stmB r (.mk 21 s m ks) = (rowB [r .typ] ks || rowB [r .typ, r .exp] ks)) := HR.out.trans (by rw [h1]; try rfl)
      clear h1
      have c2 := rowW1 ent_typ hTyp hG hS hF3 hL hX1.out
      go_wp2_with fail
      refine c2.mono ?_
      rintro e w2 ⟨rfl, hb2⟩
      have hX2 := hX1.next hb2
      clear c2
      clear x0 x1 x2 x3
      obtain ⟨x0, x1, x2, x3⟩ := hX2.cells
      cases h2 : rowB [r .typ] ks with
      | true =>
        have HX : Hid (stmB r (.mk 21 s m ks) = true) := HR1.out.trans (by rw [h2]; try rfl)
        clear h2
        go_wp2
        go_ret
        exact ⟨congrArg (fun b => Ending.returned (Value.bool b)) HX.out.symm, hX2.out⟩
      | false =>
        have HR2 : Hid (stmB r (.mk 21 s m ks) = rowB [r .typ, r .exp] ks) := HR1.out.trans (by rw [h2]; try rfl)
        clear h2
        have c3 := rowW2 ent_typ ent_exp hTyp hExp hG hS hF3 hL hX2.out
        go_wp2_with fail
        refine c3.mono ?_
        rintro e w3 ⟨rfl, hb3⟩
        have hX3 := hX2.next hb3
        clear c3
        clear x0 x1 x2 x3
        obtain ⟨x0, x1, x2, x3⟩ := hX3.cells
        have HX := HR2
        go_wp2
        go_ret
        exact ⟨congrArg (fun b => Ending.returned (Value.bool b)) HX.out.symm, hX3.out⟩
  by_cases hk22 : k = 22
  · subst hk22
    have HR : Hid (stmB r (.mk 22 s m ks) = asgB r isNameT (.mk 22 s m ks)) := rfl
    have hX0 := Hx.start (w := w) (c0 := .int .i64 22) (c1 := .string ⟨s.toArray⟩) (c2 := .int .i64 m) (c3 := .slice ao ks.length c)
    have c1 := asgW ent_isName tst_isName hExp hG hS hF hk hX0.out
    change Calls Tryz.prog 141 #[.agg #[.int .i64 22, .string ⟨s.toArray⟩, .int .i64 m, .slice ao ks.length c]] w _
    go_enter Tryz.func141, Tryz.ntmps141
    go_wp2_with fail
    refine c1.mono ?_
    rintro e w1 ⟨rfl, hb1⟩
    have hX1 := hX0.next hb1
    clear c1
    obtain ⟨x0, x1, x2, x3⟩ := hX1.cells
    have HX := HR
    go_wp2
    go_ret
    exact ⟨congrArg (fun b => Ending.returned (Value.bool b)) HX.out.symm, hX1.out⟩
  by_cases hk23 : k = 23
  · subst hk23
    have HR : Hid (stmB r (.mk 23 s m ks) = asgB r isPlaceT (.mk 23 s m ks)) := rfl
    have hX0 := Hx.start (w := w) (c0 := .int .i64 23) (c1 := .string ⟨s.toArray⟩) (c2 := .int .i64 m) (c3 := .slice ao ks.length c)
    have c1 := asgW ent_isPlace tst_isPlace hExp hG hS hF hk hX0.out
    change Calls Tryz.prog 141 #[.agg #[.int .i64 23, .string ⟨s.toArray⟩, .int .i64 m, .slice ao ks.length c]] w _
    go_enter Tryz.func141, Tryz.ntmps141
    go_wp2_with fail
    refine c1.mono ?_
    rintro e w1 ⟨rfl, hb1⟩
    have hX1 := hX0.next hb1
    clear c1
    obtain ⟨x0, x1, x2, x3⟩ := hX1.cells
    have HX := HR
    go_wp2
    go_ret
    exact ⟨congrArg (fun b => Ending.returned (Value.bool b)) HX.out.symm, hX1.out⟩
  by_cases hk24 : k = 24
  · subst hk24
    have HR : Hid (stmB r (.mk 24 s m ks) = (bareT (.mk 24 s m ks) && (rowB [isCallT] ks && rowB [r .exp] ks))) := rfl
    have hX0 := Hx.start (w := w) (c0 := .int .i64 24) (c1 := .string ⟨s.toArray⟩) (c2 := .int .i64 m) (c3 := .slice ao ks.length c)
    have c1 := bareW hX0.out (.mk 24 s m ks) ao ks.length c
    change Calls Tryz.prog 141 #[.agg #[.int .i64 24, .string ⟨s.toArray⟩, .int .i64 m, .slice ao ks.length c]] w _
    go_enter Tryz.func141, Tryz.ntmps141
    go_wp2_with fail
    refine c1.mono ?_
    rintro e w1 ⟨rfl, hb1⟩
    have hX1 := hX0.next hb1
    clear c1
    obtain ⟨x0, x1, x2, x3⟩ := hX1.cells
    cases h1 : bareT (.mk 24 s m ks) with
    | false =>
      have HX : Hid (stmB r (.mk 24 s m ks) = false) := HR.out.trans (by rw [h1]; try rfl)
      clear h1
      go_wp2
      go_ret
      exact ⟨congrArg (fun b => Ending.returned (Value.bool b)) HX.out.symm, hX1.out⟩
    | true =>
      have HR1 : Hid (stmB r (.mk 24 s m ks) = (rowB [isCallT] ks && rowB [r .exp] ks)) := HR.out.trans (by rw [h1]; try rfl)
      clear h1
      have c2 := rowW1 ent_isCall tst_isCall hG hS hF3 hL hX1.out
      go_wp2_with fail
      refine c2.mono ?_
      rintro e w2 ⟨rfl, hb2⟩
      have hX2 := hX1.next hb2
      clear c2
      clear x0 x1 x2 x3
      obtain ⟨x0, x1, x2, x3⟩ := hX2.cells
      cases h2 : rowB [isCallT] ks with
      | false =>
        have HX : Hid (stmB r (.mk 24 s m ks) = false) := HR1.out.trans (by rw [h2]; try rfl)
        clear h2
        go_wp2
        go_ret
        exact ⟨congrArg (fun b => Ending.returned (Value.bool b)) HX.out.symm, hX2.out⟩
      | true =>
        have HR2 : Hid (stmB r (.mk 24 s m ks) = rowB [r .exp] ks) := HR1.out.trans (by rw [h2]; try rfl)
        have hlen := rowB_length h2
        clear h2
        obtain ⟨a, g0, o0, a0, n0, q0, hks, hao, y0, y1, y2, y3, hla, hka⟩ := Lst.kid1 hL hlen hS
        obtain rfl := hao
        have HKS : Hid (ks = [a]) := hks
        have hlt0 : 0 < ks.length := by rw [hks]; simp
        have hFa : Fit n a := hF3 a (by rw [hks]; simp)
        have z0 := (hX2.out.cell (p := ⟨g0, o0 + 0, none⟩) hla).trans y0
        have z1 := (hX2.out.cell (p := ⟨g0, o0 + 1, none⟩) hla).trans y1
        have z2 := (hX2.out.cell (p := ⟨g0, o0 + 2, none⟩) hla).trans y2
        have z3 := (hX2.out.cell (p := ⟨g0, o0 + 3, none⟩) hla).trans y3
        rw [Nat.add_zero] at z0
        have c3 := hExp.at hG hS hFa hka hX2.out
        clear hks hlen y0 y1 y2 y3
        go_wp2_with fail
        refine c3.mono ?_
        rintro e w3 ⟨rfl, hb3⟩
        have hX3 := hX2.next hb3
        have HY : Hid (rowB [r .exp] ks = r .exp a) := by rw [HKS.out]; simp [Hid, rowB]
        have HX : Hid (stmB r (.mk 24 s m ks) = r .exp a) := HR2.out.trans HY.out
        go_wp2
        go_ret
        exact ⟨congrArg (fun b => Ending.returned (Value.bool b)) HX.out.symm, hX3.out⟩
  by_cases hk26 : k = 26
  · subst hk26
    have HR : Hid (stmB r (.mk 26 s m ks) = (bareT (.mk 26 s m ks) && (rowB [r .blk] ks || rowB [r .exp, r .blk] ks))) := rfl
    have hX0 := Hx.start (w := w) (c0 := .int .i64 26) (c1 := .string ⟨s.toArray⟩) (c2 := .int .i64 m) (c3 := .slice ao ks.length c)
    have c1 := bareW hX0.out (.mk 26 s m ks) ao ks.length c
    change Calls Tryz.prog 141 #[.agg #[.int .i64 26, .string ⟨s.toArray⟩, .int .i64 m, .slice ao ks.length c]] w _
    go_enter Tryz.func141, Tryz.ntmps141
    go_wp2_with fail
    refine c1.mono ?_
    rintro e w1 ⟨rfl, hb1⟩
    have hX1 := hX0.next hb1
    clear c1
    obtain ⟨x0, x1, x2, x3⟩ := hX1.cells
    cases h1 : bareT (.mk 26 s m ks) with
    | false =>
      have HX : Hid (stmB r (.mk 26 s m ks) = false) := HR.out.trans (by rw [h1]; try rfl)
      clear h1
      go_wp2
      go_ret
      exact ⟨congrArg (fun b => Ending.returned (Value.bool b)) HX.out.symm, hX1.out⟩
    | true =>
      have HR1 : Hid (stmB r (.mk 26 s m ks) = (rowB [r .blk] ks || rowB [r .exp, r .blk] ks)) := HR.out.trans (by rw [h1]; try rfl)
      clear h1
      have c2 := rowW1 ent_blk hBlk hG hS hF3 hL hX1.out
      go_wp2_with fail
      refine c2.mono ?_
      rintro e w2 ⟨rfl, hb2⟩
      have hX2 := hX1.next hb2
      clear c2
      clear x0 x1 x2 x3
      obtain ⟨x0, x1, x2, x3⟩ := hX2.cells
      cases h2 : rowB [r .blk] ks with
      | true =>
        have HX : Hid (stmB r (.mk 26 s m ks) = true) := HR1.out.trans (by rw [h2]; try rfl)
        clear h2
        go_wp2
        go_ret
        exact ⟨congrArg (fun b => Ending.returned (Value.bool b)) HX.out.symm, hX2.out⟩
      | false =>
        have HR2 : Hid (stmB r (.mk 26 s m ks) = rowB [r .exp, r .blk] ks) := HR1.out.trans (by rw [h2]; try rfl)
        clear h2
        have c3 := rowW2 ent_exp ent_blk hExp hBlk hG hS hF3 hL hX2.out
        go_wp2_with fail
        refine c3.mono ?_
        rintro e w3 ⟨rfl, hb3⟩
        have hX3 := hX2.next hb3
        clear c3
        clear x0 x1 x2 x3
        obtain ⟨x0, x1, x2, x3⟩ := hX3.cells
        have HX := HR2
        go_wp2
        go_ret
        exact ⟨congrArg (fun b => Ending.returned (Value.bool b)) HX.out.symm, hX3.out⟩
  by_cases hk27 : k = 27
  · subst hk27
    have HR : Hid (stmB r (.mk 27 s m ks) = (bareT (.mk 27 s m ks) && ks.all (r .exp))) := rfl
    have hX0 := Hx.start (w := w) (c0 := .int .i64 27) (c1 := .string ⟨s.toArray⟩) (c2 := .int .i64 m) (c3 := .slice ao ks.length c)
    have c1 := bareW hX0.out (.mk 27 s m ks) ao ks.length c
    change Calls Tryz.prog 141 #[.agg #[.int .i64 27, .string ⟨s.toArray⟩, .int .i64 m, .slice ao ks.length c]] w _
    go_enter Tryz.func141, Tryz.ntmps141
    go_wp2_with fail
    refine c1.mono ?_
    rintro e w1 ⟨rfl, hb1⟩
    have hX1 := hX0.next hb1
    clear c1
    obtain ⟨x0, x1, x2, x3⟩ := hX1.cells
    cases h1 : bareT (.mk 27 s m ks) with
    | false =>
      have HX : Hid (stmB r (.mk 27 s m ks) = false) := HR.out.trans (by rw [h1]; try rfl)
      clear h1
      go_wp2
      go_ret
      exact ⟨congrArg (fun b => Ending.returned (Value.bool b)) HX.out.symm, hX1.out⟩
    | true =>
      have HR1 : Hid (stmB r (.mk 27 s m ks) = ks.all (r .exp)) := HR.out.trans (by rw [h1]; try rfl)
      clear h1
      have c2 := everyW ent_exp hExp hG hS hF3 hF1 hL hX1.out
      go_wp2_with fail
      refine c2.mono ?_
      rintro e w2 ⟨rfl, hb2⟩
      have hX2 := hX1.next hb2
      clear c2
      clear x0 x1 x2 x3
      obtain ⟨x0, x1, x2, x3⟩ := hX2.cells
      have HX := HR1
      go_wp2
      go_ret
      exact ⟨congrArg (fun b => Ending.returned (Value.bool b)) HX.out.symm, hX2.out⟩
  by_cases hk28 : k = 28
  · subst hk28
    have HR : Hid (stmB r (.mk 28 s m ks) = (bareT (.mk 28 s m ks) && rowB [] ks)) := rfl
    have hX0 := Hx.start (w := w) (c0 := .int .i64 28) (c1 := .string ⟨s.toArray⟩) (c2 := .int .i64 m) (c3 := .slice ao ks.length c)
    have c1 := bareW hX0.out (.mk 28 s m ks) ao ks.length c
    change Calls Tryz.prog 141 #[.agg #[.int .i64 28, .string ⟨s.toArray⟩, .int .i64 m, .slice ao ks.length c]] w _
    go_enter Tryz.func141, Tryz.ntmps141
    go_wp2_with fail
    refine c1.mono ?_
    rintro e w1 ⟨rfl, hb1⟩
    have hX1 := hX0.next hb1
    clear c1
    obtain ⟨x0, x1, x2, x3⟩ := hX1.cells
    cases h1 : bareT (.mk 28 s m ks) with
    | false =>
      have HX : Hid (stmB r (.mk 28 s m ks) = false) := HR.out.trans (by rw [h1]; try rfl)
      clear h1
      go_wp2
      go_ret
      exact ⟨congrArg (fun b => Ending.returned (Value.bool b)) HX.out.symm, hX1.out⟩
    | true =>
      have HR1 : Hid (stmB r (.mk 28 s m ks) = rowB [] ks) := HR.out.trans (by rw [h1]; try rfl)
      clear h1
      have c2 := rowW0 hL hX1.out
      go_wp2_with fail
      refine c2.mono ?_
      rintro e w2 ⟨rfl, hb2⟩
      have hX2 := hX1.next hb2
      clear c2
      clear x0 x1 x2 x3
      obtain ⟨x0, x1, x2, x3⟩ := hX2.cells
      have HX := HR1
      go_wp2
      go_ret
      exact ⟨congrArg (fun b => Ending.returned (Value.bool b)) HX.out.symm, hX2.out⟩
  by_cases hk29 : k = 29
  · subst hk29
    have HR : Hid (stmB r (.mk 29 s m ks) = (bareT (.mk 29 s m ks) && rowB [] ks)) := rfl
    have hX0 := Hx.start (w := w) (c0 := .int .i64 29) (c1 := .string ⟨s.toArray⟩) (c2 := .int .i64 m) (c3 := .slice ao ks.length c)
    have c1 := bareW hX0.out (.mk 29 s m ks) ao ks.length c
    change Calls Tryz.prog 141 #[.agg #[.int .i64 29, .string ⟨s.toArray⟩, .int .i64 m, .slice ao ks.length c]] w _
    go_enter Tryz.func141, Tryz.ntmps141
    go_wp2_with fail
    refine c1.mono ?_
    rintro e w1 ⟨rfl, hb1⟩
    have hX1 := hX0.next hb1
    clear c1
    obtain ⟨x0, x1, x2, x3⟩ := hX1.cells
    cases h1 : bareT (.mk 29 s m ks) with
    | false =>
      have HX : Hid (stmB r (.mk 29 s m ks) = false) := HR.out.trans (by rw [h1]; try rfl)
      clear h1
      go_wp2
      go_ret
      exact ⟨congrArg (fun b => Ending.returned (Value.bool b)) HX.out.symm, hX1.out⟩
    | true =>
      have HR1 : Hid (stmB r (.mk 29 s m ks) = rowB [] ks) := HR.out.trans (by rw [h1]; try rfl)
      clear h1
      have c2 := rowW0 hL hX1.out
      go_wp2_with fail
      refine c2.mono ?_
      rintro e w2 ⟨rfl, hb2⟩
      have hX2 := hX1.next hb2
      clear c2
      clear x0 x1 x2 x3
      obtain ⟨x0, x1, x2, x3⟩ := hX2.cells
      have HX := HR1
      go_wp2
      go_ret
      exact ⟨congrArg (fun b => Ending.returned (Value.bool b)) HX.out.symm, hX2.out⟩
  have HX : Hid (stmB r (.mk k s m ks) = false) := by simp [Hid, stmB, Tr.kind, hk20, hk25, hk21, hk22, hk23, hk24, hk26, hk27, hk28, hk29]
  have hX0 := Hx.start (w := w) (c0 := .int .i64 k) (c1 := .string ⟨s.toArray⟩) (c2 := .int .i64 m) (c3 := .slice ao ks.length c)
  have e20 : (k == 20) = false := by simpa using hk20
  clear hk20
  have e25 : (k == 25) = false := by simpa using hk25
  clear hk25
  have e21 : (k == 21) = false := by simpa using hk21
  clear hk21
  have e22 : (k == 22) = false := by simpa using hk22
  clear hk22
  have e23 : (k == 23) = false := by simpa using hk23
  clear hk23
  have e24 : (k == 24) = false := by simpa using hk24
  clear hk24
  have e26 : (k == 26) = false := by simpa using hk26
  clear hk26
  have e27 : (k == 27) = false := by simpa using hk27
  clear hk27
  have e28 : (k == 28) = false := by simpa using hk28
  clear hk28
  have e29 : (k == 29) = false := by simpa using hk29
  clear hk29
  change Calls Tryz.prog 141 #[.agg #[.int .i64 k, .string ⟨s.toArray⟩, .int .i64 m, .slice ao ks.length c]] w _
  go_enter Tryz.func141, Tryz.ntmps141
  go_wp2
  go_ret
  exact ⟨congrArg (fun b => Ending.returned (Value.bool b)) HX.out.symm, hX0.out⟩
end Go.Proofs.YtbejkphekfbfnaaGreat
