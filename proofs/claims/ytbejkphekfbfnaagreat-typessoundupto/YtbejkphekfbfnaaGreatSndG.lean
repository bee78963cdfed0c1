/- Tests of expressions. -/
import Derived.Test.YtbejkphekfbfnaaGreatSndF
namespace Go.Proofs.YtbejkphekfbfnaaGreat
open Go.RowKit
attribute [local go_sem ↓] Go.wp_at_zero Go.wp_at_succ

set_option maxRecDepth 20000 in
set_option maxHeartbeats 4000000 in
theorem exp_step {n : Nat} {r : Q → Tr → Bool} (hTyp : Tst 137 n (r .typ)) (hExp : Tst 150 n (r .exp)) (hSig : Tst 124 n (r .sig)) (hBlk : Tst 125 n (r .blk)) (hCut : ∀ (s : List UInt8) (m : Int) (ks : List Tr) (sl : Value) (S : Nat → Prop) (w : World), Gl w → (∀ b, S b → b < w.heap.size) → Fit (n + 1) (.mk 50 s m ks) → KT w S (.mk 50 s m ks) sl → Calls Tryz.prog 150 #[tv (.mk 50 s m ks) sl] w fun e w' => e = .returned (.bool (expB r (.mk 50 s m ks))) ∧ Below w.heap.size w w') : Tst 150 (n + 1) (expB r) := by
  intro t sl S w hG hS hF hk
  obtain ⟨k, s, m, ks⟩ := t
  obtain ⟨ao, c, rfl⟩ := (Lst.of hk).slice
  have hF0 := hF
  obtain ⟨hF1, hF2, hF3⟩ := hF0
  change ∀ t ∈ ks, Fit _ t at hF3
  change ks.length ≤ 20000 at hF1
  change s.length ≤ maxLen at hF2
  have hL := Lst.of hk
  have hkn : ks.length ≤ 20000 := hF1
  by_cases hk40 : k = 40
  · subst hk40
    have HR : Hid (expB r (.mk 40 s m ks) = leafB (.mk 40 s m ks)) := rfl
    have hX0 := Hx.start (w := w) (c0 := .int .i64 40) (c1 := .string ⟨s.toArray⟩) (c2 := .int .i64 m) (c3 := .slice ao ks.length c)
    have c1 := leaf_step.at hG hS hF hk hX0.out
    change Calls Tryz.prog 150 #[.agg #[.int .i64 40, .string ⟨s.toArray⟩, .int .i64 m, .slice ao ks.length c]] w _
    go_enter Tryz.func150, Tryz.ntmps150
    go_wp2_with fail
    refine c1.mono ?_
    rintro e w1 ⟨rfl, hb1⟩
    have hX1 := hX0.next hb1
    clear c1
    obtain ⟨x0, x1, x2, x3⟩ := hX1.cells
    have HX := HR
    go_wp2
    go_ret
    exact ⟨congrArg (fun b => Ending.returned (Value.bool b)) HX.out.symm, hX1.out⟩
  by_cases hk41 : k = 41
  · subst hk41
    have HR : Hid (expB r (.mk 41 s m ks) = leafB (.mk 41 s m ks)) := rfl
    have hX0 := Hx.start (w := w) (c0 := .int .i64 41) (c1 := .string ⟨s.toArray⟩) (c2 := .int .i64 m) (c3 := .slice ao ks.length c)
    have c1 := leaf_step.at hG hS hF hk hX0.out
    change Calls Tryz.prog 150 #[.agg #[.int .i64 41, .string ⟨s.toArray⟩, .int .i64 m, .slice ao ks.length c]] w _
    go_enter Tryz.func150, Tryz.ntmps150
    go_wp2_with fail
    refine c1.mono ?_
    rintro e w1 ⟨rfl, hb1⟩
    have hX1 := hX0.next hb1
    clear c1
    obtain ⟨x0, x1, x2, x3⟩ := hX1.cells
    have HX := HR
    go_wp2
    go_ret
    exact ⟨congrArg (fun b => Ending.returned (Value.bool b)) HX.out.symm, hX1.out⟩
  by_cases hk42 : k = 42
  · subst hk42
    have HR : Hid (expB r (.mk 42 s m ks) = leafB (.mk 42 s m ks)) := rfl
    have hX0 := Hx.start (w := w) (c0 := .int .i64 42) (c1 := .string ⟨s.toArray⟩) (c2 := .int .i64 m) (c3 := .slice ao ks.length c)
    have c1 := leaf_step.at hG hS hF hk hX0.out
    change Calls Tryz.prog 150 #[.agg #[.int .i64 42, .string ⟨s.toArray⟩, .int .i64 m, .slice ao ks.length c]] w _
    go_enter Tryz.func150, Tryz.ntmps150
    go_wp2_with fail
    refine c1.mono ?_
    rintro e w1 ⟨rfl, hb1⟩
    have hX1 := hX0.next hb1
    clear c1
    obtain ⟨x0, x1, x2, x3⟩ := hX1.cells
    have HX := HR
    go_wp2
    go_ret
    exact ⟨congrArg (fun b => Ending.returned (Value.bool b)) HX.out.symm, hX1.out⟩
  by_cases hk43 : k = 43
  · subst hk43
    have HR : Hid (expB r (.mk 43 s m ks) = leafB (.mk 43 s m ks)) := rfl
    have hX0 := Hx.start (w := w) (c0 := .int .i64 43) (c1 := .string ⟨s.toArray⟩) (c2 := .int .i64 m) (c3 := .slice ao ks.length c)
    have c1 := leaf_step.at hG hS hF hk hX0.out
    change Calls Tryz.prog 150 #[.agg #[.int .i64 43, .string ⟨s.toArray⟩, .int .i64 m, .slice ao ks.length c]] w _
    go_enter Tryz.func150, Tryz.ntmps150
    go_wp2_with fail
    refine c1.mono ?_
    rintro e w1 ⟨rfl, hb1⟩
    have hX1 := hX0.next hb1
    clear c1
    obtain ⟨x0, x1, x2, x3⟩ := hX1.cells
    have HX := HR
    go_wp2
    go_ret
    exact ⟨congrArg (fun b => Ending.returned (Value.bool b)) HX.out.symm, hX1.out⟩
  by_cases hk44 : k = 44
  · subst hk44
    have HR : Hid (expB r (.mk 44 s m ks) = leafB (.mk 44 s m ks)) := rfl
    have hX0 := Hx.start (w := w) (c0 := .int .i64 44) (c1 := .string ⟨s.toArray⟩) (c2 := .int .i64 m) (c3 := .slice ao ks.length c)
    have c1 := leaf_step.at hG hS hF hk hX0.out
    change Calls Tryz.prog 150 #[.agg #[.int .i64 44, .string ⟨s.toArray⟩, .int .i64 m, .slice ao ks.length c]] w _
    go_enter Tryz.func150, Tryz.ntmps150
    go_wp2_with fail
    refine c1.mono ?_
    rintro e w1 ⟨rfl, hb1⟩
    have hX1 := hX0.next hb1
    clear c1
    obtain ⟨x0, x1, x2, x3⟩ := hX1.cells
    have HX := HR
    go_wp2
    go_ret
    exact ⟨congrArg (fun b => Ending.returned (Value.bool b)) HX.out.symm, hX1.out⟩
  by_cases hk45 : k = 45
  · subst hk45
    have HR : Hid (expB r (.mk 45 s m ks) = (namedT (.mk 45 s m ks) && ks.all (r .exp))) := rfl
    have hX0 := Hx.start (w := w) (c0 := .int .i64 45) (c1 := .string ⟨s.toArray⟩) (c2 := .int .i64 m) (c3 := .slice ao ks.length c)
    have c1 := namedS_any (.mk 45 s m ks) ao ks.length c _ (hG.later hX0.out) hF2
    change Calls Tryz.prog 150 #[.agg #[.int .i64 45, .string ⟨s.toArray⟩, .int .i64 m, .slice ao ks.length c]] w _
    go_enter Tryz.func150, Tryz.ntmps150
    go_wp2_with fail
    refine c1.mono ?_
    rintro e w1 ⟨rfl, hb1⟩
    have hX1 := hX0.next hb1
    clear c1
    obtain ⟨x0, x1, x2, x3⟩ := hX1.cells
    cases h1 : namedT (.mk 45 s m ks) with
    | false =>
      have HX : Hid (expB r (.mk 45 s m ks) = false) := HR.out.trans (by rw [h1]; try rfl)
      clear h1
      go_wp2
      go_ret
      exact ⟨congrArg (fun b => Ending.returned (Value.bool b)) HX.out.symm, hX1.out⟩
    | true =>
      have HR1 : Hid (expB r (.mk 45 s m ks) = ks.all (r .exp)) := HR.out.trans (by rw [h1]; try rfl)
      clear h1
      have c2 := everyW ent_exp hExp hG hS hF3 hF1 hL hX1.out
      go_wp2_with fail
      refine c2.mono ?_
      rintro e w2 ⟨rfl, hb2⟩
      have hX2 := hX1.next hb2
      clear c2
      clear x0 x1 x2 x3
      obtain ⟨x0, x1, x2, x3⟩ := hX2.cells
      have HX := HR1
      go_wp2
      go_ret
      exact ⟨congrArg (fun b => Ending.returned (Value.bool b)) HX.out.symm, hX2.out⟩
  by_cases hk46 : k = 46
  · subst hk46
    have HR : Hid (expB r (.mk 46 s m ks) = (bareT (.mk 46 s m ks) && partedB ks 1 (r .typ) (r .exp))) := rfl
    have hX0 := Hx.start (w := w) (c0 := .int .i64 46) (c1 := .string ⟨s.toArray⟩) (c2 := .int .i64 m) (c3 := .slice ao ks.length c)
    have c1 := bareW hX0.out (.mk 46 s m ks) ao ks.length c
    change Calls Tryz.prog 150 #[.agg #[.int .i64 46, .string ⟨s.toArray⟩, .int .i64 m, .slice ao ks.length c]] w _
    go_enter Tryz.func150, Tryz.ntmps150
    go_wp2_with fail
    refine c1.mono ?_
    rintro e w1 ⟨rfl, hb1⟩
    have hX1 := hX0.next hb1
    clear c1
    obtain ⟨x0, x1, x2, x3⟩ := hX1.cells
    cases h1 : bareT (.mk 46 s m ks) with
    | false =>
      have HX : Hid (expB r (.mk 46 s m ks) = false) := HR.out.trans (by rw [h1]; try rfl)
      clear h1
      go_wp2
      go_ret
      exact ⟨congrArg (fun b => Ending.returned (Value.bool b)) HX.out.symm, hX1.out⟩
    | true =>
      have HR1 : Hid (expB r (.mk 46 s m ks) = partedB ks 1 (r .typ) (r .exp)) := HR.out.trans (by rw [h1]; try rfl)
      clear h1
      have c2 := partedW ent_typ ent_exp hTyp hExp hG hS hF3 hF1 hL hX1.out 1
      go_wp2_with fail
      refine c2.mono ?_
      rintro e w2 ⟨rfl, hb2⟩
      have hX2 := hX1.next hb2
      clear c2
      clear x0 x1 x2 x3
      obtain ⟨x0, x1, x2, x3⟩ := hX2.cells
      have HX := HR1
      go_wp2
      go_ret
      exact ⟨congrArg (fun b => Ending.returned (Value.bool b)) HX.out.symm, hX2.out⟩
  by_cases hk47 : k = 47
  · subst hk47
    have HR : Hid (expB r (.mk 47 s m ks) = (bareT (.mk 47 s m ks) && rowB [r .sig, r .blk] ks)) := rfl
    have hX0 := Hx.start (w := w) (c0 := .int .i64 47) (c1 := .string ⟨s.toArray⟩) (c2 := .int .i64 m) (c3 := .slice ao ks.length c)
    have c1 := bareW hX0.out (.mk 47 s m ks) ao ks.length c
    change Calls Tryz.prog 150 #[.agg #[.int .i64 47, .string ⟨s.toArray⟩, .int .i64 m, .slice ao ks.length c]] w _
    go_enter Tryz.func150, Tryz.ntmps150
    go_wp2_with fail
    refine c1.mono ?_
    rintro e w1 ⟨rfl, hb1⟩
    have hX1 := hX0.next hb1
    clear c1
    obtain ⟨x0, x1, x2, x3⟩ := hX1.cells
    cases h1 : bareT (.mk 47 s m ks) with
    | false =>
      have HX : Hid (expB r (.mk 47 s m ks) = false) := HR.out.trans (by rw [h1]; try rfl)
      clear h1
      go_wp2
      go_ret
      exact ⟨congrArg (fun b => Ending.returned (Value.bool b)) HX.out.symm, hX1.out⟩
    | true =>
      have HR1 : Hid (expB r (.mk 47 s m ks) = rowB [r .sig, r .blk] ks) := HR.out.trans (by rw [h1]; try rfl)
      clear h1
      have c2 := rowW2 ent_sig ent_blk hSig hBlk hG hS hF3 hL hX1.out
      go_wp2_with fail
      refine c2.mono ?_
      rintro e w2 ⟨rfl, hb2⟩
      have hX2 := hX1.next hb2
      clear c2
      clear x0 x1 x2 x3
      obtain ⟨x0, x1, x2, x3⟩ := hX2.cells
      have HX := HR1
      go_wp2
      go_ret
      exact ⟨congrArg (fun b => Ending.returned (Value.bool b)) HX.out.symm, hX2.out⟩
  by_cases hk48 : k = 48
  · subst hk48
    have HR : Hid (expB r (.mk 48 s m ks) = (namedT (.mk 48 s m ks) && rowB [r .exp] ks)) := rfl
    have hX0 := Hx.start (w := w) (c0 := .int .i64 48) (c1 := .string ⟨s.toArray⟩) (c2 := .int .i64 m) (c3 := .slice ao ks.length c)
    have c1 := namedS_any (.mk 48 s m ks) ao ks.length c _ (hG.later hX0.out) hF2
    change Calls Tryz.prog 150 #[.agg #[.int .i64 48, .string ⟨s.toArray⟩, .int .i64 m, .slice ao ks.length c]] w _
    go_enter Tryz.func150, Tryz.ntmps150
    go_wp2_with fail
    refine c1.mono ?_
    rintro e w1 ⟨rfl, hb1⟩
    have hX1 := hX0.next hb1
    clear c1
    obtain ⟨x0, x1, x2, x3⟩ := hX1.cells
    cases h1 : namedT (.mk 48 s m ks) with
    | false =>
      have HX : Hid (expB r (.mk 48 s m ks) = false) := HR.out.trans (by rw [h1]; try rfl)
      clear h1
      go_wp2
      go_ret
      exact ⟨congrArg (fun b => Ending.returned (Value.bool b)) HX.out.symm, hX1.out⟩
    | true =>
      have HR1 : Hid (expB r (.mk 48 s m ks) = rowB [r .exp] ks) := HR.out.trans (by rw [h1]; try rfl)
      clear h1
      have c2 := rowW1 ent_exp hExp hG hS hF3 hL hX1.out
      go_wp2_with fail
      refine c2.mono ?_
      rintro e w2 ⟨rfl, hb2⟩
      have hX2 := hX1.next hb2
      clear c2
      clear x0 x1 x2 x3
      obtain ⟨x0, x1, x2, x3⟩ := hX2.cells
      have HX := HR1
      go_wp2
      go_ret
      exact ⟨congrArg (fun b => Ending.returned (Value.bool b)) HX.out.symm, hX2.out⟩
  by_cases hk49 : k = 49
  · subst hk49
    have HR : Hid (expB r (.mk 49 s m ks) = (bareT (.mk 49 s m ks) && rowB [r .exp, r .exp] ks)) := rfl
    have hX0 := Hx.start (w := w) (c0 := .int .i64 49) (c1 := .string ⟨s.toArray⟩) (c2 := .int .i64 m) (c3 := .slice ao ks.length c)
    have c1 := bareW hX0.out (.mk 49 s m ks) ao ks.length c
    change Calls Tryz.prog 150 #[.agg #[.int .i64 49, .string ⟨s.toArray⟩, .int .i64 m, .slice ao ks.length c]] w _
    go_enter Tryz.func150, Tryz.ntmps150
    go_wp2_with fail
    refine c1.mono ?_
    rintro e w1 ⟨rfl, hb1⟩
    have hX1 := hX0.next hb1
    clear c1
    obtain ⟨x0, x1, x2, x3⟩ := hX1.cells
    cases h1 : bareT (.mk 49 s m ks) with
    | false =>
      have HX : Hid (expB r (.mk 49 s m ks) = false) := HR.out.trans (by rw [h1]; try rfl)
      clear h1
      go_wp2
      go_ret
      exact ⟨congrArg (fun b => Ending.returned (Value.bool b)) HX.out.symm, hX1.out⟩
    | true =>
      have HR1 : Hid (expB r (.mk 49 s m ks) = rowB [r .exp, r .exp] ks) := HR.out.trans (by rw [h1]; try rfl)
      clear h1
      have c2 := rowW2 ent_exp ent_exp hExp hExp hG hS hF3 hL hX1.out
      go_wp2_with fail
      refine c2.mono ?_
      rintro e w2 ⟨rfl, hb2⟩
      have hX2 := hX1.next hb2
      clear c2
      clear x0 x1 x2 x3
      obtain ⟨x0, x1, x2, x3⟩ := hX2.cells
      have HX := HR1
      go_wp2
      go_ret
      exact ⟨congrArg (fun b => Ending.returned (Value.bool b)) HX.out.symm, hX2.out⟩
  by_cases hk50 : k = 50
  · subst hk50
    exact hCut s m ks _ S w hG hS hF hk
  by_cases hk51 : k = 51
  · subst hk51
    have HR : Hid (expB r (.mk 51 s m ks) = (bareT (.mk 51 s m ks) && (decide (0 < ks.length) && ks.all (r .exp)))) := rfl
    have hX0 := Hx.start (w := w) (c0 := .int .i64 51) (c1 := .string ⟨s.toArray⟩) (c2 := .int .i64 m) (c3 := .slice ao ks.length c)
    cases hp0 : decide (0 < ks.length) with
    | true =>
      have ql : 0 < ks.length := of_decide_eq_true hp0
      have c1 := bareW hX0.out (.mk 51 s m ks) ao ks.length c
      change Calls Tryz.prog 150 #[.agg #[.int .i64 51, .string ⟨s.toArray⟩, .int .i64 m, .slice ao ks.length c]] w _
      go_enter Tryz.func150, Tryz.ntmps150
      go_wp2_with fail
      refine c1.mono ?_
      rintro e w1 ⟨rfl, hb1⟩
      have hX1 := hX0.next hb1
      clear c1
      obtain ⟨x0, x1, x2, x3⟩ := hX1.cells
      cases h1 : bareT (.mk 51 s m ks) with
      | false =>
        have HX : Hid (expB r (.mk 51 s m ks) = false) := HR.out.trans (by rw [h1]; try rfl)
        clear h1
        go_wp2
        go_ret
        exact ⟨congrArg (fun b => Ending.returned (Value.bool b)) HX.out.symm, hX1.out⟩
      | true =>
        have HR1 : Hid (expB r (.mk 51 s m ks) = (decide (0 < ks.length) && ks.all (r .exp))) := HR.out.trans (by rw [h1]; try rfl)
        clear h1
        have HR1p : Hid (expB r (.mk 51 s m ks) = ks.all (r .exp)) := HR1.out.trans (by rw [hp0]; try rfl)
        have c2 := everyW ent_exp hExp hG hS hF3 hF1 hL hX1.out
        go_wp2_with fail
        refine c2.mono ?_
        rintro e w2 ⟨rfl, hb2⟩
        have hX2 := hX1.next hb2
        clear c2
        clear x0 x1 x2 x3
        obtain ⟨x0, x1, x2, x3⟩ := hX2.cells
        have HX := HR1p
        go_wp2
        go_ret
        exact ⟨congrArg (fun b => Ending.returned (Value.bool b)) HX.out.symm, hX2.out⟩
    | false =>
      have ql : ¬ (0 < ks.length) := of_decide_eq_false hp0
      have c1 := bareW hX0.out (.mk 51 s m ks) ao ks.length c
      change Calls Tryz.prog 150 #[.agg #[.int .i64 51, .string ⟨s.toArray⟩, .int .i64 m, .slice ao ks.length c]] w _
      go_enter Tryz.func150, Tryz.ntmps150
      go_wp2_with fail
      refine c1.mono ?_
      rintro e w1 ⟨rfl, hb1⟩
      have hX1 := hX0.next hb1
      clear c1
      obtain ⟨x0, x1, x2, x3⟩ := hX1.cells
      cases h1 : bareT (.mk 51 s m ks) with
      | false =>
        have HX : Hid (expB r (.mk 51 s m ks) = false) := HR.out.trans (by rw [h1]; try rfl)
        clear h1
        go_wp2
        go_ret
        exact ⟨congrArg (fun b => Ending.returned (Value.bool b)) HX.out.symm, hX1.out⟩
      | true =>
        have HR1 : Hid (expB r (.mk 51 s m ks) = (decide (0 < ks.length) && ks.all (r .exp))) := HR.out.trans (by rw [h1]; try rfl)
        clear h1
        have HX : Hid (expB r (.mk 51 s m ks) = false) := HR1.out.trans (by rw [hp0]; try rfl)
        go_wp2
        go_ret
        exact ⟨congrArg (fun b => Ending.returned (Value.bool b)) HX.out.symm, hX1.out⟩
  by_cases hk52 : k = 52
  · subst hk52
    have HR : Hid (expB r (.mk 52 s m ks) = ((m == 0) && (prefixL s && rowB [r .exp] ks))) := rfl
    have hX0 := Hx.start (w := w) (c0 := .int .i64 52) (c1 := .string ⟨s.toArray⟩) (c2 := .int .i64 m) (c3 := .slice ao ks.length c)
    cases hpm : (m == 0) with
    | true =>
      have HRp : Hid (expB r (.mk 52 s m ks) = (prefixL s && rowB [r .exp] ks)) := HR.out.trans (by rw [hpm]; try rfl)
      have c1 := prefixW s hX0.out
      change Calls Tryz.prog 150 #[.agg #[.int .i64 52, .string ⟨s.toArray⟩, .int .i64 m, .slice ao ks.length c]] w _
      go_enter Tryz.func150, Tryz.ntmps150
      go_wp2_with fail
      refine c1.mono ?_
      rintro e w1 ⟨rfl, hb1⟩
      have hX1 := hX0.next hb1
      clear c1
      obtain ⟨x0, x1, x2, x3⟩ := hX1.cells
      cases h1 : prefixL s with
      | false =>
        have HX : Hid (expB r (.mk 52 s m ks) = false) := HRp.out.trans (by rw [h1]; try rfl)
        clear h1
        go_wp2
        go_ret
        exact ⟨congrArg (fun b => Ending.returned (Value.bool b)) HX.out.symm, hX1.out⟩
      | true =>
        have HR1 : Hid (expB r (.mk 52 s m ks) = rowB [r .exp] ks) := HRp.out.trans (by rw [h1]; try rfl)
        clear h1
        have c2 := rowW1 ent_exp hExp hG hS hF3 hL hX1.out
        go_wp2_with fail
        refine c2.mono ?_
        rintro e w2 ⟨rfl, hb2⟩
        have hX2 := hX1.next hb2
        clear c2
        clear x0 x1 x2 x3
        obtain ⟨x0, x1, x2, x3⟩ := hX2.cells
        have HX := HR1
        go_wp2
        go_ret
        exact ⟨congrArg (fun b => Ending.returned (Value.bool b)) HX.out.symm, hX2.out⟩
    | false =>
      have HX : Hid (expB r (.mk 52 s m ks) = false) := HR.out.trans (by rw [hpm]; try rfl)
      change Calls Tryz.prog 150 #[.agg #[.int .i64 52, .string ⟨s.toArray⟩, .int .i64 m, .slice ao ks.length c]] w _
      go_enter Tryz.func150, Tryz.ntmps150
      go_wp2
      go_ret
      exact ⟨congrArg (fun b => Ending.returned (Value.bool b)) HX.out.symm, hX0.out⟩
  by_cases hk53 : k = 53
  · subst hk53
    have HR : Hid (expB r (.mk 53 s m ks) = ((m == 0) && (decide (0 < rankL s) && rowB [r .exp, r .exp] ks))) := rfl
    have hX0 := Hx.start (w := w) (c0 := .int .i64 53) (c1 := .string ⟨s.toArray⟩) (c2 := .int .i64 m) (c3 := .slice ao ks.length c)
    cases hpm : (m == 0) with
    | true =>
      have HRp : Hid (expB r (.mk 53 s m ks) = (decide (0 < rankL s) && rowB [r .exp, r .exp] ks)) := HR.out.trans (by rw [hpm]; try rfl)
      have c1 := rankW s hX0.out
      change Calls Tryz.prog 150 #[.agg #[.int .i64 53, .string ⟨s.toArray⟩, .int .i64 m, .slice ao ks.length c]] w _
      go_enter Tryz.func150, Tryz.ntmps150
      go_wp2_with fail
      refine c1.mono ?_
      rintro e w1 ⟨rfl, hb1⟩
      have hX1 := hX0.next hb1
      clear c1
      obtain ⟨x0, x1, x2, x3⟩ := hX1.cells
      cases h1 : decide (0 < rankL s) with
      | false =>
        have HX : Hid (expB r (.mk 53 s m ks) = false) := HRp.out.trans (by rw [h1]; try rfl)
        have hrk : ¬ (0 < rankL s) := of_decide_eq_false h1
        clear h1
        go_wp2
        go_ret
        exact ⟨congrArg (fun b => Ending.returned (Value.bool b)) HX.out.symm, hX1.out⟩
      | true =>
        have HR1 : Hid (expB r (.mk 53 s m ks) = rowB [r .exp, r .exp] ks) := HRp.out.trans (by rw [h1]; try rfl)
        have hrk : 0 < rankL s := of_decide_eq_true h1
        clear h1
        have c2 := rowW2 ent_exp ent_exp hExp hExp hG hS hF3 hL hX1.out
        go_wp2_with fail
        refine c2.mono ?_
        rintro e w2 ⟨rfl, hb2⟩
        have hX2 := hX1.next hb2
        clear c2
        clear x0 x1 x2 x3
        obtain ⟨x0, x1, x2, x3⟩ := hX2.cells
        have HX := HR1
        go_wp2
        go_ret
        exact ⟨congrArg (fun b => Ending.returned (Value.bool b)) HX.out.symm, hX2.out⟩
    | false =>
      have HX : Hid (expB r (.mk 53 s m ks) = false) := HR.out.trans (by rw [hpm]; try rfl)
      change Calls Tryz.prog 150 #[.agg #[.int .i64 53, .string ⟨s.toArray⟩, .int .i64 m, .slice ao ks.length c]] w _
      go_enter Tryz.func150, Tryz.ntmps150
      go_wp2
      go_ret
      exact ⟨congrArg (fun b => Ending.returned (Value.bool b)) HX.out.symm, hX0.out⟩
  have HX : Hid (expB r (.mk k s m ks) = false) := by simp [Hid, expB, Tr.kind, hk40, hk41, hk42, hk43, hk44, hk45, hk46, hk47, hk48, hk49, hk50, hk51, hk52, hk53]
  have hX0 := Hx.start (w := w) (c0 := .int .i64 k) (c1 := .string ⟨s.toArray⟩) (c2 := .int .i64 m) (c3 := .slice ao ks.length c)
  have e40 : (k == 40) = false := by simpa using hk40
  clear hk40
  have e41 : (k == 41) = false := by simpa using hk41
  clear hk41
  have e42 : (k == 42) = false := by simpa using hk42
  clear hk42
  have e43 : (k == 43) = false := by simpa using hk43
  clear hk43
  have e44 : (k == 44) = false := by simpa using hk44
  clear hk44
  have e45 : (k == 45) = false := by simpa using hk45
  clear hk45
  have e46 : (k == 46) = false := by simpa using hk46
  clear hk46
  have e47 : (k == 47) = false := by simpa using hk47
  clear hk47
  have e48 : (k == 48) = false := by simpa using hk48
  clear hk48
  have e49 : (k == 49) = false := by simpa using hk49
  clear hk49
  have e50 : (k == 50) = false := by simpa using hk50
  clear hk50
  have e51 : (k == 51) = false := by simpa using hk51
  clear hk51
  have e52 : (k == 52) = false := by simpa using hk52
  clear hk52
  have e53 : (k == 53) = false := by simpa using hk53
  clear hk53
  change Calls Tryz.prog 150 #[.agg #[.int .i64 k, .string ⟨s.toArray⟩, .int .i64 m, .slice ao ks.length c]] w _
  go_enter Tryz.func150, Tryz.ntmps150
  go_wp2
  go_ret
  exact ⟨congrArg (fun b => Ending.returned (Value.bool b)) HX.out.symm, hX0.out⟩
end Go.Proofs.YtbejkphekfbfnaaGreat
