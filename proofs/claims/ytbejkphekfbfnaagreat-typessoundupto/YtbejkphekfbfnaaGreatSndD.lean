/- Tests of leaves. -/
import Derived.Test.YtbejkphekfbfnaaGreatSndC
namespace Go.Proofs.YtbejkphekfbfnaaGreat
open Go.RowKit
attribute [local go_sem ↓] Go.wp_at_zero Go.wp_at_succ

set_option maxRecDepth 20000 in
set_option maxHeartbeats 4000000 in
theorem leaf_step {n : Nat} : Tst 167 (n + 1) (leafB) := by
  intro t sl S w hG hS hF hk
  obtain ⟨k, s, m, ks⟩ := t
  obtain ⟨ao, c, rfl⟩ := (Lst.of hk).slice
  have hF0 := hF
  obtain ⟨hF1, hF2, hF3⟩ := hF0
  change ∀ t ∈ ks, Fit _ t at hF3
  change ks.length ≤ 20000 at hF1
  change s.length ≤ maxLen at hF2
  have hL := Lst.of hk
  have hkn : ks.length ≤ 20000 := hF1
  by_cases hl : 0 < ks.length
  · have HX : Hid (leafB (.mk k s m ks) = false) := if_pos hl
    have hX0 := Hx.start (w := w) (c0 := .int .i64 k) (c1 := .string ⟨s.toArray⟩) (c2 := .int .i64 m) (c3 := .slice ao ks.length c)
    change Calls Tryz.prog 167 #[.agg #[.int .i64 k, .string ⟨s.toArray⟩, .int .i64 m, .slice ao ks.length c]] w _
    go_enter Tryz.func167, Tryz.ntmps167
    go_wp2
    go_ret
    exact ⟨congrArg (fun b => Ending.returned (Value.bool b)) HX.out.symm, hX0.out⟩
  by_cases hk40 : k = 40
  · subst hk40
    have HR : Hid (leafB (.mk 40 s m ks) = (numberedT (.mk 40 s m ks) && decide (0 ≤ m))) := (if_neg hl).trans rfl
    have hX0 := Hx.start (w := w) (c0 := .int .i64 40) (c1 := .string ⟨s.toArray⟩) (c2 := .int .i64 m) (c3 := .slice ao ks.length c)
    cases hp0 : decide (0 ≤ m) with
    | true =>
      have qm : 0 ≤ m := of_decide_eq_true hp0
      have c1 := numberedW hX0.out (.mk 40 s m ks) ao ks.length c
      change Calls Tryz.prog 167 #[.agg #[.int .i64 40, .string ⟨s.toArray⟩, .int .i64 m, .slice ao ks.length c]] w _
      go_enter Tryz.func167, Tryz.ntmps167
      go_wp2_with fail
      refine c1.mono ?_
      rintro e w1 ⟨rfl, hb1⟩
      have hX1 := hX0.next hb1
      clear c1
      obtain ⟨x0, x1, x2, x3⟩ := hX1.cells
      cases h1 : numberedT (.mk 40 s m ks) with
      | false =>
        have HX : Hid (leafB (.mk 40 s m ks) = false) := HR.out.trans (by rw [h1]; try rfl)
        clear h1
        go_wp2
        go_ret
        exact ⟨congrArg (fun b => Ending.returned (Value.bool b)) HX.out.symm, hX1.out⟩
      | true =>
        have HR1 : Hid (leafB (.mk 40 s m ks) = decide (0 ≤ m)) := HR.out.trans (by rw [h1]; try rfl)
        clear h1
        have HX : Hid (leafB (.mk 40 s m ks) = true) := HR1.out.trans (by rw [hp0]; try rfl)
        go_wp2
        go_ret
        exact ⟨congrArg (fun b => Ending.returned (Value.bool b)) HX.out.symm, hX1.out⟩
    | false =>
      have qm : ¬ (0 ≤ m) := of_decide_eq_false hp0
      have c1 := numberedW hX0.out (.mk 40 s m ks) ao ks.length c
      change Calls Tryz.prog 167 #[.agg #[.int .i64 40, .string ⟨s.toArray⟩, .int .i64 m, .slice ao ks.length c]] w _
      go_enter Tryz.func167, Tryz.ntmps167
      go_wp2_with fail
      refine c1.mono ?_
      rintro e w1 ⟨rfl, hb1⟩
      have hX1 := hX0.next hb1
      clear c1
      obtain ⟨x0, x1, x2, x3⟩ := hX1.cells
      cases h1 : numberedT (.mk 40 s m ks) with
      | false =>
        have HX : Hid (leafB (.mk 40 s m ks) = false) := HR.out.trans (by rw [h1]; try rfl)
        clear h1
        go_wp2
        go_ret
        exact ⟨congrArg (fun b => Ending.returned (Value.bool b)) HX.out.symm, hX1.out⟩
      | true =>
        have HR1 : Hid (leafB (.mk 40 s m ks) = decide (0 ≤ m)) := HR.out.trans (by rw [h1]; try rfl)
        clear h1
        have HX : Hid (leafB (.mk 40 s m ks) = false) := HR1.out.trans (by rw [hp0]; try rfl)
        go_wp2
        go_ret
        exact ⟨congrArg (fun b => Ending.returned (Value.bool b)) HX.out.symm, hX1.out⟩
  by_cases hk41 : k = 41
  · subst hk41
    have HR : Hid (leafB (.mk 41 s m ks) = ((m == 0) && decide (s.length ≤ 1024))) := (if_neg hl).trans rfl
    have hX0 := Hx.start (w := w) (c0 := .int .i64 41) (c1 := .string ⟨s.toArray⟩) (c2 := .int .i64 m) (c3 := .slice ao ks.length c)
    cases hp0 : (m == 0) with
    | true =>
      cases hp1 : decide (s.length ≤ 1024) with
      | true =>
        have qm : (s.length : Int) ≤ 1024 := by have := of_decide_eq_true hp1; omega
        have HRp : Hid (leafB (.mk 41 s m ks) = decide (s.length ≤ 1024)) := HR.out.trans (by rw [hp0]; try rfl)
        have HX : Hid (leafB (.mk 41 s m ks) = true) := HRp.out.trans (by rw [hp1]; try rfl)
        change Calls Tryz.prog 167 #[.agg #[.int .i64 41, .string ⟨s.toArray⟩, .int .i64 m, .slice ao ks.length c]] w _
        go_enter Tryz.func167, Tryz.ntmps167
        go_wp2
        go_ret
        exact ⟨congrArg (fun b => Ending.returned (Value.bool b)) HX.out.symm, hX0.out⟩
      | false =>
        have qm : ¬ ((s.length : Int) ≤ 1024) := by have := of_decide_eq_false hp1; omega
        have HRp : Hid (leafB (.mk 41 s m ks) = decide (s.length ≤ 1024)) := HR.out.trans (by rw [hp0]; try rfl)
        have HX : Hid (leafB (.mk 41 s m ks) = false) := HRp.out.trans (by rw [hp1]; try rfl)
        change Calls Tryz.prog 167 #[.agg #[.int .i64 41, .string ⟨s.toArray⟩, .int .i64 m, .slice ao ks.length c]] w _
        go_enter Tryz.func167, Tryz.ntmps167
        go_wp2
        go_ret
        exact ⟨congrArg (fun b => Ending.returned (Value.bool b)) HX.out.symm, hX0.out⟩
    | false =>
      cases hp1 : decide (s.length ≤ 1024) with
      | true =>
        have qm : (s.length : Int) ≤ 1024 := by have := of_decide_eq_true hp1; omega
        have HX : Hid (leafB (.mk 41 s m ks) = false) := HR.out.trans (by rw [hp0]; try rfl)
        change Calls Tryz.prog 167 #[.agg #[.int .i64 41, .string ⟨s.toArray⟩, .int .i64 m, .slice ao ks.length c]] w _
        go_enter Tryz.func167, Tryz.ntmps167
        go_wp2
        go_ret
        exact ⟨congrArg (fun b => Ending.returned (Value.bool b)) HX.out.symm, hX0.out⟩
      | false =>
        have qm : ¬ ((s.length : Int) ≤ 1024) := by have := of_decide_eq_false hp1; omega
        have HX : Hid (leafB (.mk 41 s m ks) = false) := HR.out.trans (by rw [hp0]; try rfl)
        change Calls Tryz.prog 167 #[.agg #[.int .i64 41, .string ⟨s.toArray⟩, .int .i64 m, .slice ao ks.length c]] w _
        go_enter Tryz.func167, Tryz.ntmps167
        go_wp2
        go_ret
        exact ⟨congrArg (fun b => Ending.returned (Value.bool b)) HX.out.symm, hX0.out⟩
  by_cases hk42 : k = 42
  · subst hk42
    have HR : Hid (leafB (.mk 42 s m ks) = (numberedT (.mk 42 s m ks) && (m == 0 || m == 1))) := (if_neg hl).trans rfl
    have hX0 := Hx.start (w := w) (c0 := .int .i64 42) (c1 := .string ⟨s.toArray⟩) (c2 := .int .i64 m) (c3 := .slice ao ks.length c)
    cases hq0 : (m == 0) with
    | true =>
      cases hq1 : (m == 1) with
      | true =>
        have c1 := numberedW hX0.out (.mk 42 s m ks) ao ks.length c
        change Calls Tryz.prog 167 #[.agg #[.int .i64 42, .string ⟨s.toArray⟩, .int .i64 m, .slice ao ks.length c]] w _
        go_enter Tryz.func167, Tryz.ntmps167
        go_wp2_with fail
        refine c1.mono ?_
        rintro e w1 ⟨rfl, hb1⟩
        have hX1 := hX0.next hb1
        clear c1
        obtain ⟨x0, x1, x2, x3⟩ := hX1.cells
        cases h1 : numberedT (.mk 42 s m ks) with
        | false =>
          have HX : Hid (leafB (.mk 42 s m ks) = false) := HR.out.trans (by rw [h1]; try rfl)
          clear h1
          go_wp2
          go_ret
          exact ⟨congrArg (fun b => Ending.returned (Value.bool b)) HX.out.symm, hX1.out⟩
        | true =>
          have HR1 : Hid (leafB (.mk 42 s m ks) = (m == 0 || m == 1)) := HR.out.trans (by rw [h1]; try rfl)
          clear h1
          have HX : Hid (leafB (.mk 42 s m ks) = true) := HR1.out.trans (by rw [hq0]; try rfl)
          go_wp2
          go_ret
          exact ⟨congrArg (fun b => Ending.returned (Value.bool b)) HX.out.symm, hX1.out⟩
      | false =>
        have c1 := numberedW hX0.out (.mk 42 s m ks) ao ks.length c
        change Calls Tryz.prog 167 #[.agg #[.int .i64 42, .string ⟨s.toArray⟩, .int .i64 m, .slice ao ks.length c]] w _
        go_enter Tryz.func167, Tryz.ntmps167
        go_wp2_with fail
        refine c1.mono ?_
        rintro e w1 ⟨rfl, hb1⟩
        have hX1 := hX0.next hb1
        clear c1
        obtain ⟨x0, x1, x2, x3⟩ := hX1.cells
        cases h1 : numberedT (.mk 42 s m ks) with
        | false =>
          have HX : Hid (leafB (.mk 42 s m ks) = false) := HR.out.trans (by rw [h1]; try rfl)
          clear h1
          go_wp2
          go_ret
          exact ⟨congrArg (fun b => Ending.returned (Value.bool b)) HX.out.symm, hX1.out⟩
        | true =>
          have HR1 : Hid (leafB (.mk 42 s m ks) = (m == 0 || m == 1)) := HR.out.trans (by rw [h1]; try rfl)
          clear h1
          have HX : Hid (leafB (.mk 42 s m ks) = true) := HR1.out.trans (by rw [hq0]; try rfl)
          go_wp2
          go_ret
          exact ⟨congrArg (fun b => Ending.returned (Value.bool b)) HX.out.symm, hX1.out⟩
    | false =>
      cases hq1 : (m == 1) with
      | true =>
        have c1 := numberedW hX0.out (.mk 42 s m ks) ao ks.length c
        change Calls Tryz.prog 167 #[.agg #[.int .i64 42, .string ⟨s.toArray⟩, .int .i64 m, .slice ao ks.length c]] w _
        go_enter Tryz.func167, Tryz.ntmps167
        go_wp2_with fail
        refine c1.mono ?_
        rintro e w1 ⟨rfl, hb1⟩
        have hX1 := hX0.next hb1
        clear c1
        obtain ⟨x0, x1, x2, x3⟩ := hX1.cells
        cases h1 : numberedT (.mk 42 s m ks) with
        | false =>
          have HX : Hid (leafB (.mk 42 s m ks) = false) := HR.out.trans (by rw [h1]; try rfl)
          clear h1
          go_wp2
          go_ret
          exact ⟨congrArg (fun b => Ending.returned (Value.bool b)) HX.out.symm, hX1.out⟩
        | true =>
          have HR1 : Hid (leafB (.mk 42 s m ks) = (m == 0 || m == 1)) := HR.out.trans (by rw [h1]; try rfl)
          clear h1
          have HX : Hid (leafB (.mk 42 s m ks) = true) := HR1.out.trans (by rw [hq0, hq1]; try rfl)
          go_wp2
          go_ret
          exact ⟨congrArg (fun b => Ending.returned (Value.bool b)) HX.out.symm, hX1.out⟩
      | false =>
        have c1 := numberedW hX0.out (.mk 42 s m ks) ao ks.length c
        change Calls Tryz.prog 167 #[.agg #[.int .i64 42, .string ⟨s.toArray⟩, .int .i64 m, .slice ao ks.length c]] w _
        go_enter Tryz.func167, Tryz.ntmps167
        go_wp2_with fail
        refine c1.mono ?_
        rintro e w1 ⟨rfl, hb1⟩
        have hX1 := hX0.next hb1
        clear c1
        obtain ⟨x0, x1, x2, x3⟩ := hX1.cells
        cases h1 : numberedT (.mk 42 s m ks) with
        | false =>
          have HX : Hid (leafB (.mk 42 s m ks) = false) := HR.out.trans (by rw [h1]; try rfl)
          clear h1
          go_wp2
          go_ret
          exact ⟨congrArg (fun b => Ending.returned (Value.bool b)) HX.out.symm, hX1.out⟩
        | true =>
          have HR1 : Hid (leafB (.mk 42 s m ks) = (m == 0 || m == 1)) := HR.out.trans (by rw [h1]; try rfl)
          clear h1
          have HX : Hid (leafB (.mk 42 s m ks) = false) := HR1.out.trans (by rw [hq0, hq1]; try rfl)
          go_wp2
          go_ret
          exact ⟨congrArg (fun b => Ending.returned (Value.bool b)) HX.out.symm, hX1.out⟩
  by_cases hk44 : k = 44
  · subst hk44
    have HR : Hid (leafB (.mk 44 s m ks) = namedT (.mk 44 s m ks)) := (if_neg hl).trans rfl
    have hX0 := Hx.start (w := w) (c0 := .int .i64 44) (c1 := .string ⟨s.toArray⟩) (c2 := .int .i64 m) (c3 := .slice ao ks.length c)
    have c1 := namedS_any (.mk 44 s m ks) ao ks.length c _ (hG.later hX0.out) hF2
    change Calls Tryz.prog 167 #[.agg #[.int .i64 44, .string ⟨s.toArray⟩, .int .i64 m, .slice ao ks.length c]] w _
    go_enter Tryz.func167, Tryz.ntmps167
    go_wp2_with fail
    refine c1.mono ?_
    rintro e w1 ⟨rfl, hb1⟩
    have hX1 := hX0.next hb1
    clear c1
    obtain ⟨x0, x1, x2, x3⟩ := hX1.cells
    have HX := HR
    go_wp2
    go_ret
    exact ⟨congrArg (fun b => Ending.returned (Value.bool b)) HX.out.symm, hX1.out⟩
  have HR : Hid (leafB (.mk k s m ks) = bareT (.mk k s m ks)) := by simp [Hid, leafB, Tr.kids, Tr.kind, hl, hk40, hk41, hk42, hk44]
  have e40 : (k == 40) = false := by simpa using hk40
  clear hk40
  have e41 : (k == 41) = false := by simpa using hk41
  clear hk41
  have e42 : (k == 42) = false := by simpa using hk42
  clear hk42
  have e44 : (k == 44) = false := by simpa using hk44
  clear hk44
  have hX0 := Hx.start (w := w) (c0 := .int .i64 k) (c1 := .string ⟨s.toArray⟩) (c2 := .int .i64 m) (c3 := .slice ao ks.length c)
  have c1 := bareW hX0.out (.mk k s m ks) ao ks.length c
  change Calls Tryz.prog 167 #[.agg #[.int .i64 k, .string ⟨s.toArray⟩, .int .i64 m, .slice ao ks.length c]] w _
  go_enter Tryz.func167, Tryz.ntmps167
  go_wp2_with fail
  refine c1.mono ?_
  rintro e w1 ⟨rfl, hb1⟩
  have hX1 := hX0.next hb1
  clear c1
  obtain ⟨x0, x1, x2, x3⟩ := hX1.cells
  have HX := HR
  go_wp2
  go_ret
  exact ⟨congrArg (fun b => Ending.returned (Value.bool b)) HX.out.symm, hX1.out⟩
end Go.Proofs.YtbejkphekfbfnaaGreat
