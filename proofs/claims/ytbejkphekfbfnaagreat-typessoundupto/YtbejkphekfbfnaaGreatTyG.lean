/- Types that lie; IsSound; Same, the program's and the document's. -/
import Derived.Test.YtbejkphekfbfnaaGreatTyF
namespace Go.Proofs.YtbejkphekfbfnaaGreat
open Go.RowKit
attribute [local go_sem ↓] Go.wp_at_zero Go.wp_at_succ

/-- A type lies in memory, and is not too large to be counted. -/
structure Ty (w : World) (t : Tr) (sl : Value) : Prop where
  kt : KT w (fun b => b < w.heap.size) t sl
  tx : ∀ n, TxN n t
  cnt : cntN t ≤ 2000000
theorem Ty.later {w W : World} {t : Tr} {sl : Value} (h : Ty w t sl) (hb : Below w.heap.size w W) : Ty W t sl :=
  ⟨h.kt.fr (fun b hb' => hb.block b hb') (fun _ h => Nat.lt_of_lt_of_le h hb.size), h.tx, h.cnt⟩
theorem Ty.slice {w : World} {k : Int} {s : List UInt8} {m : Int} {ks : List Tr} {sl : Value} (h : Ty w (.mk k s m ks) sl) : ∃ ao c, sl = .slice ao ks.length c := (Lst.of h.kt).slice
theorem sound_lim {t : Tr} (h : soundP t = true) : Lim 100 t := by
  refine lim_of_small ?_
  rw [smallT_iff]
  simp only [soundP, Bool.and_eq_true] at h ⊢
  exact h.1
theorem Ty.sound {w : World} {t : Tr} {sl : Value} (h : Ty w t sl) : Calls Tryz.prog 36 #[tv t sl] w (OutB (soundP t) w) := by
  obtain ⟨k, s, m, ks⟩ := t
  exact sound_any4 k s m ks sl _ w (h.tx 100) (fun _ h => h) h.kt

theorem soundP_eq (k : Int) (s : List UInt8) (m : Int) (ks : List Tr) : soundP (.mk k s m ks) = (decide (((1 + cntNL ks : Nat) : Int) ≤ 20000) && (decide (((depNL ks + 1 : Nat) : Int) ≤ 100) && formT (.mk k s m ks))) := by
  simp only [soundP, cntN, depN, Bool.and_assoc]
  congr 1
  · exact decide_eq_decide.2 (by omega)
  · congr 1; exact decide_eq_decide.2 (by omega)
set_option maxHeartbeats 1000000 in
theorem rsound_any (k : Int) (s : List UInt8) (m : Int) (ks : List Tr) (ao : Option Addr) (c : Nat) (w : World) (h : Ty w (.mk k s m ks) (.slice ao ks.length c)) :
    Calls Tryz.prog 38 #[.agg #[.int .i64 k, .string ⟨s.toArray⟩, .int .i64 m, .slice ao ks.length c]] w (OutB (soundP (.mk k s m ks)) w) := by
  have HR := Lib.hid (soundP_eq k s m ks)
  have hX0 := Hxt.start (w := w) (c0 := .int .i64 k) (c1 := .string ⟨s.toArray⟩) (c2 := .int .i64 m) (c3 := .slice ao ks.length c)
  have h1 := h.later hX0.out
  have cS := rsize_any 2000000 k s m ks ao c _ _ h.cnt (by omega) (fun _ h => h) h1.kt
  have HT := Lib.hid h
  have hc := h.cnt
  have hd := depNL_le ks
  simp only [cntN] at hc
  clear h h1
  generalize hA : 1 + cntNL ks = A at *
  generalize hD : depNL ks + 1 = D at *
  have hD2 : D ≤ 2000001 := by omega
  clear hA hD hd
  by_cases e1 : (A : Int) ≤ 20000
  · have d1 : decide ((A : Int) ≤ 20000) = true := by simpa using e1
    by_cases e2 : (D : Int) ≤ 100
    · have d2 : decide ((D : Int) ≤ 100) = true := by simpa using e2
      have HX : Hid (soundP (.mk k s m ks) = formT (.mk k s m ks)) := HR.out.trans (by rw [d1, d2]; simp)
      go_enter Tryz.func38, Tryz.ntmps38
      go_wp2_with fail
      refine cS.mono ?_
      rintro e w2 ⟨rfl, hb2⟩
      have hX := hX0.next hb2
      obtain ⟨x0, x1, x2, x3⟩ := hX.cells
      have hT2 := HT.out.later hX.out
      have cF := rformed_any 2000000 k s m ks ao c _ w2 hT2.cnt (by omega) (hT2.tx _) (fun _ h => h) hT2.kt
      clear cS hX0 hb2 hT2
      go_wp2_with fail
      refine cF.mono ?_
      rintro e w3 ⟨rfl, hb3⟩
      have hX3 := hX.next hb3
      clear cF
      go_wp2
      go_ret
      exact OutB.of HX ⟨by simp, hX3.out⟩
    · have d2 : decide ((D : Int) ≤ 100) = false := by simpa using e2
      have HX : Hid (soundP (.mk k s m ks) = false) := HR.out.trans (by rw [d2]; simp)
      go_enter Tryz.func38, Tryz.ntmps38
      go_wp2_with fail
      refine cS.mono ?_
      rintro e w2 ⟨rfl, hb2⟩
      have hX := hX0.next hb2
      clear cS hX0 hb2
      go_wp2
      go_ret
      exact OutB.of HX ⟨rfl, hX.out⟩
  · have d1 : decide ((A : Int) ≤ 20000) = false := by simpa using e1
    have HX : Hid (soundP (.mk k s m ks) = false) := HR.out.trans (by rw [d1]; simp)
    go_enter Tryz.func38, Tryz.ntmps38
    go_wp2_with fail
    refine cS.mono ?_
    rintro e w2 ⟨rfl, hb2⟩
    have hX := hX0.next hb2
    clear cS hX0 hb2
    go_wp2
    go_ret
    exact OutB.of HX ⟨rfl, hX.out⟩
theorem Ty.rsound {w : World} {t : Tr} {sl : Value} (h : Ty w t sl) : Calls Tryz.prog 38 #[tv t sl] w (OutB (soundP t) w) := by
  obtain ⟨k, s, m, ks⟩ := t
  obtain ⟨ao, c, rfl⟩ := h.slice
  exact rsound_any k s m ks ao c w h

def sameP (a b : Tr) : Bool := soundP a && (soundP b && sameT a b)
set_option maxHeartbeats 1000000 in
theorem psame_any (k : Int) (s : List UInt8) (m : Int) (ks : List Tr) (k' : Int) (s' : List UInt8) (m' : Int) (ks' : List Tr) (ao : Option Addr) (c : Nat) (ao' : Option Addr) (c' : Nat) (w : World) (h : Ty w (.mk k s m ks) (.slice ao ks.length c)) (h' : Ty w (.mk k' s' m' ks') (.slice ao' ks'.length c')) :
    Calls Tryz.prog 13 #[.agg #[.int .i64 k, .string ⟨s.toArray⟩, .int .i64 m, .slice ao ks.length c], .agg #[.int .i64 k', .string ⟨s'.toArray⟩, .int .i64 m', .slice ao' ks'.length c']] w (OutB (sameP (.mk k s m ks) (.mk k' s' m' ks')) w) := by
  have HR : Hid (sameP (.mk k s m ks) (.mk k' s' m' ks') = (soundP (.mk k s m ks) && (soundP (.mk k' s' m' ks') && sameT (.mk k s m ks) (.mk k' s' m' ks')))) := rfl
  have hX0 := Hyt.start (w := w) (c0 := .int .i64 k) (c1 := .string ⟨s.toArray⟩) (c2 := .int .i64 m) (c3 := .slice ao ks.length c) (d0 := .int .i64 k') (d1 := .string ⟨s'.toArray⟩) (d2 := .int .i64 m') (d3 := .slice ao' ks'.length c')
  have cA := Ty.sound (h.later hX0.out)
  simp only [tv, Tr.kind, Tr.text, Tr.num] at cA
  have HT := Lib.hid h
  have HT' := Lib.hid h'
  clear h h'
  cases e1 : soundP (.mk k s m ks) with
  | false =>
    have HX : Hid (sameP (.mk k s m ks) (.mk k' s' m' ks') = false) := HR.out.trans (by rw [e1]; simp)
    rw [e1] at cA
    clear e1
    go_enter Tryz.func13, Tryz.ntmps13
    go_wp2_with fail
    refine cA.mono ?_
    rintro e w2 ⟨rfl, hb2⟩
    have hX := hX0.next hb2
    clear cA hX0 hb2
    go_wp2
    go_ret
    exact OutB.of HX ⟨rfl, hX.out⟩
  | true =>
    rw [e1] at cA
    have HS := Lib.hid (sound_lim e1)
    cases e2 : soundP (.mk k' s' m' ks') with
    | false =>
      have HX : Hid (sameP (.mk k s m ks) (.mk k' s' m' ks') = false) := HR.out.trans (by rw [e2]; simp)
      have E2 := Lib.hid e2
      clear e1 e2
      go_enter Tryz.func13, Tryz.ntmps13
      go_wp2_with fail
      refine cA.mono ?_
      rintro e w2 ⟨rfl, hb2⟩
      have hX := hX0.next hb2
      obtain ⟨x0, x1, x2, x3, y0, y1, y2, y3⟩ := hX.cells
      have cB := Ty.sound (HT'.out.later hX.out)
      rw [E2.out] at cB
      simp only [tv, Tr.kind, Tr.text, Tr.num] at cB
      clear cA hX0 hb2
      go_wp2_with fail
      refine cB.mono ?_
      rintro e w3 ⟨rfl, hb3⟩
      have hX3 := hX.next hb3
      clear cB hb3
      go_wp2
      go_ret
      exact OutB.of HX ⟨rfl, hX3.out⟩
    | true =>
      have HX : Hid (sameP (.mk k s m ks) (.mk k' s' m' ks') = sameT (.mk k s m ks) (.mk k' s' m' ks')) := HR.out.trans (by rw [e1, e2]; simp)
      have E2 := Lib.hid e2
      clear e1 e2
      go_enter Tryz.func13, Tryz.ntmps13
      go_wp2_with fail
      refine cA.mono ?_
      rintro e w2 ⟨rfl, hb2⟩
      have hX := hX0.next hb2
      obtain ⟨x0, x1, x2, x3, y0, y1, y2, y3⟩ := hX.cells
      have cB := Ty.sound (HT'.out.later hX.out)
      rw [E2.out] at cB
      simp only [tv, Tr.kind, Tr.text, Tr.num] at cB
      clear cA hX0 hb2
      go_wp2_with fail
      refine cB.mono ?_
      rintro e w3 ⟨rfl, hb3⟩
      have hX3 := hX.next hb3
      obtain ⟨p0, p1, p2, p3, q0, q1, q2, q3⟩ := hX3.cells
      have cE := same4_any 100 k s m ks k' s' m' ks' ao c ao' c' _ _ w3 HS.out (fun _ h => h) (fun _ h => h) (HT.out.later hX3.out).kt (HT'.out.later hX3.out).kt
      clear cB hb3 x0 x1 x2 x3 y0 y1 y2 y3
      go_wp2_with fail
      refine cE.mono ?_
      rintro e w4 ⟨rfl, hb4⟩
      have hX4 := hX3.next hb4
      clear cE hb4
      go_wp2
      go_ret
      exact OutB.of HX ⟨by simp, hX4.out⟩

set_option maxHeartbeats 1000000 in
theorem rsame_any (k : Int) (s : List UInt8) (m : Int) (ks : List Tr) (k' : Int) (s' : List UInt8) (m' : Int) (ks' : List Tr) (ao : Option Addr) (c : Nat) (ao' : Option Addr) (c' : Nat) (w : World) (h : Ty w (.mk k s m ks) (.slice ao ks.length c)) (h' : Ty w (.mk k' s' m' ks') (.slice ao' ks'.length c')) :
    Calls Tryz.prog 14 #[.agg #[.int .i64 k, .string ⟨s.toArray⟩, .int .i64 m, .slice ao ks.length c], .agg #[.int .i64 k', .string ⟨s'.toArray⟩, .int .i64 m', .slice ao' ks'.length c']] w (OutB (sameP (.mk k s m ks) (.mk k' s' m' ks')) w) := by
  have HR : Hid (sameP (.mk k s m ks) (.mk k' s' m' ks') = (soundP (.mk k s m ks) && (soundP (.mk k' s' m' ks') && sameT (.mk k s m ks) (.mk k' s' m' ks')))) := rfl
  have hX0 := Hyt.start (w := w) (c0 := .int .i64 k) (c1 := .string ⟨s.toArray⟩) (c2 := .int .i64 m) (c3 := .slice ao ks.length c) (d0 := .int .i64 k') (d1 := .string ⟨s'.toArray⟩) (d2 := .int .i64 m') (d3 := .slice ao' ks'.length c')
  have cA := Ty.rsound (h.later hX0.out)
  simp only [tv, Tr.kind, Tr.text, Tr.num] at cA
  have HT := Lib.hid h
  have HT' := Lib.hid h'
  clear h h'
  cases e1 : soundP (.mk k s m ks) with
  | false =>
    have HX : Hid (sameP (.mk k s m ks) (.mk k' s' m' ks') = false) := HR.out.trans (by rw [e1]; simp)
    rw [e1] at cA
    clear e1
    go_enter Tryz.func14, Tryz.ntmps14
    go_wp2_with fail
    refine cA.mono ?_
    rintro e w2 ⟨rfl, hb2⟩
    have hX := hX0.next hb2
    clear cA hX0 hb2
    go_wp2
    go_ret
    exact OutB.of HX ⟨rfl, hX.out⟩
  | true =>
    rw [e1] at cA
    have HS := Lib.hid (sound_lim e1)
    cases e2 : soundP (.mk k' s' m' ks') with
    | false =>
      have HX : Hid (sameP (.mk k s m ks) (.mk k' s' m' ks') = false) := HR.out.trans (by rw [e2]; simp)
      have E2 := Lib.hid e2
      clear e1 e2
      go_enter Tryz.func14, Tryz.ntmps14
      go_wp2_with fail
      refine cA.mono ?_
      rintro e w2 ⟨rfl, hb2⟩
      have hX := hX0.next hb2
      obtain ⟨x0, x1, x2, x3, y0, y1, y2, y3⟩ := hX.cells
      have cB := Ty.rsound (HT'.out.later hX.out)
      rw [E2.out] at cB
      simp only [tv, Tr.kind, Tr.text, Tr.num] at cB
      clear cA hX0 hb2
      go_wp2_with fail
      refine cB.mono ?_
      rintro e w3 ⟨rfl, hb3⟩
      have hX3 := hX.next hb3
      clear cB hb3
      go_wp2
      go_ret
      exact OutB.of HX ⟨rfl, hX3.out⟩
    | true =>
      have HX : Hid (sameP (.mk k s m ks) (.mk k' s' m' ks') = sameT (.mk k s m ks) (.mk k' s' m' ks')) := HR.out.trans (by rw [e1, e2]; simp)
      have E2 := Lib.hid e2
      clear e1 e2
      go_enter Tryz.func14, Tryz.ntmps14
      go_wp2_with fail
      refine cA.mono ?_
      rintro e w2 ⟨rfl, hb2⟩
      have hX := hX0.next hb2
      obtain ⟨x0, x1, x2, x3, y0, y1, y2, y3⟩ := hX.cells
      have cB := Ty.rsound (HT'.out.later hX.out)
      rw [E2.out] at cB
      simp only [tv, Tr.kind, Tr.text, Tr.num] at cB
      clear cA hX0 hb2
      go_wp2_with fail
      refine cB.mono ?_
      rintro e w3 ⟨rfl, hb3⟩
      have hX3 := hX.next hb3
      obtain ⟨p0, p1, p2, p3, q0, q1, q2, q3⟩ := hX3.cells
      have cE := requal_any 100 k s m ks k' s' m' ks' ao c ao' c' _ _ w3 HS.out (fun _ h => h) (fun _ h => h) (HT.out.later hX3.out).kt (HT'.out.later hX3.out).kt
      clear cB hb3 x0 x1 x2 x3 y0 y1 y2 y3
      go_wp2_with fail
      refine cE.mono ?_
      rintro e w4 ⟨rfl, hb4⟩
      have hX4 := hX3.next hb4
      clear cE hb4
      go_wp2
      go_ret
      exact OutB.of HX ⟨by simp, hX4.out⟩

end Go.Proofs.YtbejkphekfbfnaaGreat
