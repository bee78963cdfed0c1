/- fits: may a declaration stand beside the others? -/
import Derived.Test.YtbejkphekfbfnaaGreatDcF
namespace Go.Proofs.YtbejkphekfbfnaaGreat
open Go.RowKit Go.Maps
attribute [local go_sem ↓] Go.wp_at_zero Go.wp_at_succ

def fitP (ds : List Dc) (d : Dc) : Bool := distP d && (d.fs.all (kfP ds) && d.ms.all (kmP ds))
set_option maxRecDepth 20000 in
theorem enters_knownField : Enters Tryz.prog 116 := enters_of Tryz.func116 (by kernel_rfl) rfl
set_option maxRecDepth 20000 in
theorem enters_knownMethod : Enters Tryz.prog 117 := enters_of Tryz.func117 (by kernel_rfl) rfl
set_option maxRecDepth 20000 in
theorem enters_fits : Enters Tryz.prog 83 := enters_of Tryz.func83 (by kernel_rfl) rfl
theorem mem_cnt {f : Fl} (h : memP f = true) : cntN f.2 ≤ 1000000 := by
  simp only [memP, soundP, Bool.and_eq_true, decide_eq_true_eq] at h
  omega
theorem fields_any (ds : List Dc) (b : Nat) (fs : List Fl) (sl : Value) (w : World) (hD : DX w b ds) (hn : fs.length ≤ 1000000) (hL : FL w fs sl) (hm : fs.all memP = true) : Calls Tryz.prog 112 #[sl, .func (.func 116) #[.map (some b)] #[]] w (OutB (fs.all (kfP ds)) w) :=
  everyF_any (kfP ds) 116 #[.map (some b)] enters_knownField fs sl w hn hL fun f ao n c w1 hf hT hl hb => by
    have hc := mem_cnt (List.all_eq_true.1 hm f hf)
    obtain ⟨nm, k, s, m, ks⟩ := f
    obtain ⟨ao', c', e⟩ := hT.slice
    cases e
    rw [show (#[.map (some b)] : Array Value) ++ #[fv (nm, .mk k s m ks) (.slice ao ks.length c)] = #[.map (some b), fv (nm, .mk k s m ks) (.slice ao ks.length c)] from by simp]
    exact knownField_any ds b nm k s m ks ao c w1 (hD.later hb) hT hc
theorem methods_any (ds : List Dc) (b : Nat) (fs : List Fl) (sl : Value) (w : World) (hD : DX w b ds) (hn : fs.length ≤ 1000000) (hL : FL w fs sl) (hm : fs.all metP = true) : Calls Tryz.prog 112 #[sl, .func (.func 117) #[.map (some b)] #[]] w (OutB (fs.all (kmP ds)) w) :=
  everyF_any (kmP ds) 117 #[.map (some b)] enters_knownMethod fs sl w hn hL fun f ao n c w1 hf hT hl hb => by
    have hq := List.all_eq_true.1 hm f hf
    have hc := mem_cnt (f := f) (by simp only [metP, Bool.and_eq_true] at hq; exact hq.2)
    obtain ⟨nm, k, s, m, ks⟩ := f
    obtain ⟨ao', c', e⟩ := hT.slice
    cases e
    rw [show (#[.map (some b)] : Array Value) ++ #[fv (nm, .mk k s m ks) (.slice ao ks.length c)] = #[.map (some b), fv (nm, .mk k s m ks) (.slice ao ks.length c)] from by simp]
    exact knownMethod_any ds b nm k s m ks ao c w1 (hD.later hb) hT hc
set_option maxHeartbeats 2000000 in
theorem fits_any (ds : List Dc) (b : Nat) (n : List UInt8) (ifc : Bool) (fs ms : List Fl) (a1 a2 : Option Addr) (c1 c2 : Nat) (w : World) (hD : DX w b ds) (h1 : FL w fs (.slice a1 fs.length c1)) (h2 : FL w ms (.slice a2 ms.length c2)) (l1 : fs.length ≤ 100000) (l2 : ms.length ≤ 100000) (m1 : fs.all memP = true) (m2 : ms.all metP = true) :
    Calls Tryz.prog 83 #[.map (some b), .agg #[.string ⟨n.toArray⟩, .bool ifc, .slice a1 fs.length c1, .slice a2 ms.length c2]] w (OutB (fitP ds ⟨n, ifc, fs, ms⟩) w) := by
  have HR : Hid (fitP ds ⟨n, ifc, fs, ms⟩ = (distP ⟨n, ifc, fs, ms⟩ && (fs.all (kfP ds) && ms.all (kmP ds)))) := rfl
  have hX0 := Hb.start (w := w) (cs := #[.string ⟨n.toArray⟩, .bool ifc, .slice a1 fs.length c1, .slice a2 ms.length c2]) (T := 60)
  have cN := distinct_any n ifc fs ms a1 a2 c1 c2 _ (h1.later hX0.out) (h2.later hX0.out) l1 l2
  have HK : Hid (∀ w1, Hb w #[.string ⟨n.toArray⟩, .bool ifc, .slice a1 fs.length c1, .slice a2 ms.length c2] 60 w1 → Calls Tryz.prog 112 #[.slice a1 fs.length c1, .func (.func 116) #[.map (some b)] #[]] w1 (OutB (fs.all (kfP ds)) w1)) := fun w1 hX => fields_any ds b fs _ w1 (hD.later hX.out) (by omega) (h1.later hX.out) m1
  have HK2 : Hid (∀ w1, Hb w #[.string ⟨n.toArray⟩, .bool ifc, .slice a1 fs.length c1, .slice a2 ms.length c2] 60 w1 → Calls Tryz.prog 112 #[.slice a2 ms.length c2, .func (.func 117) #[.map (some b)] #[]] w1 (OutB (ms.all (kmP ds)) w1)) := fun w1 hX => methods_any ds b ms _ w1 (hD.later hX.out) (by omega) (h2.later hX.out) m2
  clear h1 h2 hD m1 m2 l1 l2
  have x0 := hX0.cell 0 rfl
  have x1 := hX0.cell 1 rfl
  have x2 := hX0.cell 2 rfl
  have x3 := hX0.cell 3 rfl
  generalize fs.all (kfP ds) = q1 at *
  generalize ms.all (kmP ds) = q2 at *
  cases hN : distP ⟨n, ifc, fs, ms⟩ with
  | false =>
    rw [hN] at cN
    have HX : Hid (fitP ds ⟨n, ifc, fs, ms⟩ = false) := HR.out.trans (by rw [hN]; rfl)
    clear hN
    go_enter Tryz.func83, Tryz.ntmps83
    go_wp2_with fail
    refine cN.mono ?_
    rintro e w1 ⟨rfl, hb1⟩
    have hX := hX0.next hb1
    clear cN hb1 hX0
    go_wp2
    go_ret
    exact OutB.of HX ⟨rfl, hX.out⟩
  | true =>
    rw [hN] at cN
    have HR2 : Hid (fitP ds ⟨n, ifc, fs, ms⟩ = (q1 && q2)) := HR.out.trans (by rw [hN]; rfl)
    clear hN HR
    cases q1 with
    | false =>
      have HX : Hid (fitP ds ⟨n, ifc, fs, ms⟩ = false) := HR2.out
      go_enter Tryz.func83, Tryz.ntmps83
      go_wp2_with fail
      refine cN.mono ?_
      rintro e w1 ⟨rfl, hb1⟩
      have hX := hX0.next hb1
      have y2 := hX.cell 2 rfl
      have cM := HK.out w1 hX
      clear cN hb1 hX0 x0 x1 x2 x3
      go_wp2_with fail
      refine cM.mono ?_
      rintro e w2 ⟨rfl, hb2⟩
      have hX2 := hX.next hb2
      clear cM hb2
      go_wp2
      go_ret
      exact OutB.of HX ⟨rfl, hX2.out⟩
    | true =>
      have HX : Hid (fitP ds ⟨n, ifc, fs, ms⟩ = q2) := HR2.out.trans (by simp)
      go_enter Tryz.func83, Tryz.ntmps83
      go_wp2_with fail
      refine cN.mono ?_
      rintro e w1 ⟨rfl, hb1⟩
      have hX := hX0.next hb1
      have y2 := hX.cell 2 rfl
      have cM := HK.out w1 hX
      clear cN hb1 hX0 x0 x1 x2 x3
      go_wp2_with fail
      refine cM.mono ?_
      rintro e w2 ⟨rfl, hb2⟩
      have hX2 := hX.next hb2
      have y3 := hX2.cell 3 rfl
      have cM2 := HK2.out w2 hX2
      clear cM hb2
      go_wp2_with fail
      refine cM2.mono ?_
      rintro e w3 ⟨rfl, hb3⟩
      have hX3 := hX2.next hb3
      clear cM2 hb3
      go_wp2
      go_ret
      exact OutB.of HX ⟨by simp, hX3.out⟩
end Go.Proofs.YtbejkphekfbfnaaGreat
