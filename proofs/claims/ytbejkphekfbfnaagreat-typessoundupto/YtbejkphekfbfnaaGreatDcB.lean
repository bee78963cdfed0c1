/- Small and sound declarations. -/
import Derived.Test.YtbejkphekfbfnaaGreatDcA
namespace Go.Proofs.YtbejkphekfbfnaaGreat
open Go.RowKit
attribute [local go_sem ↓] Go.wp_at_zero Go.wp_at_succ

def smallP (d : Dc) : Bool := decide ((d.fs.length : Int) ≤ 64) && decide ((d.ms.length : Int) ≤ 64)
def dsP (d : Dc) : Bool := freeP d.name && ((!d.ifc || ((d.fs.length : Int) == 0)) && (d.fs.all memP && d.ms.all metP))
theorem smallDecl_any (n : List UInt8) (ifc : Bool) (fs ms : List Fl) (a1 a2 : Option Addr) (c1 c2 : Nat) (w : World) :
    Calls Tryz.prog 80 #[.agg #[.string ⟨n.toArray⟩, .bool ifc, .slice a1 fs.length c1, .slice a2 ms.length c2]] w (OutB (smallP ⟨n, ifc, fs, ms⟩) w) := by
  have HR : Hid (smallP ⟨n, ifc, fs, ms⟩ = (decide ((fs.length : Int) ≤ 64) && decide ((ms.length : Int) ≤ 64))) := rfl
  have hX0 := Hb.start (w := w) (cs := #[.string ⟨n.toArray⟩, .bool ifc, .slice a1 fs.length c1, .slice a2 ms.length c2]) (T := 60)
  cases hf : decide ((fs.length : Int) ≤ 64) with
  | false =>
    have HX : Hid (smallP ⟨n, ifc, fs, ms⟩ = false) := HR.out.trans (by rw [hf]; rfl)
    go_enter Tryz.func80, Tryz.ntmps80
    go_wp2
    go_ret
    exact OutB.of HX ⟨rfl, hX0.out⟩
  | true =>
    have HX : Hid (smallP ⟨n, ifc, fs, ms⟩ = decide ((ms.length : Int) ≤ 64)) := HR.out.trans (by rw [hf]; rfl)
    go_enter Tryz.func80, Tryz.ntmps80
    go_wp2
    go_ret
    exact OutB.of HX ⟨by simp, hX0.out⟩
set_option maxRecDepth 20000 in
theorem enters_soundMember : Enters Tryz.prog 113 := enters_of Tryz.func113 (by kernel_rfl) rfl
set_option maxRecDepth 20000 in
theorem enters_soundMethod : Enters Tryz.prog 114 := enters_of Tryz.func114 (by kernel_rfl) rfl
set_option maxRecDepth 20000 in
theorem enters_smallDecl : Enters Tryz.prog 80 := enters_of Tryz.func80 (by kernel_rfl) rfl
set_option maxRecDepth 20000 in
theorem enters_soundDecl : Enters Tryz.prog 81 := enters_of Tryz.func81 (by kernel_rfl) rfl
theorem mems_any (fs : List Fl) (sl : Value) (w : World) (hn : fs.length ≤ 1000000) (hL : FL w fs sl) : Calls Tryz.prog 112 #[sl, .func (.func 113) #[] #[]] w (OutB (fs.all memP) w) :=
  everyF_any memP 113 #[] enters_soundMember fs sl w hn hL fun f ao n c w1 _ hT hl _ => by
    obtain ⟨nm, k, s, m, ks⟩ := f
    obtain ⟨ao', c', e⟩ := hT.slice
    cases e
    rw [show (#[] : Array Value) ++ #[fv (nm, .mk k s m ks) (.slice ao ks.length c)] = #[fv (nm, .mk k s m ks) (.slice ao ks.length c)] from by simp]
    exact soundMember_any nm k s m ks ao c w1 hT hl
theorem mets_any (fs : List Fl) (sl : Value) (w : World) (hn : fs.length ≤ 1000000) (hL : FL w fs sl) : Calls Tryz.prog 112 #[sl, .func (.func 114) #[] #[]] w (OutB (fs.all metP) w) :=
  everyF_any metP 114 #[] enters_soundMethod fs sl w hn hL fun f ao n c w1 _ hT hl _ => by
    obtain ⟨nm, k, s, m, ks⟩ := f
    obtain ⟨ao', c', e⟩ := hT.slice
    cases e
    rw [show (#[] : Array Value) ++ #[fv (nm, .mk k s m ks) (.slice ao ks.length c)] = #[fv (nm, .mk k s m ks) (.slice ao ks.length c)] from by simp]
    exact soundMethod_any nm k s m ks ao c w1 hT hl
set_option maxHeartbeats 2000000 in
theorem soundDecl_any (n : List UInt8) (ifc : Bool) (fs ms : List Fl) (a1 a2 : Option Addr) (c1 c2 : Nat) (w : World) (hn : n.length ≤ maxLen) (h1 : FL w fs (.slice a1 fs.length c1)) (h2 : FL w ms (.slice a2 ms.length c2)) (l1 : fs.length ≤ 1000000) (l2 : ms.length ≤ 1000000) :
    Calls Tryz.prog 81 #[.agg #[.string ⟨n.toArray⟩, .bool ifc, .slice a1 fs.length c1, .slice a2 ms.length c2]] w (OutB (dsP ⟨n, ifc, fs, ms⟩) w) := by
  have HR : Hid (dsP ⟨n, ifc, fs, ms⟩ = (freeP n && ((!ifc || ((fs.length : Int) == 0)) && (fs.all memP && ms.all metP)))) := rfl
  have hX0 := Hb.start (w := w) (cs := #[.string ⟨n.toArray⟩, .bool ifc, .slice a1 fs.length c1, .slice a2 ms.length c2]) (T := 60)
  have cN := freeName_any n hn (w.alloc (.cells #[.string ⟨n.toArray⟩, .bool ifc, .slice a1 fs.length c1, .slice a2 ms.length c2] 60))
  have H1 := Lib.hid h1
  have H2 := Lib.hid h2
  clear h1 h2
  cases hN : freeP n with
  | false =>
    rw [hN] at cN
    have HX : Hid (dsP ⟨n, ifc, fs, ms⟩ = false) := HR.out.trans (by rw [hN]; rfl)
    clear hN
    go_enter Tryz.func81, Tryz.ntmps81
    go_wp2_with fail
    refine cN.mono ?_
    rintro e w1 ⟨rfl, hb1⟩
    have hX := hX0.next hb1
    clear cN hb1 hX0
    go_wp2
    go_ret
    exact OutB.of HX ⟨rfl, hX.out⟩
  | true =>
    rw [hN] at cN
    cases hI : (!ifc || ((fs.length : Int) == 0)) with
    | false =>
      have HX : Hid (dsP ⟨n, ifc, fs, ms⟩ = false) := HR.out.trans (by rw [hN, hI]; rfl)
      obtain ⟨rfl, h0⟩ : ifc = true ∧ ((fs.length : Int) == 0) = false := by cases ifc <;> simp_all
      clear hN hI
      go_enter Tryz.func81, Tryz.ntmps81
      go_wp2_with fail
      refine cN.mono ?_
      rintro e w1 ⟨rfl, hb1⟩
      have hX := hX0.next hb1
      have x1 := hX.cell 1 rfl
      have x2 := hX.cell 2 rfl
      clear cN hb1 hX0
      go_wp2
      go_ret
      exact OutB.of HX ⟨rfl, hX.out⟩
    | true =>
      have HR2 : Hid (dsP ⟨n, ifc, fs, ms⟩ = (fs.all memP && ms.all metP)) := HR.out.trans (by rw [hN, hI]; rfl)
      clear hN HR
      have key : ∀ w1, Hb w #[.string ⟨n.toArray⟩, .bool ifc, .slice a1 fs.length c1, .slice a2 ms.length c2] 60 w1 → Calls Tryz.prog 112 #[.slice a1 fs.length c1, .func (.func 113) #[] #[]] w1 (OutB (fs.all memP) w1) := fun w1 hX => mems_any fs _ w1 l1 (H1.out.later hX.out)
      have key2 : ∀ w1, Hb w #[.string ⟨n.toArray⟩, .bool ifc, .slice a1 fs.length c1, .slice a2 ms.length c2] 60 w1 → Calls Tryz.prog 112 #[.slice a2 ms.length c2, .func (.func 114) #[] #[]] w1 (OutB (ms.all metP) w1) := fun w1 hX => mets_any ms _ w1 l2 (H2.out.later hX.out)
      have HK := Lib.hid key
      have HK2 := Lib.hid key2
      clear key key2
      generalize ms.all metP = b2 at *
      have hcase : ifc = false ∨ (ifc = true ∧ ((fs.length : Int) == 0) = true) := by cases ifc <;> simp_all
      clear hI
      cases hM : fs.all memP with
      | false =>
        rw [hM] at HK HR2
        clear hM
        have HX : Hid (dsP ⟨n, ifc, fs, ms⟩ = false) := HR2.out
        rcases hcase with rfl | ⟨rfl, h0⟩
        all_goals
          go_enter Tryz.func81, Tryz.ntmps81
          go_wp2_with fail
          refine cN.mono ?_
          rintro e w1 ⟨rfl, hb1⟩
          have hX := hX0.next hb1
          have x1 := hX.cell 1 rfl
          have x2 := hX.cell 2 rfl
          have cM := HK.out w1 hX
          clear cN hb1 hX0
          go_wp2_with fail
          refine cM.mono ?_
          rintro e w2 ⟨rfl, hb2⟩
          have hX2 := hX.next hb2
          clear cM hb2
          go_wp2
          go_ret
          exact OutB.of HX ⟨rfl, hX2.out⟩
      | true =>
        rw [hM] at HK HR2
        clear hM
        have HX : Hid (dsP ⟨n, ifc, fs, ms⟩ = b2) := HR2.out.trans (by simp)
        rcases hcase with rfl | ⟨rfl, h0⟩
        all_goals
          go_enter Tryz.func81, Tryz.ntmps81
          go_wp2_with fail
          refine cN.mono ?_
          rintro e w1 ⟨rfl, hb1⟩
          have hX := hX0.next hb1
          have x1 := hX.cell 1 rfl
          have x2 := hX.cell 2 rfl
          have cM := HK.out w1 hX
          clear cN hb1 hX0
          go_wp2_with fail
          refine cM.mono ?_
          rintro e w2 ⟨rfl, hb2⟩
          have hX2 := hX.next hb2
          have y3 := hX2.cell 3 rfl
          have cM2 := HK2.out w2 hX2
          clear cM hb2
          go_wp2_with fail
          refine cM2.mono ?_
          rintro e w3 ⟨rfl, hb3⟩
          have hX3 := hX2.next hb3
          clear cM2 hb3
          go_wp2
          go_ret
          exact OutB.of HX ⟨by simp, hX3.out⟩
end Go.Proofs.YtbejkphekfbfnaaGreat
