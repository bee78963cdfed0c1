/- named, isStruct, knownField, knownMethod. -/
import Derived.Test.YtbejkphekfbfnaaGreatDcN
namespace Go.Proofs.YtbejkphekfbfnaaGreat
open Go.RowKit Go.Maps
attribute [local go_sem ↓] Go.wp_at_zero Go.wp_at_succ

theorem named_kind (b : Nat) (k : Int) (s : List UInt8) (m : Int) (ks : List Tr) (ao : Option Addr) (c : Nat) (w : World) (h4 : k ≠ 4) :
    Calls Tryz.prog 89 #[.map (some b), .agg #[.int .i64 k, .string ⟨s.toArray⟩, .int .i64 m, .slice ao ks.length c]] w fun e w' => e = .returned (.tuple #[.agg #[.string ⟨#[]⟩, .bool false, .slice none 0 0, .slice none 0 0], .bool false]) ∧ Below w.heap.size w w' := by
  have f4 : (k == 4) = false := by simpa using h4
  have g4 : (k != 4) = true := by simpa using h4
  go_enter Tryz.func89, Tryz.ntmps89
  go_wp2
  exact bodyPost_ret (v := .tuple #[.agg #[.string ⟨#[]⟩, .bool false, .slice none 0 0, .slice none 0 0], .bool false]) (by simp [results, Tryz.results89, go_sem]) rfl ⟨rfl, ((Below.refl _ _).alloc (Nat.le_refl _) _).alloc (by simp) _⟩
set_option maxHeartbeats 1000000 in
theorem named_no (ds : List Dc) (b : Nat) (s : List UInt8) (m : Int) (ks : List Tr) (ao : Option Addr) (c : Nat) (w : World) (hD : DX w b ds) (hs : s.length ≤ maxLen) (hd : deP ds s = none) :
    Calls Tryz.prog 89 #[.map (some b), .agg #[.int .i64 4, .string ⟨s.toArray⟩, .int .i64 m, .slice ao ks.length c]] w fun e w' => e = .returned (.tuple #[.agg #[.string ⟨#[]⟩, .bool false, .slice none 0 0, .slice none 0 0], .bool false]) ∧ Below w.heap.size w w' := by
  have hB : Below w.heap.size w ((w.alloc (.cells #[.int .i64 4, .string ⟨s.toArray⟩, .int .i64 m, .slice ao ks.length c] 27)).alloc (.cells #[.string ⟨#[]⟩, .bool false, .slice none 0 0, .slice none 0 0] 60)) := ((Below.refl _ _).alloc (Nat.le_refl _) _).alloc (by simp) _
  have hl := (hD.later hB).look0 hs hd
  have HB := Lib.hid hB
  clear hB hD hd
  go_enter Tryz.func89, Tryz.ntmps89
  go_wp2
  exact bodyPost_ret (v := .tuple #[.agg #[.string ⟨#[]⟩, .bool false, .slice none 0 0, .slice none 0 0], .bool false]) (by simp [results, Tryz.results89, go_sem]) rfl ⟨rfl, HB.out.alloc (by simp; omega) _⟩
set_option maxHeartbeats 1000000 in
theorem named_yes (ds : List Dc) (b : Nat) (s : List UInt8) (m : Int) (ks : List Tr) (ao : Option Addr) (c : Nat) (w : World) (hD : DX w b ds) (hs : s.length ≤ maxLen) (d : Dc) (hd : deP ds s = some d) :
    Calls Tryz.prog 89 #[.map (some b), .agg #[.int .i64 4, .string ⟨s.toArray⟩, .int .i64 m, .slice ao ks.length c]] w fun e w' => ∃ a1 c1 a2 c2, e = .returned (.tuple #[.agg #[.string ⟨d.name.toArray⟩, .bool d.ifc, .slice a1 d.fs.length c1, .slice a2 d.ms.length c2], .bool true]) ∧ Below w.heap.size w w' ∧ FL w' d.fs (.slice a1 d.fs.length c1) ∧ FL w' d.ms (.slice a2 d.ms.length c2) := by
  have hB : Below w.heap.size w ((w.alloc (.cells #[.int .i64 4, .string ⟨s.toArray⟩, .int .i64 m, .slice ao ks.length c] 27)).alloc (.cells #[.string ⟨#[]⟩, .bool false, .slice none 0 0, .slice none 0 0] 60)) := ((Below.refl _ _).alloc (Nat.le_refl _) _).alloc (by simp) _
  obtain ⟨a1, c1, a2, c2, hl, f1, f2⟩ := hD.lookW hB hs hd
  have HB := Lib.hid hB
  have F1 := Lib.hid f1
  have F2 := Lib.hid f2
  clear hB hD hd f1 f2
  go_enter Tryz.func89, Tryz.ntmps89
  go_wp2
  have hb3 : Below w.heap.size w (((w.alloc (.cells #[.int .i64 4, .string ⟨s.toArray⟩, .int .i64 m, .slice ao ks.length c] 27)).alloc (.cells #[.string ⟨d.name.toArray⟩, .bool d.ifc, .slice a1 d.fs.length c1, .slice a2 d.ms.length c2] 60)).alloc (.cells #[.string ⟨d.name.toArray⟩, .bool d.ifc, .slice a1 d.fs.length c1, .slice a2 d.ms.length c2] 60)) := (((Below.refl _ _).alloc (Nat.le_refl _) _).alloc (by simp) _).alloc (by simp; omega) _
  exact bodyPost_ret (v := .tuple #[.agg #[.string ⟨d.name.toArray⟩, .bool d.ifc, .slice a1 d.fs.length c1, .slice a2 d.ms.length c2], .bool true]) (by simp [results, Tryz.results89, go_sem]) rfl ⟨a1, c1, a2, c2, rfl, hb3, F1.out.later hb3, F2.out.later hb3⟩
set_option maxHeartbeats 1000000 in
theorem isStruct_any (ds : List Dc) (b : Nat) (k : Int) (s : List UInt8) (m : Int) (ks : List Tr) (ao : Option Addr) (c : Nat) (w : World) (hD : DX w b ds) (hs : s.length ≤ maxLen) :
    Calls Tryz.prog 95 #[.map (some b), .agg #[.int .i64 k, .string ⟨s.toArray⟩, .int .i64 m, .slice ao ks.length c]] w (OutB (strP ds (.mk k s m ks)) w) := by
  have HR : Hid (strP ds (.mk k s m ks) = (k == 4 && (deP ds s).any (fun d => !d.ifc))) := rfl
  have hX0 := Hxt.start (w := w) (c0 := .int .i64 k) (c1 := .string ⟨s.toArray⟩) (c2 := .int .i64 m) (c3 := .slice ao ks.length c)
  by_cases k4 : k = 4
  · subst k4
    cases hd : deP ds s with
    | none =>
      have HX : Hid (strP ds (.mk 4 s m ks) = false) := HR.out.trans (by rw [hd]; simp)
      have cN := named_no ds b s m ks ao c _ (hD.later hX0.out) hs hd
      clear hd hD
      go_enter Tryz.func95, Tryz.ntmps95
      go_wp2_with fail
      refine cN.mono ?_
      rintro e w1 ⟨rfl, hb1⟩
      have hX := hX0.next hb1
      clear cN hb1 hX0
      go_wp2
      go_ret
      exact OutB.of HX ⟨rfl, hX.out.alloc hX.out.size _⟩
    | some d =>
      have HX : Hid (strP ds (.mk 4 s m ks) = (!d.ifc)) := HR.out.trans (by rw [hd]; simp)
      have cN := named_yes ds b s m ks ao c _ (hD.later hX0.out) hs d hd
      clear hd hD
      go_enter Tryz.func95, Tryz.ntmps95
      go_wp2_with fail
      refine cN.mono ?_
      rintro e w1 ⟨a1, c1, a2, c2, rfl, hb1, _, _⟩
      have hX := hX0.next hb1
      clear cN hb1 hX0
      go_wp2
      go_ret
      exact OutB.of HX ⟨by simp, hX.out.alloc hX.out.size _⟩
  · have HX : Hid (strP ds (.mk k s m ks) = false) := HR.out.trans (by simp [k4])
    have cN := named_kind b k s m ks ao c (w.alloc (.cells #[.int .i64 k, .string ⟨s.toArray⟩, .int .i64 m, .slice ao ks.length c] 27)) k4
    clear hD
    go_enter Tryz.func95, Tryz.ntmps95
    go_wp2_with fail
    refine cN.mono ?_
    rintro e w1 ⟨rfl, hb1⟩
    have hX := hX0.next hb1
    clear cN hb1 hX0
    go_wp2
    go_ret
    exact OutB.of HX ⟨rfl, hX.out.alloc hX.out.size _⟩
set_option maxHeartbeats 1000000 in
theorem isIface_any (ds : List Dc) (b : Nat) (k : Int) (s : List UInt8) (m : Int) (ks : List Tr) (ao : Option Addr) (c : Nat) (w : World) (hD : DX w b ds) (hs : s.length ≤ maxLen) :
    Calls Tryz.prog 88 #[.map (some b), .agg #[.int .i64 k, .string ⟨s.toArray⟩, .int .i64 m, .slice ao ks.length c]] w (OutB (ifaP ds (.mk k s m ks)) w) := by
  have HR : Hid (ifaP ds (.mk k s m ks) = (k == 4 && (deP ds s).any (fun d => d.ifc))) := rfl
  have hX0 := Hxt.start (w := w) (c0 := .int .i64 k) (c1 := .string ⟨s.toArray⟩) (c2 := .int .i64 m) (c3 := .slice ao ks.length c)
  by_cases k4 : k = 4
  · subst k4
    cases hd : deP ds s with
    | none =>
      have HX : Hid (ifaP ds (.mk 4 s m ks) = false) := HR.out.trans (by rw [hd]; simp)
      have cN := named_no ds b s m ks ao c _ (hD.later hX0.out) hs hd
      clear hd hD
      go_enter Tryz.func88, Tryz.ntmps88
      go_wp2_with fail
      refine cN.mono ?_
      rintro e w1 ⟨rfl, hb1⟩
      have hX := hX0.next hb1
      clear cN hb1 hX0
      go_wp2
      go_ret
      exact OutB.of HX ⟨rfl, hX.out.alloc hX.out.size _⟩
    | some d =>
      have HX : Hid (ifaP ds (.mk 4 s m ks) = (d.ifc)) := HR.out.trans (by rw [hd]; simp)
      have cN := named_yes ds b s m ks ao c _ (hD.later hX0.out) hs d hd
      clear hd hD
      go_enter Tryz.func88, Tryz.ntmps88
      go_wp2_with fail
      refine cN.mono ?_
      rintro e w1 ⟨a1, c1, a2, c2, rfl, hb1, _, _⟩
      have hX := hX0.next hb1
      clear cN hb1 hX0
      go_wp2
      go_ret
      exact OutB.of HX ⟨by simp, hX.out.alloc hX.out.size _⟩
  · have HX : Hid (ifaP ds (.mk k s m ks) = false) := HR.out.trans (by simp [k4])
    have cN := named_kind b k s m ks ao c (w.alloc (.cells #[.int .i64 k, .string ⟨s.toArray⟩, .int .i64 m, .slice ao ks.length c] 27)) k4
    clear hD
    go_enter Tryz.func88, Tryz.ntmps88
    go_wp2_with fail
    refine cN.mono ?_
    rintro e w1 ⟨rfl, hb1⟩
    have hX := hX0.next hb1
    clear cN hb1 hX0
    go_wp2
    go_ret
    exact OutB.of HX ⟨rfl, hX.out.alloc hX.out.size _⟩
def kfP (ds : List Dc) (f : Fl) : Bool := kwP ds f.2 && !strP ds f.2
def kmP (ds : List Dc) (f : Fl) : Bool := kwP ds f.2
set_option maxHeartbeats 1000000 in
theorem knownMethod_any (ds : List Dc) (b : Nat) (n : List UInt8) (k : Int) (s : List UInt8) (m : Int) (ks : List Tr) (ao : Option Addr) (c : Nat) (w : World) (hD : DX w b ds) (h : Ty w (.mk k s m ks) (.slice ao ks.length c)) (hc : cntN (.mk k s m ks) ≤ 1000000) :
    Calls Tryz.prog 117 #[.map (some b), .agg #[.string ⟨n.toArray⟩, .int .i64 k, .string ⟨s.toArray⟩, .int .i64 m, .slice ao ks.length c]] w (OutB (kmP ds (n, .mk k s m ks)) w) := by
  have hX0 := Hb.start (w := w) (cs := #[.string ⟨n.toArray⟩, .int .i64 k, .string ⟨s.toArray⟩, .int .i64 m, .slice ao ks.length c]) (T := 65)
  have h1 := h.later hX0.out
  have cK := known_any ds b 1000000 k s m ks ao c _ hc (Nat.le_refl _) h1.tx (hD.later hX0.out) h1.kt
  have HX : Hid (kmP ds (n, .mk k s m ks) = kwP ds (.mk k s m ks)) := rfl
  clear h h1 hD
  go_enter Tryz.func117, Tryz.ntmps117
  go_wp2_with fail
  refine cK.mono ?_
  rintro e w1 ⟨rfl, hb1⟩
  have hX := hX0.next hb1
  clear cK hb1 hX0
  go_wp2
  go_ret
  exact OutB.of HX ⟨by simp, hX.out⟩
set_option maxHeartbeats 1000000 in
theorem knownField_any (ds : List Dc) (b : Nat) (n : List UInt8) (k : Int) (s : List UInt8) (m : Int) (ks : List Tr) (ao : Option Addr) (c : Nat) (w : World) (hD : DX w b ds) (h : Ty w (.mk k s m ks) (.slice ao ks.length c)) (hc : cntN (.mk k s m ks) ≤ 1000000) :
    Calls Tryz.prog 116 #[.map (some b), .agg #[.string ⟨n.toArray⟩, .int .i64 k, .string ⟨s.toArray⟩, .int .i64 m, .slice ao ks.length c]] w (OutB (kfP ds (n, .mk k s m ks)) w) := by
  have HR : Hid (kfP ds (n, .mk k s m ks) = (kwP ds (.mk k s m ks) && !strP ds (.mk k s m ks))) := rfl
  have hX0 := Hb.start (w := w) (cs := #[.string ⟨n.toArray⟩, .int .i64 k, .string ⟨s.toArray⟩, .int .i64 m, .slice ao ks.length c]) (T := 65)
  have h1 := h.later hX0.out
  have cK := known_any ds b 1000000 k s m ks ao c _ hc (Nat.le_refl _) h1.tx (hD.later hX0.out) h1.kt
  have HD := Lib.hid hD
  have hs : s.length ≤ maxLen := (h.tx 1).1
  clear h h1 hD
  cases hk : kwP ds (.mk k s m ks) with
  | false =>
    rw [hk] at cK
    have HX : Hid (kfP ds (n, .mk k s m ks) = false) := HR.out.trans (by rw [hk]; rfl)
    clear hk
    go_enter Tryz.func116, Tryz.ntmps116
    go_wp2_with fail
    refine cK.mono ?_
    rintro e w1 ⟨rfl, hb1⟩
    have hX := hX0.next hb1
    clear cK hb1 hX0
    go_wp2
    go_ret
    exact OutB.of HX ⟨rfl, hX.out⟩
  | true =>
    rw [hk] at cK
    have HX : Hid (kfP ds (n, .mk k s m ks) = !strP ds (.mk k s m ks)) := HR.out.trans (by rw [hk]; rfl)
    clear hk
    go_enter Tryz.func116, Tryz.ntmps116
    go_wp2_with fail
    refine cK.mono ?_
    rintro e w1 ⟨rfl, hb1⟩
    have hX := hX0.next hb1
    have x1 := hX.cell 1 rfl
    have x2 := hX.cell 2 rfl
    have x3 := hX.cell 3 rfl
    have x4 := hX.cell 4 rfl
    have cS := isStruct_any ds b k s m ks ao c w1 (HD.out.later hX.out) hs
    clear cK hb1 hX0
    go_wp2_with fail
    refine cS.mono ?_
    rintro e w2 ⟨rfl, hb2⟩
    have hX2 := hX.next hb2
    clear cS hb2
    go_wp2
    go_ret
    exact OutB.of HX ⟨by simp, hX2.out⟩
end Go.Proofs.YtbejkphekfbfnaaGreat
