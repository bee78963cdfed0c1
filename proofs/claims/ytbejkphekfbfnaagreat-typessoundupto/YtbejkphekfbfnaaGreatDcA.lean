/- Declarations in memory; every of members and of declarations; what a sound declaration is. -/
import Derived.Test.YtbejkphekfbfnaaGreatTZc
namespace Go.Proofs.YtbejkphekfbfnaaGreat
open Go.RowKit
attribute [local go_sem ↓] Go.wp_at_zero Go.wp_at_succ

/-- A box of any cells, later on. -/
structure Hb (w : World) (cs : Array Value) (T : TypeId) (W : World) : Prop where
  bel : Below (w.heap.size + 1) (w.alloc (.cells cs T)) W
section
variable {w W W' : World} {cs : Array Value} {T : TypeId}
theorem Hb.start : Hb w cs T (w.alloc (.cells cs T)) := ⟨Below.refl _ _⟩
theorem Hb.size (h : Hb w cs T W) : w.heap.size + 1 ≤ W.heap.size := by have := Below.size h.bel; simpa using this
theorem Hb.next (h : Hb w cs T W) (hb : Below W.heap.size W W') : Hb w cs T W' := ⟨Below.trans h.bel (hb.mono h.size)⟩
theorem Hb.out (h : Hb w cs T W) : Below w.heap.size w W := ((Below.refl w.heap.size w).alloc (Nat.le_refl _) _).trans (Below.mono h.bel (by omega))
theorem Hb.cell (h : Hb w cs T W) (i : Nat) {v : Value} (hv : cs[i]? = some v) : W.cell? ⟨w.heap.size, i, none⟩ = some v :=
  (Below.cell (p := ⟨w.heap.size, i, none⟩) h.bel (by simp)).trans (by rw [World.cell?_alloc_new]; exact hv)
end

abbrev Fl := List UInt8 × Tr
structure Dc where
  name : List UInt8
  ifc : Bool
  fs : List Fl
  ms : List Fl
abbrev fv (f : Fl) (sl : Value) : Value := .agg #[.string ⟨f.1.toArray⟩, .int .i64 f.2.kind, .string ⟨f.2.text.toArray⟩, .int .i64 f.2.num, sl]
abbrev dv (d : Dc) (s1 s2 : Value) : Value := .agg #[.string ⟨d.name.toArray⟩, .bool d.ifc, s1, s2]
/-- A list of members lies at a slice. -/
def FL (w : World) (fs : List Fl) (sl : Value) : Prop := ∃ ao c, sl = .slice ao fs.length c ∧ ∀ (j : Nat) f, fs[j]? = some f → ∃ g o s', ao = some ⟨g, o, none⟩ ∧ g < w.heap.size ∧
  w.cell? ⟨g, o + j * 5, none⟩ = some (.string ⟨f.1.toArray⟩) ∧ w.cell? ⟨g, o + j * 5 + 1, none⟩ = some (.int .i64 f.2.kind) ∧ w.cell? ⟨g, o + j * 5 + 2, none⟩ = some (.string ⟨f.2.text.toArray⟩) ∧ w.cell? ⟨g, o + j * 5 + 3, none⟩ = some (.int .i64 f.2.num) ∧ w.cell? ⟨g, o + j * 5 + 4, none⟩ = some s' ∧ Ty w f.2 s' ∧ f.1.length ≤ maxLen
/-- A list of declarations lies at a slice. -/
def DL (w : World) (ds : List Dc) (sl : Value) : Prop := ∃ ao c, sl = .slice ao ds.length c ∧ ∀ (j : Nat) d, ds[j]? = some d → ∃ g o s1 s2, ao = some ⟨g, o, none⟩ ∧ g < w.heap.size ∧
  w.cell? ⟨g, o + j * 4, none⟩ = some (.string ⟨d.name.toArray⟩) ∧ w.cell? ⟨g, o + j * 4 + 1, none⟩ = some (.bool d.ifc) ∧ w.cell? ⟨g, o + j * 4 + 2, none⟩ = some s1 ∧ w.cell? ⟨g, o + j * 4 + 3, none⟩ = some s2 ∧ FL w d.fs s1 ∧ FL w d.ms s2 ∧ d.name.length ≤ maxLen
theorem FL.later {w W : World} {fs : List Fl} {sl : Value} (h : FL w fs sl) (hb : Below w.heap.size w W) : FL W fs sl := by
  obtain ⟨ao, c, e, h⟩ := h
  refine ⟨ao, c, e, fun j f hj => ?_⟩
  obtain ⟨g, o, s', h1, h2, c0, c1, c2, c3, c4, h3, h4⟩ := h j f hj
  exact ⟨g, o, s', h1, Nat.lt_of_lt_of_le h2 hb.size, (hb.cell (p := ⟨g, _, none⟩) h2).trans c0, (hb.cell (p := ⟨g, _, none⟩) h2).trans c1, (hb.cell (p := ⟨g, _, none⟩) h2).trans c2, (hb.cell (p := ⟨g, _, none⟩) h2).trans c3, (hb.cell (p := ⟨g, _, none⟩) h2).trans c4, h3.later hb, h4⟩
theorem DL.later {w W : World} {ds : List Dc} {sl : Value} (h : DL w ds sl) (hb : Below w.heap.size w W) : DL W ds sl := by
  obtain ⟨ao, c, e, h⟩ := h
  refine ⟨ao, c, e, fun j f hj => ?_⟩
  obtain ⟨g, o, s1, s2, h1, h2, c0, c1, c2, c3, h3, h4, h5⟩ := h j f hj
  exact ⟨g, o, s1, s2, h1, Nat.lt_of_lt_of_le h2 hb.size, (hb.cell (p := ⟨g, _, none⟩) h2).trans c0, (hb.cell (p := ⟨g, _, none⟩) h2).trans c1, (hb.cell (p := ⟨g, _, none⟩) h2).trans c2, (hb.cell (p := ⟨g, _, none⟩) h2).trans c3, h3.later hb, h4.later hb, h5⟩
theorem FL.slice {w : World} {fs : List Fl} {sl : Value} (h : FL w fs sl) : ∃ ao c, sl = .slice ao fs.length c := let ⟨ao, c, e, _⟩ := h; ⟨ao, c, e⟩
theorem DL.slice {w : World} {ds : List Dc} {sl : Value} (h : DL w ds sl) : ∃ ao c, sl = .slice ao ds.length c := let ⟨ao, c, e, _⟩ := h; ⟨ao, c, e⟩

set_option maxRecDepth 20000 in
set_option maxHeartbeats 1000000 in
theorem everyF_any (p : Fl → Bool) (g : Nat) (bs : Array Value) (he : Enters Tryz.prog g) (fs : List Fl) (sl : Value) (w : World) (hn : fs.length ≤ 1000000) (hL : FL w fs sl)
    (hI : ∀ (f : Fl) ao n c w1, f ∈ fs → Ty w1 f.2 (.slice ao n c) → f.1.length ≤ maxLen → Below w.heap.size w w1 → Calls Tryz.prog g (bs ++ #[fv f (.slice ao n c)]) w1 (OutB (p f) w1)) :
    Calls Tryz.prog 112 #[sl, .func (.func g) bs #[]] w (OutB (fs.all p) w) := by
  obtain ⟨ao, cap, rfl⟩ := hL.slice
  have eg : ∀ args w, (callFunc g args).run Tryz.prog w = .ok (.enter g args) w := he
  have HI := Lib.hid hI
  have HL := Lib.hid hL
  clear hI hL
  go_enter Tryz.func112, Tryz.ntmps112
  go_wp2_with fail
  go_loopw [9] (fun v wr => ∃ k : Nat, k ≤ fs.length ∧ v = .int .i64 k ∧ Below w.heap.size w wr ∧ Hid ((fs.take k).all p = true)) (fun v _ => fs.length - (intOf v).toNat)
  case atStart => exact ⟨0, Nat.zero_le _, rfl, Below.refl _ _, by simp [Hid]⟩
  case round =>
    obtain ⟨k, hk, rfl, hb, HA⟩ := hrel
    have hz := hb.size
    by_cases hlt : k < fs.length
    · obtain ⟨f, hf⟩ : ∃ f, fs[k]? = some f := ⟨_, List.getElem?_eq_getElem hlt⟩
      have hL' := HL.out.later hb
      obtain ⟨ao', c', e, hat⟩ := hL'
      cases e
      obtain ⟨gb, o, s', hao, hgl, x0, x1, x2, x3, x4, hT, hml⟩ := hat k f hf
      subst hao
      obtain ⟨a3, n3, c3, rfl⟩ := hT.kt.slice
      have hba := hb.alloc hz (.cells #[.string ⟨f.1.toArray⟩, .int .i64 f.2.kind, .string ⟨f.2.text.toArray⟩, .int .i64 f.2.num, .slice a3 n3 c3] 65)
      have cT := HI.out f a3 n3 c3 _ (List.mem_of_getElem? hf) (hT.later ((Below.refl _ _).alloc (Nat.le_refl _) (.cells #[.string ⟨f.1.toArray⟩, .int .i64 f.2.kind, .string ⟨f.2.text.toArray⟩, .int .i64 f.2.num, .slice a3 n3 c3] 65))) hml hba
      have HT := Lib.hid hf
      clear hf hat hT
      go_wp2_with fail
      refine cT.mono ?_
      rintro e w2 ⟨rfl, hb2⟩
      have hb3 : Below w.heap.size w w2 := hba.trans (hb2.mono (by simp; omega))
      clear cT
      cases hp : p f with
      | false =>
        have HX : Hid (fs.all p = false) := by
          rw [Hid, List.all_eq_false]
          exact ⟨f, List.mem_of_getElem? HT.out, by simp [hp]⟩
        clear hp
        go_wp2
        go_ret
        exact OutB.of HX ⟨rfl, hb3⟩
      | true =>
        have HX : Hid ((fs.take (k + 1)).all p = true) := by
          have e : fs.take (k + 1) = fs.take k ++ [f] := by rw [List.take_add_one, HT.out]; rfl
          rw [Hid, e, List.all_append, HA.out]; simp [hp]
        clear hp
        go_wp2
        go_roundw
        case rel => exact ⟨k + 1, by omega, by go_num, hb3, HX⟩
        case measure => simp [intOf]; omega
    · have HX : Hid (fs.all p = true) := by
        have := HA.out
        rwa [List.take_of_length_le (by omega)] at this
      go_wp2
      go_ret
      exact OutB.of HX ⟨rfl, hb⟩
set_option maxRecDepth 20000 in
set_option maxHeartbeats 1000000 in
theorem everyD_any (p : Dc → Bool) (g : Nat) (bs : Array Value) (he : Enters Tryz.prog g) (fs : List Dc) (sl : Value) (w : World) (hn : fs.length ≤ 1000000) (hL : DL w fs sl)
    (hI : ∀ (f : Dc) a1 c1 a2 c2 w1, f ∈ fs → FL w1 f.fs (.slice a1 f.fs.length c1) → FL w1 f.ms (.slice a2 f.ms.length c2) → f.name.length ≤ maxLen → Below w.heap.size w w1 → Calls Tryz.prog g (bs ++ #[dv f (.slice a1 f.fs.length c1) (.slice a2 f.ms.length c2)]) w1 (OutB (p f) w1)) :
    Calls Tryz.prog 79 #[sl, .func (.func g) bs #[]] w (OutB (fs.all p) w) := by
  obtain ⟨ao, cap, rfl⟩ := hL.slice
  have eg : ∀ args w, (callFunc g args).run Tryz.prog w = .ok (.enter g args) w := he
  have HI := Lib.hid hI
  have HL := Lib.hid hL
  clear hI hL
  go_enter Tryz.func79, Tryz.ntmps79
  go_wp2_with fail
  go_loopw [9] (fun v wr => ∃ k : Nat, k ≤ fs.length ∧ v = .int .i64 k ∧ Below w.heap.size w wr ∧ Hid ((fs.take k).all p = true)) (fun v _ => fs.length - (intOf v).toNat)
  case atStart => exact ⟨0, Nat.zero_le _, rfl, Below.refl _ _, by simp [Hid]⟩
  case round =>
    obtain ⟨k, hk, rfl, hb, HA⟩ := hrel
    have hz := hb.size
    by_cases hlt : k < fs.length
    · obtain ⟨f, hf⟩ : ∃ f, fs[k]? = some f := ⟨_, List.getElem?_eq_getElem hlt⟩
      have hL' := HL.out.later hb
      obtain ⟨ao', c', e, hat⟩ := hL'
      cases e
      obtain ⟨gb, o, s1, s2, hao, hgl, x0, x1, x2, x3, hT, hT2, hml⟩ := hat k f hf
      subst hao
      obtain ⟨a1, c1, rfl⟩ := hT.slice
      obtain ⟨a2, c2, rfl⟩ := hT2.slice
      have hba := hb.alloc hz (.cells #[.string ⟨f.name.toArray⟩, .bool f.ifc, .slice a1 f.fs.length c1, .slice a2 f.ms.length c2] 60)
      have cT := HI.out f a1 c1 a2 c2 _ (List.mem_of_getElem? hf) (hT.later ((Below.refl _ _).alloc (Nat.le_refl _) (.cells #[.string ⟨f.name.toArray⟩, .bool f.ifc, .slice a1 f.fs.length c1, .slice a2 f.ms.length c2] 60))) (hT2.later ((Below.refl _ _).alloc (Nat.le_refl _) (.cells #[.string ⟨f.name.toArray⟩, .bool f.ifc, .slice a1 f.fs.length c1, .slice a2 f.ms.length c2] 60))) hml hba
      have HT := Lib.hid hf
      clear hf hat hT hT2
      go_wp2_with fail
      refine cT.mono ?_
      rintro e w2 ⟨rfl, hb2⟩
      have hb3 : Below w.heap.size w w2 := hba.trans (hb2.mono (by simp; omega))
      clear cT
      cases hp : p f with
      | false =>
        have HX : Hid (fs.all p = false) := by
          rw [Hid, List.all_eq_false]
          exact ⟨f, List.mem_of_getElem? HT.out, by simp [hp]⟩
        clear hp
        go_wp2
        go_ret
        exact OutB.of HX ⟨rfl, hb3⟩
      | true =>
        have HX : Hid ((fs.take (k + 1)).all p = true) := by
          have e : fs.take (k + 1) = fs.take k ++ [f] := by rw [List.take_add_one, HT.out]; rfl
          rw [Hid, e, List.all_append, HA.out]; simp [hp]
        clear hp
        go_wp2
        go_roundw
        case rel => exact ⟨k + 1, by omega, by go_num, hb3, HX⟩
        case measure => simp [intOf]; omega
    · have HX : Hid (fs.all p = true) := by
        have := HA.out
        rwa [List.take_of_length_le (by omega)] at this
      go_wp2
      go_ret
      exact OutB.of HX ⟨rfl, hb⟩

def memP (f : Fl) : Bool := nameP f.1 && (!(f.2.kind == 8) && soundP f.2)
def metP (f : Fl) : Bool := f.2.kind == 7 && memP f
set_option maxHeartbeats 1000000 in
theorem soundMember_any (n : List UInt8) (k : Int) (s : List UInt8) (m : Int) (ks : List Tr) (ao : Option Addr) (c : Nat) (w : World) (h : Ty w (.mk k s m ks) (.slice ao ks.length c)) (hn : n.length ≤ maxLen) :
    Calls Tryz.prog 113 #[.agg #[.string ⟨n.toArray⟩, .int .i64 k, .string ⟨s.toArray⟩, .int .i64 m, .slice ao ks.length c]] w (OutB (memP (n, .mk k s m ks)) w) := by
  have HR : Hid (memP (n, .mk k s m ks) = (nameP n && (!(k == 8) && soundP (.mk k s m ks)))) := rfl
  have hX0 := Hb.start (w := w) (cs := #[.string ⟨n.toArray⟩, .int .i64 k, .string ⟨s.toArray⟩, .int .i64 m, .slice ao ks.length c]) (T := 65)
  have cN := isName_any ⟨n.toArray⟩ (by simpa [ByteArray.size] using hn) (w.alloc (.cells #[.string ⟨n.toArray⟩, .int .i64 k, .string ⟨s.toArray⟩, .int .i64 m, .slice ao ks.length c] 65)) trivial
  rw [show nameP (⟨n.toArray⟩ : ByteArray).data.toList = nameP n by simp] at cN
  have HT := Lib.hid h
  clear h
  cases hN : nameP n with
  | false =>
    rw [hN] at cN
    have HX : Hid (memP (n, .mk k s m ks) = false) := HR.out.trans (by rw [hN]; rfl)
    clear hN
    go_enter Tryz.func113, Tryz.ntmps113
    go_wp2_with fail
    refine cN.mono ?_
    rintro e w1 ⟨rfl, hb1⟩
    have hX := hX0.next hb1
    clear cN hb1 hX0
    go_wp2
    go_ret
    exact OutB.of HX ⟨rfl, hX.out⟩
  | true =>
    rw [hN] at cN
    have HR1 : Hid (memP (n, .mk k s m ks) = (!(k == 8) && soundP (.mk k s m ks))) := HR.out.trans (by rw [hN]; rfl)
    clear hN HR
    by_cases k8 : k = 8
    · subst k8
      have HX : Hid (memP (n, .mk 8 s m ks) = false) := HR1.out.trans (by simp)
      go_enter Tryz.func113, Tryz.ntmps113
      go_wp2_with fail
      refine cN.mono ?_
      rintro e w1 ⟨rfl, hb1⟩
      have hX := hX0.next hb1
      have x1 := hX.cell 1 rfl
      clear cN hb1 hX0
      go_wp2
      go_ret
      exact OutB.of HX ⟨rfl, hX.out⟩
    · have e8 : (k == 8) = false := by simpa using k8
      have f8 : (k != 8) = true := by simpa using k8
      have HX : Hid (memP (n, .mk k s m ks) = soundP (.mk k s m ks)) := HR1.out.trans (by rw [e8]; rfl)
      go_enter Tryz.func113, Tryz.ntmps113
      go_wp2_with fail
      refine cN.mono ?_
      rintro e w1 ⟨rfl, hb1⟩
      have hX := hX0.next hb1
      have x1 := hX.cell 1 rfl
      have x2 := hX.cell 2 rfl
      have x3 := hX.cell 3 rfl
      have x4 := hX.cell 4 rfl
      have cS := (HT.out.later hX.out).sound
      simp only [tv, Tr.kind, Tr.text, Tr.num] at cS
      clear cN hb1 hX0
      go_wp2_with fail
      refine cS.mono ?_
      rintro e w2 ⟨rfl, hb2⟩
      have hX2 := hX.next hb2
      clear cS hb2
      go_wp2
      go_ret
      exact OutB.of HX ⟨by simp, hX2.out⟩
theorem soundMethod_any (n : List UInt8) (k : Int) (s : List UInt8) (m : Int) (ks : List Tr) (ao : Option Addr) (c : Nat) (w : World) (h : Ty w (.mk k s m ks) (.slice ao ks.length c)) (hn : n.length ≤ maxLen) :
    Calls Tryz.prog 114 #[.agg #[.string ⟨n.toArray⟩, .int .i64 k, .string ⟨s.toArray⟩, .int .i64 m, .slice ao ks.length c]] w (OutB (metP (n, .mk k s m ks)) w) := by
  have HR : Hid (metP (n, .mk k s m ks) = (k == 7 && memP (n, .mk k s m ks))) := rfl
  have hX0 := Hb.start (w := w) (cs := #[.string ⟨n.toArray⟩, .int .i64 k, .string ⟨s.toArray⟩, .int .i64 m, .slice ao ks.length c]) (T := 65)
  have cN := soundMember_any n k s m ks ao c _ (h.later hX0.out) hn
  clear h
  cases hN : (k == 7) with
  | false =>
    have HX : Hid (metP (n, .mk k s m ks) = false) := HR.out.trans (by rw [hN]; rfl)
    go_enter Tryz.func114, Tryz.ntmps114
    go_wp2
    go_ret
    exact OutB.of HX ⟨rfl, hX0.out⟩
  | true =>
    have HX : Hid (metP (n, .mk k s m ks) = memP (n, .mk k s m ks)) := HR.out.trans (by rw [hN]; rfl)
    go_enter Tryz.func114, Tryz.ntmps114
    go_wp2_with fail
    refine cN.mono ?_
    rintro e w1 ⟨rfl, hb1⟩
    have hX := hX0.next hb1
    clear cN hb1 hX0
    go_wp2
    go_ret
    exact OutB.of HX ⟨by simp, hX.out⟩
end Go.Proofs.YtbejkphekfbfnaaGreat
