/- The document's Find, IsStruct, IsIface, all, known. -/
import Derived.Test.YtbejkphekfbfnaaGreatDcB
namespace Go.Proofs.YtbejkphekfbfnaaGreat
open Go.RowKit
attribute [local go_sem ↓] Go.wp_at_zero Go.wp_at_succ

/-- Where a name is declared first, and what is declared there. -/
def fiP (ds : List Dc) (n : List UInt8) : Int := match ds.findIdx? (fun d => d.name == n) with
  | some i => i
  | none => -1
def deP (ds : List Dc) (n : List UInt8) : Option Dc := ds.find? (fun d => d.name == n)
theorem fiP_hit {ds : List Dc} {n : List UInt8} {j : Nat} {d : Dc} (h : ds[j]? = some d) (hd : (d.name == n) = true) (ha : ∀ (i : Nat) x, i < j → ds[i]? = some x → (x.name == n) = false) : fiP ds n = j ∧ deP ds n = some d := by
  have hj : j < ds.length := by
    rcases Nat.lt_or_ge j ds.length with h1 | h1
    · exact h1
    · rw [List.getElem?_eq_none h1] at h; cases h
  have e : ds[j] = d := by rw [List.getElem?_eq_getElem hj] at h; cases h; rfl
  have h1 : ds.findIdx? (fun d => d.name == n) = some j := by
    rw [List.findIdx?_eq_some_iff_getElem]
    refine ⟨hj, by rw [e]; exact hd, fun i hi => ?_⟩
    have := ha i (ds[i]'(by omega)) hi (List.getElem?_eq_getElem (by omega))
    simpa using this
  refine ⟨by unfold fiP; rw [h1], ?_⟩
  unfold deP
  rw [List.find?_eq_some_iff_getElem]
  refine ⟨hd, j, hj, e, fun i hi => ?_⟩
  have := ha i (ds[i]'(by omega)) hi (List.getElem?_eq_getElem (by omega))
  simpa using this
theorem fiP_miss {ds : List Dc} {n : List UInt8} (ha : ∀ (i : Nat) x, ds[i]? = some x → (x.name == n) = false) : fiP ds n = -1 ∧ deP ds n = none := by
  have h1 : ds.findIdx? (fun d => d.name == n) = none := by
    rw [List.findIdx?_eq_none_iff]
    intro x hx
    obtain ⟨i, hi⟩ := List.getElem?_of_mem hx
    exact ha i x hi
  refine ⟨by unfold fiP; rw [h1], ?_⟩
  unfold deP
  rw [List.find?_eq_none]
  intro x hx
  obtain ⟨i, hi⟩ := List.getElem?_of_mem hx
  simpa using ha i x hi
/-- What Find answers, with what stands there. -/
theorem fi_cases (ds : List Dc) (n : List UInt8) : (∃ j d, fiP ds n = (j : Nat) ∧ ds[j]? = some d ∧ deP ds n = some d) ∨ (fiP ds n = -1 ∧ deP ds n = none) := by
  cases h : ds.findIdx? (fun d => d.name == n) with
  | some j =>
    have h' := h
    rw [List.findIdx?_eq_some_iff_getElem] at h'
    obtain ⟨hj, hd, ha⟩ := h'
    have := fiP_hit (ds := ds) (n := n) (j := j) (List.getElem?_eq_getElem hj) hd (fun i x hi hx => by
      have := ha i hi
      rw [List.getElem?_eq_getElem (by omega)] at hx
      cases hx
      simpa using this)
    exact .inl ⟨j, _, this.1, List.getElem?_eq_getElem hj, this.2⟩
  | none =>
    rw [List.findIdx?_eq_none_iff] at h
    exact .inr (fiP_miss fun i x hx => h x (List.mem_of_getElem? hx))
set_option maxRecDepth 20000 in
set_option maxHeartbeats 1000000 in
theorem rfind_any (ds : List Dc) (sl : Value) (n : List UInt8) (w : World) (hn : ds.length ≤ 1000000) (hL : DL w ds sl) :
    Calls Tryz.prog 46 #[sl, .string ⟨n.toArray⟩] w fun e w' => e = .returned (.int .i64 (fiP ds n)) ∧ w' = w := by
  obtain ⟨ao, cap, rfl⟩ := hL.slice
  have HL := Lib.hid hL
  clear hL
  go_enter Tryz.func46, Tryz.ntmps46
  go_wp2_with fail
  go_loopw [5] (fun v wr => ∃ j : Nat, j ≤ ds.length ∧ v = .int .i64 j ∧ wr = w ∧ Hid (∀ (i : Nat) x, i < j → ds[i]? = some x → (x.name == n) = false)) (fun v _ => ds.length - (intOf v).toNat)
  case atStart => exact ⟨0, Nat.zero_le _, rfl, rfl, Lib.hid (fun i x hi => by omega)⟩
  case round =>
    obtain ⟨j, hj, rfl, hwr, HA⟩ := hrel
    subst hwr
    by_cases hlt : j < ds.length
    · obtain ⟨d, hd⟩ : ∃ d, ds[j]? = some d := ⟨_, List.getElem?_eq_getElem hlt⟩
      obtain ⟨ao', c', e, hat⟩ := HL.out
      cases e
      obtain ⟨g, o, s1, s2, hao, hgl, x0, x1, x2, x3, _⟩ := hat j d hd
      subst hao
      cases hq : (d.name == n) with
      | true =>
        have HX := Lib.hid (fiP_hit hd hq HA.out).1
        clear hat hd
        go_wp2
        go_ret
        exact ⟨by simp [HX.out], rfl⟩
      | false =>
        have HX : Hid (∀ (i : Nat) x, i < j + 1 → ds[i]? = some x → (x.name == n) = false) := by
          refine Lib.hid ?_
          intro i x hi h1
          rcases Nat.lt_or_ge i j with h3 | h3
          · exact HA.out i x h3 h1
          · have : i = j := by omega
            subst this
            rw [hd] at h1
            cases h1; exact hq
        clear hat hd
        go_wp2
        go_roundw
        case rel => exact ⟨j + 1, by omega, by go_num, by first | rfl | trivial, HX⟩
        case measure => simp [intOf]; omega
    · have HX := Lib.hid (fiP_miss (ds := ds) (n := n) fun i x h1 => HA.out i x (by
        rcases Nat.lt_or_ge i ds.length with h | h
        · omega
        · rw [List.getElem?_eq_none h] at h1; cases h1) h1).1
      go_wp2
      go_ret
      exact ⟨by simp [HX.out], rfl⟩

def strP (ds : List Dc) (t : Tr) : Bool := t.kind == 4 && (deP ds t.text).any (fun d => !d.ifc)
set_option maxHeartbeats 1000000 in
theorem rstr_any (ds : List Dc) (sl : Value) (k : Int) (s : List UInt8) (m : Int) (ks : List Tr) (ao : Option Addr) (c : Nat) (w : World) (hn : ds.length ≤ 1000000) (hL : DL w ds sl) :
    Calls Tryz.prog 48 #[sl, .agg #[.int .i64 k, .string ⟨s.toArray⟩, .int .i64 m, .slice ao ks.length c]] w (OutB (strP ds (.mk k s m ks)) w) := by
  obtain ⟨a0, cap, rfl⟩ := hL.slice
  have HR : Hid (strP ds (.mk k s m ks) = (k == 4 && (deP ds s).any (fun d => !d.ifc))) := rfl
  have hX0 := Hxt.start (w := w) (c0 := .int .i64 k) (c1 := .string ⟨s.toArray⟩) (c2 := .int .i64 m) (c3 := .slice ao ks.length c)
  have hL0 := hL.later hX0.out
  have cF := rfind_any ds _ s _ hn hL0
  by_cases k4 : k = 4
  · subst k4
    rcases fi_cases ds s with ⟨j, d, e1, e2, e3⟩ | ⟨e1, e3⟩
    · have HX : Hid (strP ds (.mk 4 s m ks) = (!d.ifc)) := HR.out.trans (by rw [e3]; simp)
      obtain ⟨ao', c', e, hat⟩ := hL0
      cases e
      obtain ⟨g, o, s1, s2, hao, hgl, x0, x1, x2, x3, _⟩ := hat j d e2
      subst hao
      have hj : j < ds.length := by
        rcases Nat.lt_or_ge j ds.length with h1 | h1
        · exact h1
        · rw [List.getElem?_eq_none h1] at e2; cases e2
      rw [e1] at cF
      clear hat e1 e2 e3 hL
      go_enter Tryz.func48, Tryz.ntmps48
      go_wp2_with fail
      refine cF.mono ?_
      rintro e w1 ⟨rfl, hw1⟩
      subst hw1
      clear cF
      go_wp2
      go_ret
      exact OutB.of HX ⟨by simp, hX0.out⟩
    · have HX : Hid (strP ds (.mk 4 s m ks) = false) := HR.out.trans (by rw [e3]; simp)
      rw [e1] at cF
      clear e1 e3 hL hL0
      go_enter Tryz.func48, Tryz.ntmps48
      go_wp2_with fail
      refine cF.mono ?_
      rintro e w1 ⟨rfl, hw1⟩
      subst hw1
      clear cF
      go_wp2
      go_ret
      exact OutB.of HX ⟨rfl, hX0.out⟩
  · have HX : Hid (strP ds (.mk k s m ks) = false) := HR.out.trans (by simp [k4])
    have f4 : (k == 4) = false := by simpa using k4
    have g4 : (k != 4) = true := by simpa using k4
    clear cF hL hL0
    go_enter Tryz.func48, Tryz.ntmps48
    go_wp2
    go_ret
    exact OutB.of HX ⟨rfl, hX0.out⟩

def ifaP (ds : List Dc) (t : Tr) : Bool := t.kind == 4 && (deP ds t.text).any (fun d => d.ifc)
set_option maxHeartbeats 1000000 in
theorem rifa_any (ds : List Dc) (sl : Value) (k : Int) (s : List UInt8) (m : Int) (ks : List Tr) (ao : Option Addr) (c : Nat) (w : World) (hn : ds.length ≤ 1000000) (hL : DL w ds sl) :
    Calls Tryz.prog 99 #[sl, .agg #[.int .i64 k, .string ⟨s.toArray⟩, .int .i64 m, .slice ao ks.length c]] w (OutB (ifaP ds (.mk k s m ks)) w) := by
  obtain ⟨a0, cap, rfl⟩ := hL.slice
  have HR : Hid (ifaP ds (.mk k s m ks) = (k == 4 && (deP ds s).any (fun d => d.ifc))) := rfl
  have hX0 := Hxt.start (w := w) (c0 := .int .i64 k) (c1 := .string ⟨s.toArray⟩) (c2 := .int .i64 m) (c3 := .slice ao ks.length c)
  have hL0 := hL.later hX0.out
  have cF := rfind_any ds _ s _ hn hL0
  by_cases k4 : k = 4
  · subst k4
    rcases fi_cases ds s with ⟨j, d, e1, e2, e3⟩ | ⟨e1, e3⟩
    · have HX : Hid (ifaP ds (.mk 4 s m ks) = (d.ifc)) := HR.out.trans (by rw [e3]; simp)
      obtain ⟨ao', c', e, hat⟩ := hL0
      cases e
      obtain ⟨g, o, s1, s2, hao, hgl, x0, x1, x2, x3, _⟩ := hat j d e2
      subst hao
      have hj : j < ds.length := by
        rcases Nat.lt_or_ge j ds.length with h1 | h1
        · exact h1
        · rw [List.getElem?_eq_none h1] at e2; cases e2
      rw [e1] at cF
      clear hat e1 e2 e3 hL
      go_enter Tryz.func99, Tryz.ntmps99
      go_wp2_with fail
      refine cF.mono ?_
      rintro e w1 ⟨rfl, hw1⟩
      subst hw1
      clear cF
      go_wp2
      go_ret
      exact OutB.of HX ⟨by simp, hX0.out⟩
    · have HX : Hid (ifaP ds (.mk 4 s m ks) = false) := HR.out.trans (by rw [e3]; simp)
      rw [e1] at cF
      clear e1 e3 hL hL0
      go_enter Tryz.func99, Tryz.ntmps99
      go_wp2_with fail
      refine cF.mono ?_
      rintro e w1 ⟨rfl, hw1⟩
      subst hw1
      clear cF
      go_wp2
      go_ret
      exact OutB.of HX ⟨rfl, hX0.out⟩
  · have HX : Hid (ifaP ds (.mk k s m ks) = false) := HR.out.trans (by simp [k4])
    have f4 : (k == 4) = false := by simpa using k4
    have g4 : (k != 4) = true := by simpa using k4
    clear cF hL hL0
    go_enter Tryz.func99, Tryz.ntmps99
    go_wp2
    go_ret
    exact OutB.of HX ⟨rfl, hX0.out⟩

mutual
/-- Have all names in a type declarations? -/
def allP (ds : List Dc) : Tr → Bool
  | .mk k s _ ks => (!(k == 4) || (deP ds s).isSome) && allL ds ks
def allL (ds : List Dc) : List Tr → Bool
  | [] => true
  | t :: ts => allP ds t && allL ds ts
end
theorem allL_all {ds : List Dc} : ∀ {ks : List Tr}, (∀ (i : Nat) a, ks[i]? = some a → allP ds a = true) → allL ds ks = true
  | [], _ => rfl
  | t :: ts, h => by
    simp only [allL, Bool.and_eq_true]
    exact ⟨h 0 t rfl, allL_all fun i a ha => h (i + 1) a (by simpa using ha)⟩
theorem allL_get {ds : List Dc} : ∀ {ks : List Tr} {j : Nat} {a : Tr}, ks[j]? = some a → allP ds a = false → allL ds ks = false
  | t :: ts, 0, a, h, e => by simp at h; subst h; simp only [allL, e, Bool.false_and]
  | t :: ts, j + 1, a, h, e => by simp at h; simp only [allL, allL_get h e, Bool.and_false]
  | [], _, _, h, _ => by simp at h
set_option maxRecDepth 20000 in
set_option maxHeartbeats 4000000 in
theorem rall_any (ds : List Dc) (hn : ds.length ≤ 1000000) (tb : Value) : ∀ (n : Nat) (k : Int) (s : List UInt8) (m : Int) (ks : List Tr) (ao : Option Addr) (c : Nat) (w : World), cntN (.mk k s m ks) ≤ n → n ≤ 10000000 → DL w ds tb → KT w (· < w.heap.size) (.mk k s m ks) (.slice ao ks.length c) →
    Calls Tryz.prog 47 #[tb, .agg #[.int .i64 k, .string ⟨s.toArray⟩, .int .i64 m, .slice ao ks.length c]] w (OutB (allP ds (.mk k s m ks)) w) := by
  intro n
  induction n with
  | zero => intro k s m ks ao c w h; simp only [cntN] at h; omega
  | succ n ih =>
    intro k s m ks ao c w hc hc2 hD hk
    obtain ⟨a0, cap, rfl⟩ := hD.slice
    have HI := Lib.hid ih
    clear ih
    simp only [cntN] at hc
    have HR : Hid (allP ds (.mk k s m ks) = ((!(k == 4) || (deP ds s).isSome) && allL ds ks)) := by simp [Hid, allP]
    have hL := Lst.of hk
    have hlen := cntNL_len ks
    have hX0 := Hxt.start (w := w) (c0 := .int .i64 k) (c1 := .string ⟨s.toArray⟩) (c2 := .int .i64 m) (c3 := .slice ao ks.length c)
    have cF := rfind_any ds _ s _ hn (hD.later hX0.out)
    have HD := Lib.hid hD
    clear hk hD
    have key : ∀ (hown : (!(k == 4) || (deP ds s).isSome) = true), Hid (allP ds (.mk k s m ks) = allL ds ks) := fun h => HR.out.trans (by rw [h]; simp)
    by_cases hbad : k = 4 ∧ deP ds s = none
    · obtain ⟨rfl, e3⟩ := hbad
      have HX : Hid (allP ds (.mk 4 s m ks) = false) := HR.out.trans (by rw [e3]; simp)
      have e1 : fiP ds s = -1 := by
        rcases fi_cases ds s with ⟨j, d, _, _, h3⟩ | ⟨h1, _⟩
        · rw [e3] at h3; cases h3
        · exact h1
      rw [e1] at cF
      clear key e1 e3
      go_enter Tryz.func47, Tryz.ntmps47
      go_wp2_with fail
      refine cF.mono ?_
      rintro e w1 ⟨rfl, hw1⟩
      subst hw1
      clear cF
      go_wp2
      go_ret
      exact OutB.of HX ⟨rfl, hX0.out⟩
    · have HR1 : Hid (allP ds (.mk k s m ks) = allL ds ks) := key (by
        by_cases k4 : k = 4
        · cases h : deP ds s with
          | none => exact absurd ⟨k4, h⟩ hbad
          | some d => simp
        · simp [k4])
      have hfi : k = 4 → 0 ≤ fiP ds s ∧ fiP ds s ≤ 1000000 := fun k4 => by
        rcases fi_cases ds s with ⟨j, d, h1, h2, _⟩ | ⟨_, h3⟩
        · have : j < ds.length := by
            rcases Nat.lt_or_ge j ds.length with h | h
            · exact h
            · rw [List.getElem?_eq_none h] at h2; cases h2
          rw [h1]; omega
        · exact absurd ⟨k4, h3⟩ hbad
      clear key hbad
      by_cases k4 : k = 4
      · obtain ⟨p1, p2⟩ := hfi k4
        subst k4
        generalize fiP ds s = q at *
        have dq : decide (q < 0) = false := by simp; omega
        clear hfi
        go_enter Tryz.func47, Tryz.ntmps47
        go_wp2_with fail
        refine cF.mono ?_
        rintro e w1 ⟨rfl, hw1⟩
        subst hw1
        clear cF
        go_wp2_with fail
        go_loopw [5] (fun v wr => ∃ j : Nat, j ≤ ks.length ∧ v = .int .i64 j ∧ Hxt w (.int .i64 4) (.string ⟨s.toArray⟩) (.int .i64 m) (.slice ao ks.length c) wr ∧ Hid (∀ (i : Nat) a, i < j → ks[i]? = some a → allP ds a = true)) (fun v _ => ks.length - (intOf v).toNat)
        case atStart => exact ⟨0, Nat.zero_le _, rfl, hX0, Lib.hid (fun i a hi => by omega)⟩
        case round =>
          obtain ⟨j, hj, rfl, hX, HA⟩ := hrel
          obtain ⟨x0, x1, x2, x3⟩ := hX.cells
          by_cases hlt : j < ks.length
          · obtain ⟨a, ha⟩ : ∃ t, ks[j]? = some t := ⟨_, List.getElem?_eq_getElem hlt⟩
            obtain ⟨g, o, b0, n0, q0, hao, y0, y1, y2, y3, hg, hka⟩ := hL.kid ha (fun _ h => h)
            subst hao
            have z0 := (hX.out.cell (p := ⟨g, o + j * 4, none⟩) hg).trans y0
            have z1 := (hX.out.cell (p := ⟨g, o + j * 4 + 1, none⟩) hg).trans y1
            have z2 := (hX.out.cell (p := ⟨g, o + j * 4 + 2, none⟩) hg).trans y2
            have z3 := (hX.out.cell (p := ⟨g, o + j * 4 + 3, none⟩) hg).trans y3
            have hcm := cntNL_mem (List.mem_of_getElem? ha)
            have hka' : KT wr (· < wr.heap.size) a (.slice b0 n0 q0) := hka.fr (fun b hb => hX.out.block b hb) (fun _ h => Nat.lt_of_lt_of_le h hX.out.size)
            obtain ⟨ak, av, am, aks⟩ := a
            obtain ⟨_, _, e⟩ := (Lst.of hka').slice
            injection e with e4 e5 e7
            clear e4 e7
            subst e5
            have cS := HI.out ak av am aks b0 q0 wr (by omega) (by omega) (HD.out.later hX.out) hka'
            have HAA := Lib.hid ha
            simp only [Tr.kind, Tr.text, Tr.num] at z0 z1 z2
            clear ha hka hka' hcm y0 y1 y2 y3
            go_wp2_with fail
            refine cS.mono ?_
            rintro e w2 ⟨rfl, hb2⟩
            have hX2 := hX.next hb2
            clear cS
            cases hp : allP ds (.mk ak av am aks) with
            | false =>
              have HX : Hid (allP ds (.mk 4 s m ks) = false) := HR1.out.trans (allL_get HAA.out hp)
              clear hp
              go_wp2
              go_ret
              exact OutB.of HX ⟨rfl, hX2.out⟩
            | true =>
              have HX : Hid (∀ (i : Nat) a, i < j + 1 → ks[i]? = some a → allP ds a = true) := by
                refine Lib.hid ?_
                intro i x hi h1
                rcases Nat.lt_or_ge i j with h3 | h3
                · exact HA.out i x h3 h1
                · have : i = j := by omega
                  subst this
                  rw [HAA.out] at h1
                  cases h1; exact hp
              clear hp
              go_wp2
              go_roundw
              case rel => exact ⟨j + 1, by omega, by go_num, hX2, HX⟩
              case measure => simp [intOf]; omega
          · have HX : Hid (allP ds (.mk 4 s m ks) = true) := HR1.out.trans (allL_all fun i a h1 => HA.out i a (by
              rcases Nat.lt_or_ge i ks.length with h | h
              · omega
              · rw [List.getElem?_eq_none h] at h1; cases h1) h1)
            go_wp2
            go_ret
            exact OutB.of HX ⟨rfl, hX.out⟩
      · have f4 : (k == 4) = false := by simpa using k4
        clear hfi cF
        go_enter Tryz.func47, Tryz.ntmps47
        go_wp2_with fail
        go_loopw [5] (fun v wr => ∃ j : Nat, j ≤ ks.length ∧ v = .int .i64 j ∧ Hxt w (.int .i64 k) (.string ⟨s.toArray⟩) (.int .i64 m) (.slice ao ks.length c) wr ∧ Hid (∀ (i : Nat) a, i < j → ks[i]? = some a → allP ds a = true)) (fun v _ => ks.length - (intOf v).toNat)
        case atStart => exact ⟨0, Nat.zero_le _, rfl, hX0, Lib.hid (fun i a hi => by omega)⟩
        case round =>
          obtain ⟨j, hj, rfl, hX, HA⟩ := hrel
          obtain ⟨x0, x1, x2, x3⟩ := hX.cells
          by_cases hlt : j < ks.length
          · obtain ⟨a, ha⟩ : ∃ t, ks[j]? = some t := ⟨_, List.getElem?_eq_getElem hlt⟩
            obtain ⟨g, o, b0, n0, q0, hao, y0, y1, y2, y3, hg, hka⟩ := hL.kid ha (fun _ h => h)
            subst hao
            have z0 := (hX.out.cell (p := ⟨g, o + j * 4, none⟩) hg).trans y0
            have z1 := (hX.out.cell (p := ⟨g, o + j * 4 + 1, none⟩) hg).trans y1
            have z2 := (hX.out.cell (p := ⟨g, o + j * 4 + 2, none⟩) hg).trans y2
            have z3 := (hX.out.cell (p := ⟨g, o + j * 4 + 3, none⟩) hg).trans y3
            have hcm := cntNL_mem (List.mem_of_getElem? ha)
            have hka' : KT wr (· < wr.heap.size) a (.slice b0 n0 q0) := hka.fr (fun b hb => hX.out.block b hb) (fun _ h => Nat.lt_of_lt_of_le h hX.out.size)
            obtain ⟨ak, av, am, aks⟩ := a
            obtain ⟨_, _, e⟩ := (Lst.of hka').slice
            injection e with e4 e5 e7
            clear e4 e7
            subst e5
            have cS := HI.out ak av am aks b0 q0 wr (by omega) (by omega) (HD.out.later hX.out) hka'
            have HAA := Lib.hid ha
            simp only [Tr.kind, Tr.text, Tr.num] at z0 z1 z2
            clear ha hka hka' hcm y0 y1 y2 y3
            go_wp2_with fail
            refine cS.mono ?_
            rintro e w2 ⟨rfl, hb2⟩
            have hX2 := hX.next hb2
            clear cS
            cases hp : allP ds (.mk ak av am aks) with
            | false =>
              have HX : Hid (allP ds (.mk k s m ks) = false) := HR1.out.trans (allL_get HAA.out hp)
              clear hp
              go_wp2
              go_ret
              exact OutB.of HX ⟨rfl, hX2.out⟩
            | true =>
              have HX : Hid (∀ (i : Nat) a, i < j + 1 → ks[i]? = some a → allP ds a = true) := by
                refine Lib.hid ?_
                intro i x hi h1
                rcases Nat.lt_or_ge i j with h3 | h3
                · exact HA.out i x h3 h1
                · have : i = j := by omega
                  subst this
                  rw [HAA.out] at h1
                  cases h1; exact hp
              clear hp
              go_wp2
              go_roundw
              case rel => exact ⟨j + 1, by omega, by go_num, hX2, HX⟩
              case measure => simp [intOf]; omega
          · have HX : Hid (allP ds (.mk k s m ks) = true) := HR1.out.trans (allL_all fun i a h1 => HA.out i a (by
              rcases Nat.lt_or_ge i ks.length with h | h
              · omega
              · rw [List.getElem?_eq_none h] at h1; cases h1) h1)
            go_wp2
            go_ret
            exact OutB.of HX ⟨rfl, hX.out⟩

def knP (ds : List Dc) (t : Tr) : Bool := !(t.kind == 8) && allP ds t
set_option maxHeartbeats 1000000 in
theorem rknown_any (ds : List Dc) (hn : ds.length ≤ 1000000) (tb : Value) (k : Int) (s : List UInt8) (m : Int) (ks : List Tr) (ao : Option Addr) (c : Nat) (w : World) (hD : DL w ds tb) (h : Ty w (.mk k s m ks) (.slice ao ks.length c)) :
    Calls Tryz.prog 51 #[tb, .agg #[.int .i64 k, .string ⟨s.toArray⟩, .int .i64 m, .slice ao ks.length c]] w (OutB (knP ds (.mk k s m ks)) w) := by
  obtain ⟨a0, cap, rfl⟩ := hD.slice
  have HR : Hid (knP ds (.mk k s m ks) = (!(k == 8) && allP ds (.mk k s m ks))) := rfl
  have hX0 := Hxt.start (w := w) (c0 := .int .i64 k) (c1 := .string ⟨s.toArray⟩) (c2 := .int .i64 m) (c3 := .slice ao ks.length c)
  have h1 := h.later hX0.out
  have cA := rall_any ds hn _ 2000000 k s m ks ao c _ h1.cnt (by omega) (hD.later hX0.out) h1.kt
  clear h h1 hD
  by_cases k8 : k = 8
  · subst k8
    have HX : Hid (knP ds (.mk 8 s m ks) = false) := HR.out.trans (by simp)
    clear cA
    go_enter Tryz.func51, Tryz.ntmps51
    go_wp2
    go_ret
    exact OutB.of HX ⟨rfl, hX0.out⟩
  · have e8 : (k == 8) = false := by simpa using k8
    have f8 : (k != 8) = true := by simpa using k8
    have HX : Hid (knP ds (.mk k s m ks) = allP ds (.mk k s m ks)) := HR.out.trans (by rw [e8]; rfl)
    go_enter Tryz.func51, Tryz.ntmps51
    go_wp2_with fail
    refine cA.mono ?_
    rintro e w1 ⟨rfl, hb1⟩
    have hX := hX0.next hb1
    clear cA hb1 hX0
    go_wp2
    go_ret
    exact OutB.of HX ⟨by simp, hX.out⟩
end Go.Proofs.YtbejkphekfbfnaaGreat
