/- The document's basic, formed and IsSound. -/
import Derived.Test.YtbejkphekfbfnaaGreatTyE
import Derived.Test.YtbejkphekfbfnaaGreatTyB
import Derived.Test.YtbejkphekfbfnaaGreatRef2
namespace Go.Proofs.YtbejkphekfbfnaaGreat
open Go.RowKit
attribute [local go_sem ↓] Go.wp_at_zero Go.wp_at_succ

def basicP (s : List UInt8) : Int := if s == [105, 110, 116] then 1 else if s == [98, 111, 111, 108] then 2 else if s == [115, 116, 114, 105, 110, 103] then 3 else 0
theorem basic_kind (s : List UInt8) : (basicP s == 0) = (kindP s == 4) := by
  unfold basicP kindP
  split
  · rfl
  · split
    · rfl
    · split <;> rfl
theorem formL_all : ∀ {ks : List Tr}, (∀ (i : Nat) a, ks[i]? = some a → (!(a.kind == 8) && formT a) = true) → formL ks = true
  | [], _ => rfl
  | t :: ts, h => by
    simp only [formL, Bool.and_eq_true] at *
    exact ⟨by simpa using h 0 t rfl, formL_all fun i a ha => by simpa using h (i + 1) a (by simpa using ha)⟩
theorem formL_get : ∀ {ks : List Tr} {j : Nat} {a : Tr}, ks[j]? = some a → (!(a.kind == 8) && formT a) = false → formL ks = false
  | t :: ts, 0, a, h, e => by simp at h; subst h; simp only [formL, e, Bool.false_and]
  | t :: ts, j + 1, a, h, e => by simp at h; simp only [formL, formL_get h e, Bool.and_false]
  | [], _, _, h, _ => by simp at h

theorem basic_any (s : List UInt8) (w : World) : Calls Tryz.prog 44 #[.string ⟨s.toArray⟩] w fun e w' => e = .returned (.int .i64 (basicP s)) ∧ w' = w := by
  have HR : Hid (basicP s = if s == [105, 110, 116] then 1 else if s == [98, 111, 111, 108] then 2 else if s == [115, 116, 114, 105, 110, 103] then 3 else 0) := rfl
  by_cases h0 : s = [105, 110, 116]
  · subst h0
    have HP : Hid (basicP _ = 1) := Lib.hid (show basicP [105, 110, 116] = 1 by decide)
    go_enter Tryz.func44, Tryz.ntmps44
    go_wp2
    go_ret
    exact ⟨by simp [HP.out], rfl⟩
  by_cases h1 : s = [98, 111, 111, 108]
  · subst h1
    have HP : Hid (basicP _ = 2) := Lib.hid (show basicP [98, 111, 111, 108] = 2 by decide)
    go_enter Tryz.func44, Tryz.ntmps44
    go_wp2
    go_ret
    exact ⟨by simp [HP.out], rfl⟩
  by_cases h2 : s = [115, 116, 114, 105, 110, 103]
  · subst h2
    have HP : Hid (basicP _ = 3) := Lib.hid (show basicP [115, 116, 114, 105, 110, 103] = 3 by decide)
    go_enter Tryz.func44, Tryz.ntmps44
    go_wp2
    go_ret
    exact ⟨by simp [HP.out], rfl⟩
  have e0 : (s == [105, 110, 116]) = false := by simpa using h0
  have e1 : (s == [98, 111, 111, 108]) = false := by simpa using h1
  have e2 : (s == [115, 116, 114, 105, 110, 103]) = false := by simpa using h2
  have HR2 : Hid (basicP s = 0) := HR.out.trans (by rw [e0, e1, e2]; rfl)
  clear h0 h1 h2
  go_enter Tryz.func44, Tryz.ntmps44
  go_wp2
  go_ret
  exact ⟨by simp [HR2.out], rfl⟩

set_option maxRecDepth 20000 in
set_option maxHeartbeats 8000000 in
theorem rformed_any : ∀ (n : Nat) (k : Int) (s : List UInt8) (m : Int) (ks : List Tr) (ao : Option Addr) (c : Nat) (S : Nat → Prop) (w : World), cntN (.mk k s m ks) ≤ n → n ≤ 10000000 → TxN n (.mk k s m ks) → (∀ b, S b → b < w.heap.size) → KT w S (.mk k s m ks) (.slice ao ks.length c) →
    Calls Tryz.prog 74 #[.agg #[.int .i64 k, .string ⟨s.toArray⟩, .int .i64 m, .slice ao ks.length c]] w (OutB (formT (.mk k s m ks)) w) := by
  intro n
  induction n with
  | zero => intro k s m ks ao c S w h; simp only [cntN] at h; omega
  | succ n ih =>
    intro k s m ks ao c S w hn hn2 hT hS hk
    have HI := Lib.hid ih
    clear ih
    obtain ⟨hT1, hT2⟩ := hT
    change s.length ≤ maxLen at hT1
    change ∀ k ∈ ks, TxN n k at hT2
    have HT2 := Lib.hid hT2
    clear hT2
    simp only [cntN] at hn
    have hL := Lst.of hk
    have hlen := cntNL_len ks
    have HR : Hid (formT (.mk k s m ks) = (ownP k s m ks.length && formL ks)) := by simp [Hid, formT]
    have hX0 := Hxt.start (w := w) (c0 := .int .i64 k) (c1 := .string ⟨s.toArray⟩) (c2 := .int .i64 m) (c3 := .slice ao ks.length c)
    clear hk
    go_enter Tryz.func74, Tryz.ntmps74
    go_wp2_with fail
    go_loopw [3] (fun v wr => ∃ j : Nat, j ≤ ks.length ∧ v = .int .i64 j ∧ Hxt w (.int .i64 k) (.string ⟨s.toArray⟩) (.int .i64 m) (.slice ao ks.length c) wr ∧ Hid (∀ (i : Nat) a, i < j → ks[i]? = some a → (!(a.kind == 8) && formT a) = true)) (fun v _ => ks.length - (intOf v).toNat)
    case atStart => exact ⟨0, Nat.zero_le _, rfl, hX0, Lib.hid (fun i a hi => by omega)⟩
    case round =>
      obtain ⟨j, hj, rfl, hX, HA⟩ := hrel
      obtain ⟨x0, x1, x2, x3⟩ := hX.cells
      by_cases hlt : j < ks.length
      · obtain ⟨a, ha⟩ : ∃ t, ks[j]? = some t := ⟨_, List.getElem?_eq_getElem hlt⟩
        obtain ⟨g, o, a0, n0, q0, hao, y0, y1, y2, y3, hg, hka⟩ := hL.kid ha hS
        subst hao
        have z0 := (hX.out.cell (p := ⟨g, o + j * 4, none⟩) hg).trans y0
        have z1 := (hX.out.cell (p := ⟨g, o + j * 4 + 1, none⟩) hg).trans y1
        have z2 := (hX.out.cell (p := ⟨g, o + j * 4 + 2, none⟩) hg).trans y2
        have z3 := (hX.out.cell (p := ⟨g, o + j * 4 + 3, none⟩) hg).trans y3
        have hcm := cntNL_mem (List.mem_of_getElem? ha)
        have htx := HT2.out a (List.mem_of_getElem? ha)
        have hka' : KT wr S a (.slice a0 n0 q0) := hka.fr (fun b hb => hX.out.block b (hS b hb)) (fun _ h => h)
        obtain ⟨ak, av, am, aks⟩ := a
        obtain ⟨_, _, e⟩ := (Lst.of hka').slice
        injection e with e4 e5 e7
        clear e4 e7
        subst e5
        have cS := HI.out ak av am aks a0 q0 S wr (by omega) (by omega) htx (fun b hb => Nat.lt_of_lt_of_le (hS b hb) hX.out.size) hka'
        have HAA := Lib.hid ha
        simp only [Tr.kind, Tr.text, Tr.num] at z0 z1 z2
        clear ha hka hka' hcm y0 y1 y2 y3
        cases h8 : (ak == 8) with
        | true =>
          have HX : Hid (formT (.mk k s m ks) = false) := HR.out.trans (by rw [formL_get HAA.out (by simp [Tr.kind, h8])]; simp)
          clear cS
          go_wp2
          go_ret
          exact OutB.of HX ⟨rfl, hX.out⟩
        | false =>
          go_wp2_with fail
          refine cS.mono ?_
          rintro e w2 ⟨rfl, hb2⟩
          have hX2 := hX.next hb2
          clear cS
          cases hp : formT (.mk ak av am aks) with
          | false =>
            have HX : Hid (formT (.mk k s m ks) = false) := HR.out.trans (by rw [formL_get HAA.out (by rw [hp]; simp)]; simp)
            clear hp
            go_wp2
            go_ret
            exact OutB.of HX ⟨rfl, hX2.out⟩
          | true =>
            have HX : Hid (∀ (i : Nat) a, i < j + 1 → ks[i]? = some a → (!(a.kind == 8) && formT a) = true) := by
              refine Lib.hid ?_
              intro i x hi h1
              rcases Nat.lt_or_ge i j with h3 | h3
              · exact HA.out i x h3 h1
              · have : i = j := by omega
                subst this
                rw [HAA.out] at h1
                cases h1; simp [Tr.kind, h8, hp]
            clear hp
            go_wp2
            go_roundw
            case rel => exact ⟨j + 1, by omega, by go_num, hX2, HX⟩
            case measure => simp [intOf]; omega
      · have HR1 : Hid (formT (.mk k s m ks) = ownP k s m ks.length) := HR.out.trans (by
          rw [formL_all fun i a h1 => HA.out i a (by
            rcases Nat.lt_or_ge i ks.length with h | h
            · omega
            · rw [List.getElem?_eq_none h] at h1; cases h1) h1]; simp)
        have hB := hX.out
        clear HR HI HA hL HT2
        by_cases k1 : k = 1
        · subst k1
          by_cases es : s = []
          · subst es
            by_cases em : m = 0
            · subst em
              have HX : Hid (formT (.mk 1 [] 0 ks) = ((ks.length : Int) == 0)) := HR1.out.trans (by simp [ownP])
              go_wp2
              go_ret
              exact OutB.of HX ⟨by simp, hB⟩
            · have HX : Hid (formT (.mk 1 [] m ks) = false) := HR1.out.trans (by simp [ownP, em])
              have fm : (m == 0) = false := by simpa using em
              have fm2 : (m != 0) = true := by simpa using em
              go_wp2
              go_ret
              exact OutB.of HX ⟨rfl, hB⟩
          · have HX : Hid (formT (.mk 1 s m ks) = false) := HR1.out.trans (by simp [ownP, es])
            have fs : (s == []) = false := by simpa using es
            have fs2 : (s != []) = true := by simpa using es
            go_wp2
            go_ret
            exact OutB.of HX ⟨rfl, hB⟩
        by_cases k2 : k = 2
        · subst k2
          by_cases es : s = []
          · subst es
            by_cases em : m = 0
            · subst em
              have HX : Hid (formT (.mk 2 [] 0 ks) = ((ks.length : Int) == 0)) := HR1.out.trans (by simp [ownP])
              go_wp2
              go_ret
              exact OutB.of HX ⟨by simp, hB⟩
            · have HX : Hid (formT (.mk 2 [] m ks) = false) := HR1.out.trans (by simp [ownP, em])
              have fm : (m == 0) = false := by simpa using em
              have fm2 : (m != 0) = true := by simpa using em
              go_wp2
              go_ret
              exact OutB.of HX ⟨rfl, hB⟩
          · have HX : Hid (formT (.mk 2 s m ks) = false) := HR1.out.trans (by simp [ownP, es])
            have fs : (s == []) = false := by simpa using es
            have fs2 : (s != []) = true := by simpa using es
            go_wp2
            go_ret
            exact OutB.of HX ⟨rfl, hB⟩
        by_cases k3 : k = 3
        · subst k3
          by_cases es : s = []
          · subst es
            by_cases em : m = 0
            · subst em
              have HX : Hid (formT (.mk 3 [] 0 ks) = ((ks.length : Int) == 0)) := HR1.out.trans (by simp [ownP])
              go_wp2
              go_ret
              exact OutB.of HX ⟨by simp, hB⟩
            · have HX : Hid (formT (.mk 3 [] m ks) = false) := HR1.out.trans (by simp [ownP, em])
              have fm : (m == 0) = false := by simpa using em
              have fm2 : (m != 0) = true := by simpa using em
              go_wp2
              go_ret
              exact OutB.of HX ⟨rfl, hB⟩
          · have HX : Hid (formT (.mk 3 s m ks) = false) := HR1.out.trans (by simp [ownP, es])
            have fs : (s == []) = false := by simpa using es
            have fs2 : (s != []) = true := by simpa using es
            go_wp2
            go_ret
            exact OutB.of HX ⟨rfl, hB⟩
        by_cases k8 : k = 8
        · subst k8
          by_cases es : s = []
          · subst es
            by_cases em : m = 0
            · subst em
              have HX : Hid (formT (.mk 8 [] 0 ks) = ((ks.length : Int) == 0)) := HR1.out.trans (by simp [ownP])
              go_wp2
              go_ret
              exact OutB.of HX ⟨by simp, hB⟩
            · have HX : Hid (formT (.mk 8 [] m ks) = false) := HR1.out.trans (by simp [ownP, em])
              have fm : (m == 0) = false := by simpa using em
              have fm2 : (m != 0) = true := by simpa using em
              go_wp2
              go_ret
              exact OutB.of HX ⟨rfl, hB⟩
          · have HX : Hid (formT (.mk 8 s m ks) = false) := HR1.out.trans (by simp [ownP, es])
            have fs : (s == []) = false := by simpa using es
            have fs2 : (s != []) = true := by simpa using es
            go_wp2
            go_ret
            exact OutB.of HX ⟨rfl, hB⟩
        by_cases k5 : k = 5
        · subst k5
          by_cases es : s = []
          · subst es
            by_cases em : m = 0
            · subst em
              have HX : Hid (formT (.mk 5 [] 0 ks) = ((ks.length : Int) == 1)) := HR1.out.trans (by simp [ownP])
              go_wp2
              go_ret
              exact OutB.of HX ⟨by simp, hB⟩
            · have HX : Hid (formT (.mk 5 [] m ks) = false) := HR1.out.trans (by simp [ownP, em])
              have fm : (m == 0) = false := by simpa using em
              have fm2 : (m != 0) = true := by simpa using em
              go_wp2
              go_ret
              exact OutB.of HX ⟨rfl, hB⟩
          · have HX : Hid (formT (.mk 5 s m ks) = false) := HR1.out.trans (by simp [ownP, es])
            have fs : (s == []) = false := by simpa using es
            have fs2 : (s != []) = true := by simpa using es
            go_wp2
            go_ret
            exact OutB.of HX ⟨rfl, hB⟩
        by_cases k6 : k = 6
        · subst k6
          by_cases es : s = []
          · subst es
            by_cases em : m = 0
            · subst em
              have HX : Hid (formT (.mk 6 [] 0 ks) = ((ks.length : Int) == 1)) := HR1.out.trans (by simp [ownP])
              go_wp2
              go_ret
              exact OutB.of HX ⟨by simp, hB⟩
            · have HX : Hid (formT (.mk 6 [] m ks) = false) := HR1.out.trans (by simp [ownP, em])
              have fm : (m == 0) = false := by simpa using em
              have fm2 : (m != 0) = true := by simpa using em
              go_wp2
              go_ret
              exact OutB.of HX ⟨rfl, hB⟩
          · have HX : Hid (formT (.mk 6 s m ks) = false) := HR1.out.trans (by simp [ownP, es])
            have fs : (s == []) = false := by simpa using es
            have fs2 : (s != []) = true := by simpa using es
            go_wp2
            go_ret
            exact OutB.of HX ⟨rfl, hB⟩
        by_cases k7 : k = 7
        · subst k7
          by_cases es : s = []
          · subst es
            cases hm : decide (0 ≤ m) with
            | false =>
              have HX : Hid (formT (.mk 7 [] m ks) = false) := HR1.out.trans (by simp [ownP]; simp at hm; omega)
              go_wp2
              go_ret
              exact OutB.of HX ⟨rfl, hB⟩
            | true =>
              have HX : Hid (formT (.mk 7 [] m ks) = decide (m ≤ (ks.length : Int))) := HR1.out.trans (by simp [ownP]; simp at hm; omega)
              go_wp2
              go_ret
              exact OutB.of HX ⟨by simp, hB⟩
          · have HX : Hid (formT (.mk 7 s m ks) = false) := HR1.out.trans (by simp [ownP, es])
            have fs : (s == []) = false := by simpa using es
            have fs2 : (s != []) = true := by simpa using es
            go_wp2
            go_ret
            exact OutB.of HX ⟨rfl, hB⟩
        by_cases k4 : k = 4
        · subst k4
          by_cases em : m = 0
          · subst em
            by_cases en : (ks.length : Int) = 0
            · have HX0 : Hid (formT (.mk 4 s 0 ks) = (kindP s == 4 && nameP s)) := HR1.out.trans (by simp [ownP, freeP, en])
              have fn : ((ks.length : Int) == 0) = true := by simpa using en
              have cN := nmR_any ⟨s.toArray⟩ (by simpa [ByteArray.size] using hT1) wr
              cases hN : nameP s with
              | false =>
                rw [show nameP (⟨s.toArray⟩ : ByteArray).data.toList = nameP s by simp, hN] at cN
                have HX : Hid (formT (.mk 4 s 0 ks) = false) := HX0.out.trans (by simp [hN])
                clear hN
                go_wp2_with fail
                refine cN.mono ?_
                rintro e w2 ⟨rfl, hb2⟩
                have hX2 := hX.next hb2
                clear cN
                go_wp2
                go_ret
                exact OutB.of HX ⟨rfl, hX2.out⟩
              | true =>
                rw [show nameP (⟨s.toArray⟩ : ByteArray).data.toList = nameP s by simp, hN] at cN
                have HX : Hid (formT (.mk 4 s 0 ks) = (basicP s == 0)) := HX0.out.trans (by simp [hN, basic_kind])
                clear hN
                go_wp2_with fail
                refine cN.mono ?_
                rintro e w2 ⟨rfl, hb2⟩
                have hX2 := hX.next hb2
                obtain ⟨r0, r1, r2, r3⟩ := hX2.cells
                have cB := basic_any s w2
                clear cN
                go_wp2_with fail
                refine cB.mono ?_
                rintro e w3 ⟨rfl, hw3⟩
                subst hw3
                clear cB
                go_wp2
                go_ret
                exact OutB.of HX ⟨by simp, hX2.out⟩
            · have HX : Hid (formT (.mk 4 s 0 ks) = false) := HR1.out.trans (by simp [ownP]; intro _; simpa using en)
              have fn : ((ks.length : Int) == 0) = false := by simpa using en
              go_wp2
              go_ret
              exact OutB.of HX ⟨rfl, hB⟩
          · have HX : Hid (formT (.mk 4 s m ks) = false) := HR1.out.trans (by simp [ownP, em])
            have fm : (m == 0) = false := by simpa using em
            have fm2 : (m != 0) = true := by simpa using em
            go_wp2
            go_ret
            exact OutB.of HX ⟨rfl, hB⟩
        have HX : Hid (formT (.mk k s m ks) = false) := HR1.out.trans (by simp [ownP, k1, k2, k3, k4, k5, k6, k7, k8])
        have f1 : (k == 1) = false := by simpa using k1
        have f2 : (k == 2) = false := by simpa using k2
        have f3 : (k == 3) = false := by simpa using k3
        have f4 : (k == 4) = false := by simpa using k4
        have g4 : (k != 4) = true := by simpa using k4
        have f5 : (k == 5) = false := by simpa using k5
        have f6 : (k == 6) = false := by simpa using k6
        have f7 : (k == 7) = false := by simpa using k7
        have g7 : (k != 7) = true := by simpa using k7
        have f8 : (k == 8) = false := by simpa using k8
        by_cases es : s = []
        · subst es
          by_cases em : m = 0
          · subst em
            go_wp2
            go_ret
            exact OutB.of HX ⟨rfl, hB⟩
          · have fm : (m == 0) = false := by simpa using em
            have fm2 : (m != 0) = true := by simpa using em
            go_wp2
            go_ret
            exact OutB.of HX ⟨rfl, hB⟩
        · have fs : (s == []) = false := by simpa using es
          have fs2 : (s != []) = true := by simpa using es
          go_wp2
          go_ret
          exact OutB.of HX ⟨rfl, hB⟩
end Go.Proofs.YtbejkphekfbfnaaGreat
