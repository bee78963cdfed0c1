/- The program's same. -/
import Derived.Test.YtbejkphekfbfnaaGreatTyD
namespace Go.Proofs.YtbejkphekfbfnaaGreat
open Go.RowKit
attribute [local go_sem ↓] Go.wp_at_zero Go.wp_at_succ

set_option maxRecDepth 20000 in
theorem enters_same : Enters Tryz.prog 37 := enters_of Tryz.func37 (by kernel_rfl) rfl
/-- What same owes of trees so deep. -/
def SameC (n : Nat) : Prop := ∀ (k : Int) (s : List UInt8) (m : Int) (ks : List Tr) (k' : Int) (s' : List UInt8) (m' : Int) (ks' : List Tr) (ao : Option Addr) (c : Nat) (ao' : Option Addr) (c' : Nat) (S S' : Nat → Prop) (w : World), Lim n (.mk k s m ks) → (∀ b, S b → b < w.heap.size) → (∀ b, S' b → b < w.heap.size) → KT w S (.mk k s m ks) (.slice ao ks.length c) → KT w S' (.mk k' s' m' ks') (.slice ao' ks'.length c') →
    Calls Tryz.prog 37 #[.agg #[.int .i64 k, .string ⟨s.toArray⟩, .int .i64 m, .slice ao ks.length c], .agg #[.int .i64 k', .string ⟨s'.toArray⟩, .int .i64 m', .slice ao' ks'.length c']] w (OutB (sameT (.mk k s m ks) (.mk k' s' m' ks')) w)

set_option maxRecDepth 20000 in
set_option maxHeartbeats 4000000 in
theorem equalFunc_any {n : Nat} (hI : SameC n) (ks ks' : List Tr) (ao : Option Addr) (c : Nat) (ao' : Option Addr) (c' : Nat) (S S' : Nat → Prop) (w : World) (hn : ks.length ≤ 20000) (hF : ∀ t ∈ ks, Lim n t) (hS : ∀ b, S b → b < w.heap.size) (hS' : ∀ b, S' b → b < w.heap.size) (hL : Lst w S ks (.slice ao ks.length c)) (hL' : Lst w S' ks' (.slice ao' ks'.length c')) :
    Calls Tryz.prog 72 #[.slice ao ks.length c, .slice ao' ks'.length c', .func (.func 37) #[] #[]] w (OutB (ks.length == ks'.length && sameL ks ks') w) := by
  have HI := Lib.hid hI
  have HF := Lib.hid hF
  clear hI hF
  by_cases e4 : ks.length = ks'.length
  · have HX0 : Hid ((ks.length == ks'.length && sameL ks ks') = sameL ks ks') := by simp [Hid, e4]
    have f4 : ((ks.length : Int) != (ks'.length : Int)) = false := by simp; omega
    have l1 : ks.length ≤ ks'.length := by omega
    have l2 : ks'.length ≤ ks.length := by omega
    have eg : ∀ args w, (callFunc 37 args).run Tryz.prog w = .ok (.enter 37 args) w := enters_same
    clear e4
    go_enter Tryz.func72, Tryz.ntmps72
    go_wp2_with fail
    go_loopw [17] (fun v wr => ∃ j : Nat, j ≤ ks.length ∧ v = .int .i64 j ∧ Below w.heap.size w wr ∧ Hid (∀ (i : Nat) a b, i < j → ks[i]? = some a → ks'[i]? = some b → sameT a b = true)) (fun v _ => ks.length - (intOf v).toNat)
    case atStart => exact ⟨0, Nat.zero_le _, rfl, Below.refl _ _, Lib.hid (fun i q t hi => by omega)⟩
    case round =>
      obtain ⟨j, hj, rfl, hB, HA⟩ := hrel
      have hz := hB.size
      by_cases hlt : j < ks.length
      · obtain ⟨a, ha⟩ : ∃ t, ks[j]? = some t := ⟨_, List.getElem?_eq_getElem hlt⟩
        obtain ⟨b, hb⟩ : ∃ t, ks'[j]? = some t := ⟨_, List.getElem?_eq_getElem (by omega)⟩
        obtain ⟨g, o, a0, n0, q0, hao, y0, y1, y2, y3, hg, hka⟩ := hL.kid ha hS
        obtain ⟨g', o', a0', n0', q0', hao', u0, u1, u2, u3, hg', hkb⟩ := hL'.kid hb hS'
        subst hao hao'
        have z0 := (hB.cell (p := ⟨g, o + j * 4, none⟩) hg).trans y0
        have z1 := (hB.cell (p := ⟨g, o + j * 4 + 1, none⟩) hg).trans y1
        have z2 := (hB.cell (p := ⟨g, o + j * 4 + 2, none⟩) hg).trans y2
        have z3 := (hB.cell (p := ⟨g, o + j * 4 + 3, none⟩) hg).trans y3
        have v0 := (hB.cell (p := ⟨g', o' + j * 4, none⟩) hg').trans u0
        have v1 := (hB.cell (p := ⟨g', o' + j * 4 + 1, none⟩) hg').trans u1
        have v2 := (hB.cell (p := ⟨g', o' + j * 4 + 2, none⟩) hg').trans u2
        have v3 := (hB.cell (p := ⟨g', o' + j * 4 + 3, none⟩) hg').trans u3
        have hlt' : j < ks'.length := by omega
        have hgr : g < wr.heap.size := by omega
        have hgr' : g' < wr.heap.size := by omega
        have hgr1 : g' < wr.heap.size + 1 := by omega
        have hLa := HF.out a (List.mem_of_getElem? ha)
        obtain ⟨ak, av, am, aks⟩ := a
        obtain ⟨bk, bt, bm, bks⟩ := b
        obtain ⟨_, _, e⟩ := (Lst.of hka).slice
        injection e with e4 e5 e7
        clear e4 e7
        obtain ⟨_, _, e⟩ := (Lst.of hkb).slice
        injection e with e4 e6 e7
        clear e4 e7
        subst e5 e6
        have HAA := Lib.hid ha
        have HBB := Lib.hid hb
        simp only [Tr.kind, Tr.text, Tr.num] at z0 z1 z2 v0 v1 v2
        have hB2 : Below w.heap.size w ((wr.alloc (.cells #[.int .i64 ak, .string ⟨av.toArray⟩, .int .i64 am, .slice a0 aks.length q0] 27)).alloc (.cells #[.int .i64 bk, .string ⟨bt.toArray⟩, .int .i64 bm, .slice a0' bks.length q0'] 27)) := (hB.alloc hz _).alloc (by simp; omega) _
        have cT := HI.out ak av am aks bk bt bm bks a0 q0 a0' q0' S S' _ hLa (fun b hb => Nat.lt_of_lt_of_le (hS b hb) hB2.size) (fun b hb => Nat.lt_of_lt_of_le (hS' b hb) hB2.size) (hka.fr (fun b hb => hB2.block b (hS b hb)) (fun _ h => h)) (hkb.fr (fun b hb => hB2.block b (hS' b hb)) (fun _ h => h))
        have HB2 := Lib.hid hB2
        clear ha hb y0 y1 y2 y3 u0 u1 u2 u3 hka hkb hB2
        go_wp2_with fail
        refine cT.mono ?_
        rintro e w2 ⟨rfl, hb2⟩
        have hB3 : Below w.heap.size w w2 := HB2.out.trans (hb2.mono (by simp; omega))
        clear cT hb2
        cases hp : sameT (.mk ak av am aks) (.mk bk bt bm bks) with
        | false =>
          have HX : Hid ((ks.length == ks'.length && sameL ks ks') = false) := HX0.out.trans (sameL_get ks ks' j _ _ HAA.out HBB.out hp)
          clear hp
          go_wp2
          go_ret
          exact OutB.of HX ⟨rfl, hB3⟩
        | true =>
          have HX : Hid (∀ (i : Nat) a b, i < j + 1 → ks[i]? = some a → ks'[i]? = some b → sameT a b = true) := by
            refine Lib.hid ?_
            intro i x y hi h1 h2
            rcases Nat.lt_or_ge i j with h3 | h3
            · exact HA.out i x y h3 h1 h2
            · have : i = j := by omega
              subst this
              rw [HAA.out] at h1; rw [HBB.out] at h2
              cases h1; cases h2; exact hp
          clear hp
          go_wp2
          go_roundw
          case rel => exact ⟨j + 1, by omega, by go_num, hB3, HX⟩
          case measure => simp [intOf]; omega
      · have HX : Hid ((ks.length == ks'.length && sameL ks ks') = true) := HX0.out.trans (sameL_all ks ks' fun i x y h1 h2 => HA.out i x y (by
          rcases Nat.lt_or_ge i ks.length with h | h
          · omega
          · rw [List.getElem?_eq_none h] at h1; cases h1) h1 h2)
        go_wp2
        go_ret
        exact OutB.of HX ⟨rfl, hB⟩
  · have HX0 : Hid ((ks.length == ks'.length && sameL ks ks') = false) := by simp [Hid, e4]
    have f4 : ((ks.length : Int) != (ks'.length : Int)) = true := by simp; omega
    clear e4
    go_enter Tryz.func72, Tryz.ntmps72
    go_wp2
    go_ret
    exact OutB.of HX0 ⟨rfl, Below.refl _ _⟩

set_option maxRecDepth 20000 in
set_option maxHeartbeats 4000000 in
theorem same4_any : ∀ n, SameC n := by
  intro n
  induction n with
  | zero => intro k s m ks k' s' m' ks' ao c ao' c' S S' w h; exact h.elim
  | succ n ih =>
    intro k s m ks k' s' m' ks' ao c ao' c' S S' w hF hS hS' hk hk'
    obtain ⟨hF1, hF2⟩ := hF
    change ks.length ≤ 20000 at hF1
    change ∀ k ∈ ks, Lim n k at hF2
    have HR : Hid (sameT (.mk k s m ks) (.mk k' s' m' ks') = (k == k' && (s == s' && (m == m' && (ks.length == ks'.length && sameL ks ks'))))) := by simp [Hid, sameT]
    have hB : Below w.heap.size w ((w.alloc (.cells #[.int .i64 k, .string ⟨s.toArray⟩, .int .i64 m, .slice ao ks.length c] 27)).alloc (.cells #[.int .i64 k', .string ⟨s'.toArray⟩, .int .i64 m', .slice ao' ks'.length c'] 27)) := ((Below.refl _ _).alloc (Nat.le_refl _) _).alloc (by simp) _
    have cE := equalFunc_any ih ks ks' ao c ao' c' S S' _ hF1 hF2 (fun b hb => Nat.lt_of_lt_of_le (hS b hb) hB.size) (fun b hb => Nat.lt_of_lt_of_le (hS' b hb) hB.size) ((Lst.of hk).fr (fun b hb => hB.block b (hS b hb)) (fun _ h => h)) ((Lst.of hk').fr (fun b hb => hB.block b (hS' b hb)) (fun _ h => h))
    have HB := Lib.hid hB
    clear ih hF2 hk hk' hB
    by_cases e1 : k = k'
    · by_cases e2 : s = s'
      · by_cases e3 : m = m'
        · have HX0 : Hid (sameT (.mk k s m ks) (.mk k' s' m' ks') = (ks.length == ks'.length && sameL ks ks')) := HR.out.trans (by simp [e1, e2, e3])
          subst e1 e2 e3
          generalize (ks.length == ks'.length && sameL ks ks') = B at *
          go_enter Tryz.func37, Tryz.ntmps37
          go_wp2_with fail
          refine cE.mono ?_
          rintro e w2 ⟨rfl, hb2⟩
          have hB3 : Below w.heap.size w w2 := HB.out.trans (hb2.mono (by simp; omega))
          clear cE hb2
          go_wp2
          go_ret
          exact OutB.of HX0 ⟨by simp, hB3⟩
        · have HX0 : Hid (sameT (.mk k s m ks) (.mk k' s' m' ks') = false) := HR.out.trans (by simp [e3])
          have f3 : (m == m') = false := by simpa using e3
          subst e1 e2
          clear e3 cE
          go_enter Tryz.func37, Tryz.ntmps37
          go_wp2
          go_ret
          exact OutB.of HX0 ⟨rfl, HB.out⟩
      · have HX0 : Hid (sameT (.mk k s m ks) (.mk k' s' m' ks') = false) := HR.out.trans (by simp [e2])
        have f2 : (s == s') = false := by simpa using e2
        subst e1
        clear e2 cE
        go_enter Tryz.func37, Tryz.ntmps37
        go_wp2
        go_ret
        exact OutB.of HX0 ⟨rfl, HB.out⟩
    · have HX0 : Hid (sameT (.mk k s m ks) (.mk k' s' m' ks') = false) := HR.out.trans (by simp [e1])
      have f1 : (k == k') = false := by simpa using e1
      clear e1 cE
      go_enter Tryz.func37, Tryz.ntmps37
      go_wp2
      go_ret
      exact OutB.of HX0 ⟨rfl, HB.out⟩
end Go.Proofs.YtbejkphekfbfnaaGreat
