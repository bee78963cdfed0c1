/- The document's size of a type, and its Equal. -/
import Derived.Test.YtbejkphekfbfnaaGreatTyA
namespace Go.Proofs.YtbejkphekfbfnaaGreat
open Go.RowKit
attribute [local go_sem ↓] Go.wp_at_zero Go.wp_at_succ

set_option maxRecDepth 20000 in
set_option maxHeartbeats 4000000 in
theorem rsize_any : ∀ (n : Nat) (k : Int) (s : List UInt8) (m : Int) (ks : List Tr) (ao : Option Addr) (c : Nat) (S : Nat → Prop) (w : World), cntN (.mk k s m ks) ≤ n → n ≤ 10000000 → (∀ b, S b → b < w.heap.size) → KT w S (.mk k s m ks) (.slice ao ks.length c) →
    Calls Tryz.prog 73 #[.agg #[.int .i64 k, .string ⟨s.toArray⟩, .int .i64 m, .slice ao ks.length c]] w fun e w' => e = .returned (.tuple #[.int .i64 (1 + cntNL ks : Nat), .int .i64 (depNL ks + 1 : Nat)]) ∧ Below w.heap.size w w' := by
  intro n
  induction n with
  | zero => intro k s m ks ao c S w h; simp only [cntN] at h; omega
  | succ n ih =>
    intro k s m ks ao c S w hn hn2 hS hk
    have HI := Lib.hid ih
    clear ih
    simp only [cntN] at hn
    have hL := Lst.of hk
    have hlen := cntNL_len ks
    have hX0 := Hxt.start (w := w) (c0 := .int .i64 k) (c1 := .string ⟨s.toArray⟩) (c2 := .int .i64 m) (c3 := .slice ao ks.length c)
    clear hk
    go_enter Tryz.func73, Tryz.ntmps73
    go_wp2_with fail
    go_loopw [4, 5, 6] (fun v4 v5 v6 wr => ∃ j : Nat, j ≤ ks.length ∧ v6 = .int .i64 j ∧ v4 = .int .i64 (1 + cntNL (ks.take j) : Nat) ∧ v5 = .int .i64 (depNL (ks.take j) : Nat) ∧ Hxt w (.int .i64 k) (.string ⟨s.toArray⟩) (.int .i64 m) (.slice ao ks.length c) wr) (fun _ _ v6 _ => ks.length - (intOf v6).toNat)
    case atStart => exact ⟨0, Nat.zero_le _, rfl, rfl, rfl, hX0⟩
    case round =>
      obtain ⟨j, hj, rfl, rfl, rfl, hX⟩ := hrel
      obtain ⟨x0, x1, x2, x3⟩ := hX.cells
      by_cases hlt : j < ks.length
      · obtain ⟨a, ha⟩ : ∃ t, ks[j]? = some t := ⟨_, List.getElem?_eq_getElem hlt⟩
        obtain ⟨g, o, a0, n0, q0, hao, y0, y1, y2, y3, hg, hka⟩ := hL.kid ha hS
        subst hao
        have z0 := (hX.out.cell (p := ⟨g, o + j * 4, none⟩) hg).trans y0
        have z1 := (hX.out.cell (p := ⟨g, o + j * 4 + 1, none⟩) hg).trans y1
        have z2 := (hX.out.cell (p := ⟨g, o + j * 4 + 2, none⟩) hg).trans y2
        have z3 := (hX.out.cell (p := ⟨g, o + j * 4 + 3, none⟩) hg).trans y3
        have hcm := cntNL_mem (List.mem_of_getElem? ha)
        have hka' : KT wr S a (.slice a0 n0 q0) := hka.fr (fun b hb => hX.out.block b (hS b hb)) (fun _ h => h)
        have et : ks.take (j + 1) = ks.take j ++ [a] := by rw [List.take_add_one, ha]; rfl
        have e1 : cntNL (ks.take (j + 1)) = cntNL (ks.take j) + cntN a := by rw [et, cntNL_append]; simp [cntNL]
        have e2 : depNL (ks.take (j + 1)) = max (depNL (ks.take j)) (depN a) := by rw [et, depNL_append]; simp [depNL]
        have b1 : cntNL (ks.take (j + 1)) ≤ cntNL ks := by
          have := cntNL_append (ks.take (j + 1)) (ks.drop (j + 1)); rw [List.take_append_drop] at this; omega
        have b2 := depNL_le (ks.take (j + 1))
        obtain ⟨ak, av, am, aks⟩ := a
        obtain ⟨_, _, e⟩ := (Lst.of hka').slice
        injection e with e4 e5 e7
        clear e4 e7
        subst e5
        have cS := HI.out ak av am aks a0 q0 S wr (by omega) (by omega) (fun b hb => Nat.lt_of_lt_of_le (hS b hb) hX.out.size) hka'
        have E1 := Lib.hid e1
        have E2 := Lib.hid e2
        have bn : 1 + cntNL aks ≤ 10000000 := by simp only [cntN] at hcm; omega
        have bd : depNL aks + 1 ≤ 10000000 := by have := depNL_le aks; omega
        have bt : cntNL (ks.take j) ≤ 10000000 := by omega
        have bu : depNL (ks.take j) ≤ 10000000 := by have := depNL_le (ks.take j); omega
        simp only [Tr.kind, Tr.text, Tr.num] at z0 z1 z2
        clear e1 e2 et ha hka hka' hcm y0 y1 y2 y3
        go_wp2_with fail
        refine cS.mono ?_
        rintro e w2 ⟨rfl, hb2⟩
        have hX2 := hX.next hb2
        clear cS
        by_cases hgt : ((depNL aks + 1 : Nat) : Int) > (depNL (ks.take j) : Nat)
        · have hd : decide (((depNL aks + 1 : Nat) : Int) > (depNL (ks.take j) : Nat)) = true := by simpa using hgt
          have e3 : depNL (ks.take (j + 1)) = depNL aks + 1 := by rw [E2.out]; simp only [depN]; omega
          have E3 := Lib.hid e3
          clear e3
          go_wp2
          go_roundw
          case rel => exact ⟨j + 1, by omega, by go_num, by rw [E1.out]; simp only [cntN]; congr 1; omega, by rw [E3.out]; simp, hX2⟩
          case measure => simp [intOf]; omega
        · have hd : decide (((depNL aks + 1 : Nat) : Int) > (depNL (ks.take j) : Nat)) = false := by simpa using hgt
          have e3 : depNL (ks.take (j + 1)) = depNL (ks.take j) := by rw [E2.out]; simp only [depN]; omega
          have E3 := Lib.hid e3
          clear e3
          go_wp2
          go_roundw
          case rel => exact ⟨j + 1, by omega, by go_num, by rw [E1.out]; simp only [cntN]; congr 1; omega, by rw [E3.out], hX2⟩
          case measure => simp [intOf]; omega
      · have ht : ks.take j = ks := List.take_of_length_le (by omega)
        have b2 := depNL_le ks
        have e1 : cntNL (ks.take j) = cntNL ks := by rw [ht]
        have e2 : depNL (ks.take j) = depNL ks := by rw [ht]
        rw [e1, e2]
        have b3 : cntNL ks ≤ 10000000 := by omega
        have b4 : depNL ks ≤ 10000000 := by omega
        clear ht e1 e2
        go_wp2
        exact bodyPost_ret (v := .tuple #[.int .i64 (1 + cntNL ks : Nat), .int .i64 (depNL ks + 1 : Nat)]) (by simp [results, Tryz.results73, go_sem]) rfl ⟨rfl, hX.out⟩

set_option maxRecDepth 20000 in
set_option maxHeartbeats 40000000 in
theorem requal_any : ∀ (n : Nat) (k : Int) (s : List UInt8) (m : Int) (ks : List Tr) (k' : Int) (s' : List UInt8) (m' : Int) (ks' : List Tr) (ao : Option Addr) (c : Nat) (ao' : Option Addr) (c' : Nat) (S S' : Nat → Prop) (w : World), Lim n (.mk k s m ks) → (∀ b, S b → b < w.heap.size) → (∀ b, S' b → b < w.heap.size) → KT w S (.mk k s m ks) (.slice ao ks.length c) → KT w S' (.mk k' s' m' ks') (.slice ao' ks'.length c') →
    Calls Tryz.prog 12 #[.agg #[.int .i64 k, .string ⟨s.toArray⟩, .int .i64 m, .slice ao ks.length c], .agg #[.int .i64 k', .string ⟨s'.toArray⟩, .int .i64 m', .slice ao' ks'.length c']] w (OutB (sameT (.mk k s m ks) (.mk k' s' m' ks')) w) := by
  intro n
  induction n with
  | zero => intro k s m ks k' s' m' ks' ao c ao' c' S S' w h; exact h.elim
  | succ n ih =>
    intro k s m ks k' s' m' ks' ao c ao' c' S S' w hF hS hS' hk hk'
    have HI := Lib.hid ih
    clear ih
    obtain ⟨hF1, hF2⟩ := hF
    change ks.length ≤ 20000 at hF1
    change ∀ k ∈ ks, Lim n k at hF2
    have HF2 := Lib.hid hF2
    have hL := Lst.of hk
    have hL' := Lst.of hk'
    have HR : Hid (sameT (.mk k s m ks) (.mk k' s' m' ks') = (k == k' && (s == s' && (m == m' && (ks.length == ks'.length && sameL ks ks'))))) := by simp [Hid, sameT]
    have hX0 := Hyt.start (w := w) (c0 := .int .i64 k) (c1 := .string ⟨s.toArray⟩) (c2 := .int .i64 m) (c3 := .slice ao ks.length c) (d0 := .int .i64 k') (d1 := .string ⟨s'.toArray⟩) (d2 := .int .i64 m') (d3 := .slice ao' ks'.length c')
    clear hF2 hk hk'
    by_cases e1 : k = k'
    · by_cases e2 : s = s'
      · by_cases e3 : m = m'
        · by_cases e4 : ks.length = ks'.length
          · have HX0 : Hid (sameT (.mk k s m ks) (.mk k' s' m' ks') = sameL ks ks') := HR.out.trans (by simp [e1, e2, e3, e4])
            subst e1 e2 e3
            have f4 : ((ks.length : Int) != (ks'.length : Int)) = false := by simp; omega
            have l1 : ks.length ≤ ks'.length := by omega
            have l2 : ks'.length ≤ ks.length := by omega
            clear e4
            go_enter Tryz.func12, Tryz.ntmps12
            go_wp2_with fail
            go_loopw [5] (fun v wr => ∃ j : Nat, j ≤ ks.length ∧ v = .int .i64 j ∧ Hyt w (.int .i64 k) (.string ⟨s.toArray⟩) (.int .i64 m) (.slice ao ks.length c) (.int .i64 k) (.string ⟨s.toArray⟩) (.int .i64 m) (.slice ao' ks'.length c') wr ∧ Hid (∀ (i : Nat) a b, i < j → ks[i]? = some a → ks'[i]? = some b → sameT a b = true)) (fun v _ => ks.length - (intOf v).toNat)
            case atStart => exact ⟨0, Nat.zero_le _, rfl, hX0, Lib.hid (fun i q t hi => by omega)⟩
            case round =>
              obtain ⟨j, hj, rfl, hX, HA⟩ := hrel
              obtain ⟨x0, x1, x2, x3, x4, x5, x6, x7⟩ := hX.cells
              by_cases hlt : j < ks.length
              · obtain ⟨a, ha⟩ : ∃ t, ks[j]? = some t := ⟨_, List.getElem?_eq_getElem hlt⟩
                obtain ⟨b, hb⟩ : ∃ t, ks'[j]? = some t := ⟨_, List.getElem?_eq_getElem (by omega)⟩
                obtain ⟨g, o, a0, n0, q0, hao, y0, y1, y2, y3, hg, hka⟩ := hL.kid ha hS
                obtain ⟨g', o', a0', n0', q0', hao', u0, u1, u2, u3, hg', hkb⟩ := hL'.kid hb hS'
                subst hao hao'
                have hd := hX.drew
                have z0 := (hX.out.cell (p := ⟨g, o + j * 4, none⟩) hg).trans y0
                have z1 := (hX.out.cell (p := ⟨g, o + j * 4 + 1, none⟩) hg).trans y1
                have z2 := (hX.out.cell (p := ⟨g, o + j * 4 + 2, none⟩) hg).trans y2
                have z3 := (hX.out.cell (p := ⟨g, o + j * 4 + 3, none⟩) hg).trans y3
                have v0 := (hX.out.cell (p := ⟨g', o' + j * 4, none⟩) hg').trans u0
                have v1 := (hX.out.cell (p := ⟨g', o' + j * 4 + 1, none⟩) hg').trans u1
                have v2 := (hX.out.cell (p := ⟨g', o' + j * 4 + 2, none⟩) hg').trans u2
                have v3 := (hX.out.cell (p := ⟨g', o' + j * 4 + 3, none⟩) hg').trans u3
                have hlt' : j < ks'.length := by omega
                have hLa := HF2.out a (List.mem_of_getElem? ha)
                obtain ⟨ak, av, am, aks⟩ := a
                obtain ⟨bk, bt, bm, bks⟩ := b
                obtain ⟨_, _, e⟩ := (Lst.of hka).slice
                injection e with e4 e5 e7
                clear e4 e7
                obtain ⟨_, _, e⟩ := (Lst.of hkb).slice
                injection e with e4 e6 e7
                clear e4 e7
                subst e5 e6
                have HAA := Lib.hid ha
                have HBB := Lib.hid hb
                simp only [Tr.kind, Tr.text, Tr.num] at z0 z1 z2 v0 v1 v2
                clear ha hb y0 y1 y2 y3 u0 u1 u2 u3
                go_wp2_with fail
                have HK : Hid (∀ WW, Hyt w (.int .i64 k) (.string ⟨s.toArray⟩) (.int .i64 m) (.slice (some ⟨g, o, none⟩) ks.length c) (.int .i64 k) (.string ⟨s.toArray⟩) (.int .i64 m) (.slice (some ⟨g', o', none⟩) ks'.length c') WW ∧ WW.cell? ⟨w.heap.size, 3, none⟩ = some (.slice (some ⟨g, o, none⟩) ks.length c) ∧ WW.cell? ⟨w.heap.size + 1, 3, none⟩ = some (.slice (some ⟨g', o', none⟩) ks'.length c') ∧ WW.cell? ⟨g, o + j * 4, none⟩ = some (.int .i64 ak) ∧ WW.cell? ⟨g, o + j * 4 + 1, none⟩ = some (.string ⟨av.toArray⟩) ∧ WW.cell? ⟨g, o + j * 4 + 2, none⟩ = some (.int .i64 am) ∧ WW.cell? ⟨g, o + j * 4 + 3, none⟩ = some (.slice a0 aks.length q0) ∧ WW.cell? ⟨g', o' + j * 4, none⟩ = some (.int .i64 bk) ∧ WW.cell? ⟨g', o' + j * 4 + 1, none⟩ = some (.string ⟨bt.toArray⟩) ∧ WW.cell? ⟨g', o' + j * 4 + 2, none⟩ = some (.int .i64 bm) ∧ WW.cell? ⟨g', o' + j * 4 + 3, none⟩ = some (.slice a0' bks.length q0') → Calls Tryz.prog 12 #[.agg #[.int .i64 ak, .string ⟨av.toArray⟩, .int .i64 am, .slice a0 aks.length q0], .agg #[.int .i64 bk, .string ⟨bt.toArray⟩, .int .i64 bm, .slice a0' bks.length q0']] WW fun e WW => e = .returned (.bool (sameT (.mk ak av am aks) (.mk bk bt bm bks))) ∧ Hyt w (.int .i64 k) (.string ⟨s.toArray⟩) (.int .i64 m) (.slice (some ⟨g, o, none⟩) ks.length c) (.int .i64 k) (.string ⟨s.toArray⟩) (.int .i64 m) (.slice (some ⟨g', o', none⟩) ks'.length c') WW ∧ WW.cell? ⟨w.heap.size, 3, none⟩ = some (.slice (some ⟨g, o, none⟩) ks.length c) ∧ WW.cell? ⟨w.heap.size + 1, 3, none⟩ = some (.slice (some ⟨g', o', none⟩) ks'.length c') ∧ WW.cell? ⟨g, o + j * 4, none⟩ = some (.int .i64 ak) ∧ WW.cell? ⟨g, o + j * 4 + 1, none⟩ = some (.string ⟨av.toArray⟩) ∧ WW.cell? ⟨g, o + j * 4 + 2, none⟩ = some (.int .i64 am) ∧ WW.cell? ⟨g, o + j * 4 + 3, none⟩ = some (.slice a0 aks.length q0) ∧ WW.cell? ⟨g', o' + j * 4, none⟩ = some (.int .i64 bk) ∧ WW.cell? ⟨g', o' + j * 4 + 1, none⟩ = some (.string ⟨bt.toArray⟩) ∧ WW.cell? ⟨g', o' + j * 4 + 2, none⟩ = some (.int .i64 bm) ∧ WW.cell? ⟨g', o' + j * 4 + 3, none⟩ = some (.slice a0' bks.length q0')) := by
                  refine Lib.hid ?_
                  rintro W ⟨hY, q3, q7, w0, w1, w2, w3, t0, t1, t2, t3⟩
                  have hbo := hY.out
                  refine (HI.out ak av am aks bk bt bm bks a0 q0 a0' q0' S S' W hLa (fun b hb => Nat.lt_of_lt_of_le (hS b hb) hbo.size) (fun b hb => Nat.lt_of_lt_of_le (hS' b hb) hbo.size) (hka.fr (fun b hb => hbo.block b (hS b hb)) (fun _ h => h)) (hkb.fr (fun b hb => hbo.block b (hS' b hb)) (fun _ h => h))).mono ?_
                  rintro e W2 ⟨rfl, hb2⟩
                  have hp1 : w.heap.size < W.heap.size := by have := hY.size; omega
                  have hp2 : w.heap.size + 1 < W.heap.size := by have := hY.size; omega
                  have hp3 : g < W.heap.size := Nat.lt_of_lt_of_le hg hbo.size
                  have hp4 : g' < W.heap.size := Nat.lt_of_lt_of_le hg' hbo.size
                  exact ⟨rfl, hY.next hb2, (hb2.cell (p := ⟨w.heap.size, 3, none⟩) hp1).trans q3, (hb2.cell (p := ⟨w.heap.size + 1, 3, none⟩) hp2).trans q7, (hb2.cell (p := ⟨g, o + j * 4, none⟩) hp3).trans w0, (hb2.cell (p := ⟨g, o + j * 4 + 1, none⟩) hp3).trans w1, (hb2.cell (p := ⟨g, o + j * 4 + 2, none⟩) hp3).trans w2, (hb2.cell (p := ⟨g, o + j * 4 + 3, none⟩) hp3).trans w3, (hb2.cell (p := ⟨g', o' + j * 4, none⟩) hp4).trans t0, (hb2.cell (p := ⟨g', o' + j * 4 + 1, none⟩) hp4).trans t1, (hb2.cell (p := ⟨g', o' + j * 4 + 2, none⟩) hp4).trans t2, (hb2.cell (p := ⟨g', o' + j * 4 + 3, none⟩) hp4).trans t3⟩
                clear hX hX0 x0 x1 x2 x4 x5 x6 HF2 HI hL hL' hS hS' hLa hg hg' l1 l2 f4 HR hka hkb
                go_region_held3 (fun WW => Hyt w (.int .i64 k) (.string ⟨s.toArray⟩) (.int .i64 m) (.slice (some ⟨g, o, none⟩) ks.length c) (.int .i64 k) (.string ⟨s.toArray⟩) (.int .i64 m) (.slice (some ⟨g', o', none⟩) ks'.length c') WW ∧ WW.cell? ⟨w.heap.size, 3, none⟩ = some (.slice (some ⟨g, o, none⟩) ks.length c) ∧ WW.cell? ⟨w.heap.size + 1, 3, none⟩ = some (.slice (some ⟨g', o', none⟩) ks'.length c') ∧ WW.cell? ⟨g, o + j * 4, none⟩ = some (.int .i64 ak) ∧ WW.cell? ⟨g, o + j * 4 + 1, none⟩ = some (.string ⟨av.toArray⟩) ∧ WW.cell? ⟨g, o + j * 4 + 2, none⟩ = some (.int .i64 am) ∧ WW.cell? ⟨g, o + j * 4 + 3, none⟩ = some (.slice a0 aks.length q0) ∧ WW.cell? ⟨g', o' + j * 4, none⟩ = some (.int .i64 bk) ∧ WW.cell? ⟨g', o' + j * 4 + 1, none⟩ = some (.string ⟨bt.toArray⟩) ∧ WW.cell? ⟨g', o' + j * 4 + 2, none⟩ = some (.int .i64 bm) ∧ WW.cell? ⟨g', o' + j * 4 + 3, none⟩ = some (.slice a0' bks.length q0')) (first | assumption | exact ⟨hd, x3, x7, z0, z1, z2, z3, v0, v1, v2, v3⟩) (first | (go_simp; go_at_call 12; refine (HK.out _ (by assumption)).mono ?_; rintro e w2 ⟨rfl, hs2⟩))
                all_goals
                  have hX2 := hs2.1
                  cases hp : sameT (.mk ak av am aks) (.mk bk bt bm bks) with
                  | false =>
                    have HX : Hid (sameT (.mk k s m ks) (.mk k s m ks') = false) := HX0.out.trans (sameL_get _ _ j _ _ HAA.out HBB.out hp)
                    clear hp
                    go_wp2
                    go_ret
                    exact OutB.of HX ⟨rfl, hX2.out⟩
                  | true =>
                    have HX : Hid (∀ (i : Nat) a b, i < j + 1 → ks[i]? = some a → ks'[i]? = some b → sameT a b = true) := by
                      refine Lib.hid ?_
                      intro i a b hi h1 h2
                      rcases Nat.lt_or_ge i j with h3 | h3
                      · exact HA.out i a b h3 h1 h2
                      · have : i = j := by omega
                        subst this
                        rw [HAA.out] at h1; rw [HBB.out] at h2
                        cases h1; cases h2; exact hp
                    clear hp
                    go_wp2
                    go_roundw
                    case rel => exact ⟨j + 1, by omega, by go_num, hX2, HX⟩
                    case measure => simp [intOf]; omega
              · have HX : Hid (sameT (.mk k s m ks) (.mk k s m ks') = true) := HX0.out.trans (sameL_all _ _ fun i a b h1 h2 => HA.out i a b (by
                  have : i < ks.length := by
                    rcases Nat.lt_or_ge i ks.length with h | h
                    · exact h
                    · rw [List.getElem?_eq_none h] at h1; cases h1
                  omega) h1 h2)
                go_wp2
                go_ret
                exact OutB.of HX ⟨rfl, hX.out⟩
          · have HX : Hid (sameT (.mk k s m ks) (.mk k' s' m' ks') = false) := HR.out.trans (by simp [e4])
            subst e1 e2 e3
            have f4 : ((ks.length : Int) != (ks'.length : Int)) = true := by simp; omega
            clear e4
            go_enter Tryz.func12, Tryz.ntmps12
            go_wp2
            go_ret
            exact OutB.of HX ⟨rfl, hX0.out⟩
        · have HX : Hid (sameT (.mk k s m ks) (.mk k' s' m' ks') = false) := HR.out.trans (by simp [e3])
          subst e1 e2
          have f3 : (m != m') = true := by simpa using e3
          clear e3
          go_enter Tryz.func12, Tryz.ntmps12
          go_wp2
          go_ret
          exact OutB.of HX ⟨rfl, hX0.out⟩
      · have HX : Hid (sameT (.mk k s m ks) (.mk k' s' m' ks') = false) := HR.out.trans (by simp [e2])
        subst e1
        have f2 : (s != s') = true := by simpa using e2
        go_enter Tryz.func12, Tryz.ntmps12
        go_wp2
        go_ret
        exact OutB.of HX ⟨rfl, hX0.out⟩
    · have HX : Hid (sameT (.mk k s m ks) (.mk k' s' m' ks') = false) := HR.out.trans (by simp [e1])
      have f1 : (k != k') = true := by simpa using e1
      clear e1
      go_enter Tryz.func12, Tryz.ntmps12
      go_wp2
      go_ret
      exact OutB.of HX ⟨rfl, hX0.out⟩

end Go.Proofs.YtbejkphekfbfnaaGreat
