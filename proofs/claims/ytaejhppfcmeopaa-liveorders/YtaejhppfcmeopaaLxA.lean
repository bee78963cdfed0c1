/- slices.Reverse. -/
import Derived.Test.YtaejhppfcmeopaaLwZ
namespace Go.Proofs.Ytaejhppfcmeopaa
open Go.RowKit
/-- Numbers that lie in a block: what they are, and what else is as it was. -/
structure Rv (w0 w : World) (g m cap : Nat) (f : Nat → Int) : Prop where
  c : ∃ cur, w.heap[g]? = some (.cells cur 3 (0, 0)) ∧ cur.size = cap ∧ ∀ p, p < m → cur[p]? = some (.int .i64 (f p))
  k : Kp (fun j => j = g) w0 w
def rvF (l : List Int) (m i p : Nat) : Int := if p < i ∨ m ≤ p + i then l.getD (m - 1 - p) 0 else l.getD p 0
theorem rvF_zero {l : List Int} {m p : Nat} (h : p < m) : rvF l m 0 p = l.getD p 0 := by unfold rvF; rw [if_neg (by omega)]
theorem rvF_step {l : List Int} {m i j p : Nat} (hj : i + j + 1 = m) (hij : i < j) (hp : p < m) : upf (upf (rvF l m i) i (rvF l m i j)) j (rvF l m i i) p = rvF l m (i + 1) p := by
  by_cases e1 : p = j
  · subst e1
    rw [upf_same]; unfold rvF
    rw [if_neg (by omega), if_pos (by omega), show m - 1 - p = i by omega]
  · rw [upf_other _ _ e1]
    by_cases e2 : p = i
    · subst e2
      rw [upf_same]; unfold rvF
      rw [if_neg (by omega), if_pos (by omega), show m - 1 - p = j by omega]
    · rw [upf_other _ _ e2]; unfold rvF
      by_cases e3 : p < i ∨ m ≤ p + i
      · rw [if_pos e3, if_pos (by omega)]
      · rw [if_neg e3, if_neg (by omega)]
theorem rvF_end {l : List Int} {m i p : Nat} (h : m ≤ 2 * i + 1) (hp : p < m) : rvF l m i p = l.getD (m - 1 - p) 0 := by
  unfold rvF
  by_cases e3 : p < i ∨ m ≤ p + i
  · rw [if_pos e3]
  · rw [if_neg e3, show m - 1 - p = p by omega]
section
variable {w0 w : World} {g m cap : Nat} {f f' : Nat → Int}
theorem Rv.cell (V : Rv w0 w g m cap f) {p : Nat} (hp : p < m) : w.cell? ⟨g, p, none⟩ = some (.int .i64 (f p)) ∧ w.frozen? ⟨g, p, none⟩ = false ∧ g < w.heap.size := by
  obtain ⟨cur, h1, _, h2⟩ := V.c
  exact ⟨cell_of h1 (h2 p hp), fz_of _ h1, lt_of_block h1⟩
theorem Rv.set (V : Rv w0 w g m cap f) (hmc : m ≤ cap) (p : Nat) (x : Int) : Rv w0 (w.setCell ⟨g, p, none⟩ (.int .i64 x)) g m cap (upf f p x) := by
  obtain ⟨cur, h1, h2, h3⟩ := V.c
  refine ⟨⟨_, heap_setCell_same _ _ _ _ h1, by simpa using h2, fun q hq => ?_⟩, V.k.trans (Kp.setCell _ _ _)⟩
  rw [Array.getElem?_setIfInBounds]
  by_cases e : p = q
  · subst e; rw [if_pos rfl, if_pos (by omega), upf_same]
  · rw [if_neg e, upf_other _ _ (fun h => e h.symm)]; exact h3 q hq
theorem Rv.drew (V : Rv w0 w g m cap f) : Rv w0 w.drew g m cap f := ⟨V.c, V.k.drew⟩
theorem Rv.congr (V : Rv w0 w g m cap f) (h : ∀ p, p < m → f p = f' p) : Rv w0 w g m cap f' := by
  obtain ⟨cur, h1, h2, h3⟩ := V.c
  exact ⟨⟨cur, h1, h2, fun p hp => by rw [h3 p hp, h p hp]⟩, V.k⟩
end
section
variable {w : World}
set_option maxHeartbeats 2000000 in
theorem reverse_any {B g m cap : Nat} {l : List Int} (h : w.ownsRow B 3 1 (.slice (some ⟨g, 0, none⟩) m cap) m (ints l)) (hm : m ≤ 100000) : Calls Try.prog 43 #[.slice (some ⟨g, 0, none⟩) m cap] w fun e w' => (∃ v, e = .returned v) ∧ w'.ownsRow B 3 1 (.slice (some ⟨g, 0, none⟩) m cap) m (ints l.reverse) ∧ Kp (fun j => j = g) w w' := by
  obtain ⟨h1, h2⟩ := h
  rcases h2 with ⟨h2, _⟩ | ⟨g1, cap1, cur, e1, hB, hc, hmc, hcap, hsz, htk⟩
  · cases h2
  · cases e1
    have hlm : l.length = m := by simpa [ints] using h1
    have V0 : Rv w w g m cap (rvF l m 0) := ⟨⟨cur, hc, by omega, fun p hp => by
      rw [rvF_zero hp]
      have : (cur.toList.take (m * 1))[p]? = (ints l)[p]? := by rw [htk]
      rw [List.getElem?_take, if_pos (by omega)] at this
      rw [← Array.getElem?_toList, this]
      simp [ints, List.getD, List.getElem?_eq_getElem (show p < l.length by omega)]⟩, Kp.refl _ _⟩
    have HE : Hid (∀ W f, Rv w W g m cap f → (∀ p, p < m → f p = l.getD (m - 1 - p) 0) → W.ownsRow B 3 1 (.slice (some ⟨g, 0, none⟩) m cap) m (ints l.reverse)) := hide (fun W f V hf => by
      obtain ⟨cur', d1, d2, d3⟩ := V.c
      refine ⟨by simp [ints, hlm], .inr ⟨g, cap, cur', rfl, hB, d1, hmc, hcap, by omega, ?_⟩⟩
      refine List.ext_getElem? fun p => ?_
      by_cases hp : p < m
      · rw [List.getElem?_take, if_pos (by omega), Array.getElem?_toList, d3 p hp, hf p hp]
        have e : (ints l.reverse)[p]? = some (.int .i64 (l[m - 1 - p]'(by omega))) := by
          unfold ints
          rw [List.getElem?_map, List.getElem?_reverse (by omega), show l.length - 1 - p = m - 1 - p by omega, List.getElem?_eq_getElem (by omega)]
          rfl
        rw [e]
        simp [List.getD, List.getElem?_eq_getElem (show m - 1 - p < l.length by omega)]
      · rw [List.getElem?_eq_none (by simp; omega), List.getElem?_eq_none (by simp [ints, hlm]; omega)])
    have HV0 := hide V0
    have bm : (m : Int) ≤ 100000 := by omega
    have HMC := hide hmc
    clear V0 h1 hc hB hmc hcap hsz htk hlm
    go_enter Try.func43, Try.ntmps43
    go_wp2
    go_loopg [2, 3] (m + 1) (fun G v2 v3 wr => ∃ i : Nat, v2 = .int .i64 i ∧ v3 = .int .i64 ((m : Int) - 1 - i) ∧ 2 * i ≤ m ∧ m - 2 * i ≤ G ∧ Hid (Rv w wr g m cap (rvF l m i)))
    case atStart => exact ⟨0, rfl, by go_num, by omega, by omega, HV0⟩
    case round =>
      obtain ⟨i, rfl, rfl, hi, hkk, HV⟩ := hrel
      obtain ⟨W1, rfl⟩ : ∃ X, X = wr := ⟨wr, rfl⟩
      clear HV0
      by_cases hij : 2 * i + 1 < m
      · obtain ⟨j, hj⟩ : ∃ j, i + j + 1 = m := ⟨m - 1 - i, by omega⟩
        have ei : (m : Int) - 1 - i = (j : Int) := by omega
        rw [ei]
        have bij : (i : Int) < (j : Int) := by omega
        have bi : (i : Int) < (m : Int) := by omega
        have bj : (j : Int) < (m : Int) := by omega
        obtain ⟨ci, fi, lg⟩ := HV.out.cell (p := i) (by omega)
        obtain ⟨cj, fj, _⟩ := HV.out.cell (p := j) (by omega)
        have V2 := ((HV.out.set HMC.out i (rvF l m i j)).set HMC.out j (rvF l m i i)).congr (fun p hp => rvF_step hj (by omega) hp)
        obtain ⟨c2, f2, _⟩ := (HV.out.set HMC.out i (rvF l m i j)).cell (p := j) (by omega)
        have HV2 := hide V2.drew
        clear V2
        generalize rvF l m i i = xi at *
        generalize rvF l m i j = xj at *
        go_wp2
        go_region
        go_wp2_with fail
        go_roundg (m - 2 * (i + 1))
        case measure => omega
        case rel => exact ⟨i + 1, by go_num, by congr 1; omega, by omega, Nat.le_refl _, HV2⟩
      · have hf : decide ((i : Int) < (m : Int) - 1 - i) = false := by simp; omega
        go_wp2
        go_returns
        exact ⟨⟨_, rfl⟩, HE.out _ _ HV.out (fun p hp => rvF_end (by omega) hp), HV.out.k⟩
end
end Go.Proofs.Ytaejhppfcmeopaa
