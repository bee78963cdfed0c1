/- Heaps in a list, as plain mathematics. -/
import Derived.Test.YtmkeahfdbmfajaaChecked
namespace Go.Proofs.Ytmkeahfdbmfajaa
/-- The key at a place. -/
def kv (key : Nat → Int) (l : List Nat) (i : Nat) : Int := key (l.getD i 0)
/-- Of the first n each is at least what stands above it. -/
def Hp (key : Nat → Int) (l : List Nat) (n : Nat) : Prop := ∀ i, 0 < i → i < n → kv key l ((i - 1) / 2) ≤ kv key l i
/-- A heap but for the place j, which may be too small. -/
def UpI (key : Nat → Int) (l : List Nat) (n j : Nat) : Prop :=
  j < n ∧ (∀ i, 0 < i → i < n → i ≠ j → kv key l ((i - 1) / 2) ≤ kv key l i) ∧ ∀ i, 0 < i → i < n → (i - 1) / 2 = j → 0 < j → kv key l ((j - 1) / 2) ≤ kv key l i
/-- A heap but for the place c, which may be too great. -/
def DnI (key : Nat → Int) (l : List Nat) (n c : Nat) : Prop :=
  (∀ i, 0 < i → i < n → (i - 1) / 2 ≠ c → kv key l ((i - 1) / 2) ≤ kv key l i) ∧ ∀ i, 0 < i → i < n → (i - 1) / 2 = c → 0 < c → kv key l ((c - 1) / 2) ≤ kv key l i
/-- Two places exchanged. -/
def sw (l : List Nat) (i j : Nat) : List Nat := (l.set i (l.getD j 0)).set j (l.getD i 0)
theorem sw_len (l : List Nat) (i j : Nat) : (sw l i j).length = l.length := by simp [sw]
theorem getD_set (l : List Nat) (i k x : Nat) : (l.set i x).getD k 0 = if i = k ∧ k < l.length then x else l.getD k 0 := by
  simp only [List.getD_eq_getElem?_getD, List.getElem?_set]
  by_cases h : i = k
  · subst h
    by_cases h2 : i < l.length
    · simp [h2]
    · simp [h2]
  · simp [h]
theorem sw_get {l : List Nat} {i j : Nat} (hi : i < l.length) (hj : j < l.length) (k : Nat) : (sw l i j).getD k 0 = if k = j then l.getD i 0 else if k = i then l.getD j 0 else l.getD k 0 := by
  unfold sw
  rw [getD_set, getD_set, List.length_set]
  by_cases h1 : k = j
  · subst h1; simp [hj]
  · by_cases h2 : k = i
    · subst h2
      have h3 : ¬ j = k := fun h => h1 h.symm
      simp [hi, h1, h3]
    · have h3 : ¬ (j = k ∧ k < l.length) := fun h => h1 h.1.symm
      have h4 : ¬ (i = k ∧ k < l.length) := fun h => h2 h.1.symm
      simp [h1, h2, h3, h4]
theorem sw_kv {key : Nat → Int} {l : List Nat} {i j : Nat} (hi : i < l.length) (hj : j < l.length) (k : Nat) : kv key (sw l i j) k = if k = j then kv key l i else if k = i then kv key l j else kv key l k := by
  unfold kv
  rw [sw_get hi hj]
  split
  · rfl
  · split <;> rfl
theorem sw_perm {l : List Nat} {i j : Nat} (hi : i < l.length) (hj : j < l.length) : (sw l i j).Perm l := by
  have h := Array.swap_perm (xs := l.toArray) (i := i) (j := j) (by simpa using hi) (by simpa using hj)
  have e : (l.toArray.swap i j (by simpa using hi) (by simpa using hj)).toList = sw l i j := by
    rw [Array.toList_swap]
    simp [sw, List.getD_eq_getElem?_getD, hi, hj]
  rw [Array.perm_iff_toList_perm, e] at h
  simpa using h
section
variable {key : Nat → Int} {l : List Nat} {n : Nat}
theorem UpI.done_root (h : UpI key l n 0) : Hp key l n := fun i h0 hn => h.2.1 i h0 hn (by omega)
theorem UpI.done {j : Nat} (h : UpI key l n j) (hk : kv key l ((j - 1) / 2) ≤ kv key l j) : Hp key l n := fun i h0 hn => by
  by_cases e : i = j
  · subst e; exact hk
  · exact h.2.1 i h0 hn e
theorem UpI.step {j : Nat} (h : UpI key l n j) (hn : n ≤ l.length) (hj : 0 < j) (hk : kv key l j < kv key l ((j - 1) / 2)) : UpI key (sw l ((j - 1) / 2) j) n ((j - 1) / 2) := by
  obtain ⟨h1, h2, h3⟩ := h
  have hp : (j - 1) / 2 < j := by omega
  have hl1 : (j - 1) / 2 < l.length := by omega
  have hl2 : j < l.length := by omega
  refine ⟨by omega, fun i h0 hin hne => ?_, fun i h0 hin he hp0 => ?_⟩
  · rw [sw_kv hl1 hl2, sw_kv hl1 hl2]
    by_cases ei : i = j
    · subst ei
      rw [if_neg (by omega), if_pos rfl, if_pos rfl]; omega
    · rw [if_neg ei, if_neg hne]
      by_cases ep : (i - 1) / 2 = j
      · rw [if_pos ep]; exact h3 i h0 hin ep hj
      · rw [if_neg ep]
        by_cases eq : (i - 1) / 2 = (j - 1) / 2
        · rw [if_pos eq]
          have := h2 i h0 hin ei; rw [eq] at this; omega
        · rw [if_neg eq]; exact h2 i h0 hin ei
  · have hpp := h2 ((j - 1) / 2) hp0 (by omega) (by omega)
    rw [sw_kv hl1 hl2, sw_kv hl1 hl2, if_neg (by omega), if_neg (by omega)]
    by_cases ei : i = j
    · subst ei; rw [if_pos rfl]; exact hpp
    · rw [if_neg ei, if_neg (by omega)]
      have := h2 i h0 hin ei; rw [he] at this; omega
theorem UpI.push (x : Nat) (h : Hp key l l.length) : UpI key (l ++ [x]) (l.length + 1) l.length := by
  have hg : ∀ i, i < l.length → (l ++ [x]).getD i 0 = l.getD i 0 := fun i hi => by simp [List.getD_eq_getElem?_getD, List.getElem?_append_left hi]
  refine ⟨by omega, fun i h0 hn hne => ?_, fun i h0 hn he _ => ?_⟩
  · unfold kv
    rw [hg i (by omega), hg _ (by omega)]
    exact h i h0 (by omega)
  · omega
theorem DnI.done_leaf {c : Nat} (h : DnI key l n c) (hc : n ≤ 2 * c + 1) : Hp key l n := fun i h0 hn => h.1 i h0 hn (by omega)
theorem DnI.done {c : Nat} (h : DnI key l n c) (h1 : 2 * c + 1 < n → kv key l c ≤ kv key l (2 * c + 1)) (h2 : 2 * c + 2 < n → kv key l c ≤ kv key l (2 * c + 2)) : Hp key l n := fun i h0 hn => by
  by_cases e : (i - 1) / 2 = c
  · rw [e]
    rcases (show i = 2 * c + 1 ∨ i = 2 * c + 2 by omega) with rfl | rfl
    · exact h1 hn
    · exact h2 hn
  · exact h.1 i h0 hn e
theorem DnI.step {c j : Nat} (h : DnI key l n c) (hn : n ≤ l.length) (hj : j = 2 * c + 1 ∨ j = 2 * c + 2) (hjn : j < n) (hk : kv key l j < kv key l c)
    (h1 : 2 * c + 1 < n → kv key l j ≤ kv key l (2 * c + 1)) (h2 : 2 * c + 2 < n → kv key l j ≤ kv key l (2 * c + 2)) : DnI key (sw l c j) n j := by
  have hl1 : c < l.length := by omega
  have hl2 : j < l.length := by omega
  obtain ⟨g1, g2⟩ := h
  have hjp : (j - 1) / 2 = c := by omega
  refine ⟨fun i h0 hin hne => ?_, fun i h0 hin he hj0 => ?_⟩
  · rw [sw_kv hl1 hl2, sw_kv hl1 hl2, if_neg hne]
    by_cases ei : i = j
    · subst ei; rw [if_pos hjp, if_pos rfl]; omega
    · rw [if_neg ei]
      by_cases ep : (i - 1) / 2 = c
      · rw [if_pos ep, if_neg (by omega)]
        rcases (show i = 2 * c + 1 ∨ i = 2 * c + 2 by omega) with e | e
        · rw [e]; exact h1 (by omega)
        · rw [e]; exact h2 (by omega)
      · rw [if_neg ep]
        by_cases ec : i = c
        · rw [if_pos ec]
          have := g2 j (by omega) hjn hjp (by omega)
          rw [ec]; exact this
        · rw [if_neg ec]; exact g1 i h0 hin ep
  · rw [sw_kv hl1 hl2, sw_kv hl1 hl2, if_neg (by omega), if_pos hjp, if_neg (by omega), if_neg (by omega)]
    have := g1 i h0 hin (by omega)
    rw [he] at this; exact this
theorem Hp.root (h : Hp key l n) : ∀ i, i < n → kv key l 0 ≤ kv key l i := by
  intro i
  induction i using Nat.strongRecOn with
  | _ i ih =>
    intro hi
    by_cases e : i = 0
    · subst e; exact Int.le_refl _
    · exact Int.le_trans (ih ((i - 1) / 2) (by omega) (by omega)) (h i (by omega) hi)
theorem Hp.down (h : Hp key l (n + 1)) (hl : l.length = n + 1) : DnI key (sw l 0 n) n 0 := by
  refine ⟨fun i h0 hin hne => ?_, fun i h0 hin he hc => by omega⟩
  rw [sw_kv (by omega) (by omega), sw_kv (by omega) (by omega), if_neg (by omega), if_neg hne, if_neg (by omega), if_neg (by omega)]
  exact h i h0 (by omega)
/-- What is left and what was taken out. -/
theorem pop_perm {l2 : List Nat} (hp : l2.Perm l) (hl : l.length = n + 1) (he : l2.getD n 0 = l.getD 0 0) : l.Perm (l.getD 0 0 :: l2.take n) := by
  have hl2 : l2.length = n + 1 := by rw [hp.length_eq, hl]
  have e : l2 = l2.take n ++ [l.getD 0 0] := by
    rw [← he]
    have h1 := List.take_append_drop n l2
    have h2 : l2.drop n = [l2.getD n 0] := by
      rw [List.drop_eq_getElem_cons (by omega), List.drop_eq_nil_of_le (by omega)]
      simp [List.getD_eq_getElem?_getD, show n < l2.length by omega]
    rw [h2] at h1; exact h1.symm
  have e2 : (l2.take n ++ [l.getD 0 0]).Perm (l.getD 0 0 :: l2.take n) := List.perm_append_comm
  rw [← e] at e2
  exact hp.symm.trans e2
theorem Hp.take {m : Nat} (h : Hp key l n) (hm : n ≤ m) : Hp key (l.take m) n := fun i h0 hn => by
  unfold kv
  simp only [List.getD_eq_getElem?_getD, List.getElem?_take, if_pos (show i < m by omega), if_pos (show (i - 1) / 2 < m by omega)]
  exact h i h0 hn
theorem Hp.congr {key' : Nat → Int} (h : Hp key l l.length) (hk : ∀ x ∈ l, key' x = key x) : Hp key' l l.length := fun i h0 hn => by
  have hm : ∀ i, i < l.length → l.getD i 0 ∈ l := fun i hi => by simp [List.getD_eq_getElem?_getD, hi]
  unfold kv
  rw [hk _ (hm i hn), hk _ (hm _ (by omega))]
  exact h i h0 hn
end
end Go.Proofs.Ytmkeahfdbmfajaa
