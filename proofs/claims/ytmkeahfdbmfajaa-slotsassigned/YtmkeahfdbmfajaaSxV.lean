/- The document's count and the program's come to the same, as plain mathematics. -/
import Derived.Test.YtmkeahfdbmfajaaSxU
namespace Go.Proofs.Ytmkeahfdbmfajaa
section
variable {l : List Rg}
/-- As the document counts: of how many ranges the moment is at which one begins. -/
def rn (l : List Rg) (i : Nat) : Nat := (List.range l.length).countP fun k => decide (kf l k ≤ kf l i) && decide (kf l i < kt l k)
/-- The greatest of these, of the first ranges. -/
def rmo (l : List Rg) : Nat → Nat
  | 0 => 0
  | k + 1 => max (rmo l k) (rn l k)
def cF (l : List Rg) (t : Int) : Nat := (List.range l.length).countP fun a => decide (kf l a ≤ t)
theorem rn_eq (hS : ∀ a, a < l.length → kf l a < kt l a) (i : Nat) : rn l i + cE l (kf l i) = cF l (kf l i) := by
  unfold rn cE cF
  have : ∀ o : List Nat, (∀ a ∈ o, kf l a < kt l a) → (o.countP fun k => decide (kf l k ≤ kf l i) && decide (kf l i < kt l k)) + (o.countP fun a => decide (kt l a ≤ kf l i)) = o.countP fun a => decide (kf l a ≤ kf l i) := by
    intro o
    induction o with
    | nil => intro _; rfl
    | cons a r ih =>
      intro h
      have h1 := h a (List.mem_cons_self ..)
      have h2 := ih (fun b hb => h b (List.mem_cons_of_mem _ hb))
      simp only [List.countP_cons]
      by_cases e1 : kf l a ≤ kf l i
      · by_cases e2 : kf l i < kt l a
        · have e3 : ¬ kt l a ≤ kf l i := by omega
          simp [e1, e2, e3]; omega
        · have e3 : kt l a ≤ kf l i := by omega
          simp [e1, e2, e3]; omega
      · have e2 : ¬ kt l a ≤ kf l i := by omega
        simp [e1, e2]; omega
  exact this _ (fun a ha => hS a (List.mem_range.mp ha))
theorem ord_le2 {i k a b : Nat} (h1 : (ordP l)[i]? = some a) (h2 : (ordP l)[k]? = some b) (h : i ≤ k) : kf l a ≤ kf l b := by
  by_cases e : i = k
  · subst e; rw [h1] at h2; injection h2 with h2; rw [h2]; exact Int.le_refl _
  · obtain ⟨x1, e1⟩ := List.getElem?_eq_some_iff.mp h1
    obtain ⟨x2, e2⟩ := List.getElem?_eq_some_iff.mp h2
    have hp := List.pairwise_iff_getElem.mp (ordP_sorted l) i k x1 x2 (by omega)
    rw [e1, e2] at hp
    unfold Le2 at hp
    omega
theorem cF_ord (t : Int) : cF l t = (ordP l).countP fun a => decide (kf l a ≤ t) := by unfold cF; rw [← (ordP_perm l).countP_eq]
/-- In a rising row just the first ones are at most t. -/
theorem rise_count {α : Type} {p : α → Bool} : ∀ {o : List α}, (∀ (i k : Nat) (a b : α), i ≤ k → o[i]? = some a → o[k]? = some b → p b = true → p a = true) → ∀ (i : Nat) (a : α), o[i]? = some a → (p a = true ↔ i < o.countP p)
  | [], _, i, a, h => by simp at h
  | x :: r, hm, i, a, h => by
    have hr := rise_count (p := p) (o := r) (fun i k a b hik h1 h2 h3 => hm (i + 1) (k + 1) a b (by omega) (by simpa using h1) (by simpa using h2) h3)
    rw [List.countP_cons]
    by_cases hx : p x = true
    · rw [if_pos hx]
      match i, h with
      | 0, h =>
        simp at h; subst h
        exact ⟨fun _ => by omega, fun _ => hx⟩
      | i + 1, h =>
        rw [hr i a (by simpa using h)]
        omega
    · rw [if_neg hx]
      have h0 : r.countP p = 0 := by
        rw [List.countP_eq_zero]
        intro b hb hpb
        obtain ⟨k, hk⟩ := List.getElem?_of_mem hb
        exact hx (hm 0 (k + 1) x b (by omega) rfl (by simpa using hk) hpb)
      rw [h0]
      match i, h with
      | 0, h =>
        simp at h; subst h
        exact ⟨fun h => absurd h hx, fun h => absurd h (by omega)⟩
      | i + 1, h =>
        have := hr i a (by simpa using h)
        rw [h0] at this
        exact ⟨fun h => absurd (this.mp h) (by omega), fun h => absurd h (by omega)⟩
theorem cF_rise {t : Int} {i a : Nat} (h : (ordP l)[i]? = some a) : (kf l a ≤ t ↔ i < cF l t) := by
  rw [cF_ord]
  have := rise_count (p := fun a => decide (kf l a ≤ t)) (o := ordP l) (fun i k a b hik h1 h2 h3 => by
    have := ord_le2 h1 h2 hik
    simp at h3 ⊢
    omega) i a h
  simpa using this
theorem mo_ge {k j : Nat} (h : j < k) : j + 1 - cE l (kf l ((ordP l).getD j 0)) ≤ mo l k := by
  induction k with
  | zero => omega
  | succ k ih =>
    simp only [mo]
    by_cases e : j = k
    · subst e; omega
    · have := ih (by omega); omega
theorem mo_le {k m : Nat} (h : ∀ j, j < k → j + 1 - cE l (kf l ((ordP l).getD j 0)) ≤ m) : mo l k ≤ m := by
  induction k with
  | zero => simp [mo]
  | succ k ih =>
    simp only [mo]
    have := ih (fun j hj => h j (by omega))
    have := h k (by omega)
    omega
theorem rmo_ge {k j : Nat} (h : j < k) : rn l j ≤ rmo l k := by
  induction k with
  | zero => omega
  | succ k ih =>
    simp only [rmo]
    by_cases e : j = k
    · subst e; omega
    · have := ih (by omega); omega
theorem rmo_le {k m : Nat} (h : ∀ j, j < k → rn l j ≤ m) : rmo l k ≤ m := by
  induction k with
  | zero => simp [rmo]
  | succ k ih =>
    simp only [rmo]
    have := ih (fun j hj => h j (by omega))
    have := h k (by omega)
    omega
/-- Both counts come to the same. -/
theorem rmo_eq (hS : ∀ a, a < l.length → kf l a < kt l a) : rmo l l.length = mo l l.length := by
  refine Nat.le_antisymm (rmo_le fun j hj => ?_) (mo_le fun j hj => ?_)
  · have hr := rn_eq hS j
    have hm : j ∈ ordP l := (ordP_perm l).mem_iff.mpr (List.mem_range.mpr hj)
    obtain ⟨q, hq⟩ := List.getElem?_of_mem hm
    have h1 := (cF_rise (t := kf l j) hq).mp (Int.le_refl _)
    have h2 : cF l (kf l j) ≤ l.length := by
      have := List.countP_le_length (p := fun a => decide (kf l a ≤ kf l j)) (l := List.range l.length)
      rw [List.length_range] at this
      exact this
    obtain ⟨b, hb⟩ : ∃ b, (ordP l)[cF l (kf l j) - 1]? = some b := ⟨(ordP l)[cF l (kf l j) - 1]'(by rw [ordP_len]; omega), by simp⟩
    have h3 := (cF_rise (t := kf l j) hb).mpr (by omega)
    have h4 := ord_le2 hq hb (by omega)
    have h5 : kf l b = kf l j := by omega
    have h6 := mo_ge (l := l) (k := l.length) (j := cF l (kf l j) - 1) (by omega)
    rw [show (ordP l).getD (cF l (kf l j) - 1) 0 = b by simp [List.getD_eq_getElem?_getD, hb], h5] at h6
    omega
  · obtain ⟨a, ha⟩ : ∃ a, (ordP l)[j]? = some a := ⟨(ordP l)[j]'(by rw [ordP_len]; omega), by simp⟩
    have hal := ordP_lt (List.mem_of_getElem? ha)
    rw [show (ordP l).getD j 0 = a by simp [List.getD_eq_getElem?_getD, ha]]
    have hr := rn_eq hS a
    have h1 := (cF_rise (t := kf l a) ha).mp (Int.le_refl _)
    have h2 := rmo_ge (l := l) hal
    omega
/-- Where ranges begin, rising, and where they end, rising. -/
def bsP (l : List Rg) : List Int := (l.map Rg.fr).mergeSort fun x y => decide (x ≤ y)
def esP (l : List Rg) : List Int := (l.map Rg.en).mergeSort fun x y => decide (x ≤ y)
theorem srt (o : List Int) : (o.mergeSort fun x y => decide (x ≤ y)).Pairwise (· ≤ ·) := by
  have := List.pairwise_mergeSort (le := fun (x y : Int) => decide (x ≤ y)) (fun a b c h1 h2 => by simp at *; omega) (fun a b => by simp; omega) o
  exact this.imp (by simp)
theorem map_kf (l : List Rg) : (List.range l.length).map (kf l) = l.map Rg.fr := by
  apply List.ext_getElem
  · simp
  · intro i h1 h2
    simp only [List.length_map] at h2
    simp [kf, List.getD_eq_getElem?_getD, h2]
theorem map_kt (l : List Rg) : (List.range l.length).map (kt l) = l.map Rg.en := by
  apply List.ext_getElem
  · simp
  · intro i h1 h2
    simp only [List.length_map] at h2
    simp [kt, List.getD_eq_getElem?_getD, h2]
theorem bsP_eq (l : List Rg) : bsP l = (ordP l).map (kf l) := by
  refine List.Perm.eq_of_pairwise (le := (· ≤ ·)) (fun a b _ _ h1 h2 => by omega) (srt _) ?_ ?_
  · rw [List.pairwise_map]
    refine (ordP_sorted l).imp fun {a b} h => ?_
    unfold Le2 at h
    omega
  · refine (List.mergeSort_perm _ _).trans ?_
    rw [← map_kf]
    exact ((ordP_perm l).map (kf l)).symm
theorem esP_len (l : List Rg) : (esP l).length = l.length := by unfold esP; simp
theorem bsP_len (l : List Rg) : (bsP l).length = l.length := by unfold bsP; simp
theorem esP_rise {t : Int} {i : Nat} {x : Int} (h : (esP l)[i]? = some x) : (x ≤ t ↔ i < cE l t) := by
  have hc : cE l t = (esP l).countP fun x => decide (x ≤ t) := by
    have e : (esP l).countP (fun x => decide (x ≤ t)) = (l.map Rg.en).countP fun x => decide (x ≤ t) := (List.mergeSort_perm _ _).countP_eq _
    rw [e, ← map_kt, List.countP_map]
    rfl
  have := rise_count (p := fun x => decide (x ≤ t)) (o := esP l) (fun i k a b hik h1 h2 h3 => by
    have : a ≤ b := by
      by_cases e : i = k
      · subst e; rw [h1] at h2; injection h2 with h2; omega
      · obtain ⟨x1, e1⟩ := List.getElem?_eq_some_iff.mp h1
        obtain ⟨x2, e2⟩ := List.getElem?_eq_some_iff.mp h2
        have hp := List.pairwise_iff_getElem.mp (srt (l.map Rg.en)) i k x1 x2 (by omega)
        rw [← e1, ← e2]
        exact hp
    simp at h3 ⊢
    omega) i x h
  rw [hc]
  simpa using this
theorem bsP_get {i a : Nat} (h : (ordP l)[i]? = some a) : (bsP l)[i]? = some (kf l a) := by rw [bsP_eq]; simp [h]
/-- Fewer have ended than have begun. -/
theorem cE_lt (hS : ∀ a, a < l.length → kf l a < kt l a) {k a : Nat} (ha : (ordP l)[k]? = some a) : cE l (kf l a) ≤ k := by
  rw [← cE_take hS ha]
  refine Nat.le_trans (List.countP_le_length) ?_
  rw [List.length_take]
  omega
end
end Go.Proofs.Ytmkeahfdbmfajaa
