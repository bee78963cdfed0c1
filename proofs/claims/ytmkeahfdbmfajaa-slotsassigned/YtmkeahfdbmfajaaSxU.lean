/- What holds of slots and their count, as plain mathematics. -/
import Derived.Test.YtmkeahfdbmfajaaSxO
namespace Go.Proofs.Ytmkeahfdbmfajaa
section
variable {l : List Rg}
theorem lst_hit {un : List Int} {t : Int} (h : lst un t < un.length) : un.getD (lst un t) 0 ≤ t := by
  have := List.findIdx_getElem (p := fun x => decide (x ≤ t)) (xs := un) (w := h)
  rw [decide_eq_true_eq] at this
  rw [List.getD_eq_getElem?_getD, List.getElem?_eq_getElem h, Option.getD_some]
  exact this
theorem lst_out {un : List Int} {t : Int} (h : lst un t = un.length) : ∀ x ∈ un, t < x := by
  intro x hx
  have := List.findIdx_eq_length.mp h x hx
  simpa using this
theorem gv_get {un : List Int} {s i : Nat} {e : Int} (hs : s ≤ un.length) (hi : i < un.length ∨ i = s) : (gv un s e).getD i 0 = if i = s then e else un.getD i 0 := by
  unfold gv
  by_cases h : s < un.length
  · rw [if_pos h]
    by_cases e2 : i = s
    · subst e2; simp [List.getD_eq_getElem?_getD, h]
    · rw [if_neg e2, List.getD_eq_getElem?_getD, List.getElem?_set_ne (fun h => e2 h.symm), ← List.getD_eq_getElem?_getD]
  · rw [if_neg h]
    have : s = un.length := by omega
    subst this
    by_cases e2 : i = un.length
    · subst e2; simp [List.getD_eq_getElem?_getD]
    · have hi' : i < un.length := by omega
      rw [if_neg e2, List.getD_eq_getElem?_getD, List.getElem?_append_left hi', ← List.getD_eq_getElem?_getD]
theorem gv_count {un : List Int} {t t' e : Int} (h : t' ≤ t) : (gv un (lst un t') e).countP (fun x => decide (t < x)) = un.countP (fun x => decide (t < x)) + if t < e then 1 else 0 := by
  unfold gv
  split
  · rename_i hs
    have hh := lst_hit hs
    rw [List.getD_eq_getElem?_getD, List.getElem?_eq_getElem hs, Option.getD_some] at hh
    rw [List.countP_set hs]
    have : ¬ t < un[lst un t'] := by omega
    simp [this]
  · rw [List.countP_append]
    by_cases h2 : t < e <;> simp [h2]
/-- What holds of the ranges that have got their slots. -/
structure In (l : List Rg) (o : List Nat) (un sl : List Int) : Prop where
  lt : ∀ a ∈ o, ∃ s : Nat, sl[a]? = some (s : Int) ∧ s < un.length ∧ kt l a ≤ un.getD s 0
  ap : ∀ (i j a b : Nat), i < j → o[i]? = some a → o[j]? = some b → sl[a]? = sl[b]? → kt l a ≤ kf l b
  ct : ∀ t, (∀ a ∈ o, kf l a ≤ t) → un.countP (fun x => decide (t < x)) = o.countP (fun a => decide (t < kt l a))
theorem In.nil (sl : List Int) : In l [] [] sl := ⟨fun a h => by simp at h, fun i j a b _ h => by simp at h, fun t _ => rfl⟩
theorem In.step {o : List Nat} {un sl : List Int} {a : Nat} (I : In l o un sl) (ha : a ∉ o) (hal : a < sl.length) (hle : ∀ b ∈ o, kf l b ≤ kf l a) (hs : kf l a < kt l a) : In l (o ++ [a]) (gv un (lst un (kf l a)) (kt l a)) (sl.set a (lst un (kf l a) : Nat)) := by
  have hll := lst_le un (kf l a)
  have hgl : (gv un (lst un (kf l a)) (kt l a)).length = if lst un (kf l a) < un.length then un.length else un.length + 1 := by
    unfold gv; split <;> simp
  have hself : (sl.set a (lst un (kf l a) : Nat))[a]? = some ((lst un (kf l a) : Nat) : Int) := by rw [List.getElem?_set_self hal]
  have hoth : ∀ b ∈ o, (sl.set a (lst un (kf l a) : Nat))[b]? = sl[b]? := fun b hb => by
    rw [List.getElem?_set_ne (fun e => ha (by rw [e]; exact hb))]
  have key : ∀ b ∈ o, sl[b]? = some ((lst un (kf l a) : Nat) : Int) → kt l b ≤ kf l a := fun b hb e => by
    obtain ⟨s, e1, e2, e3⟩ := I.lt b hb
    rw [e] at e1
    have : s = lst un (kf l a) := by have := Option.some.inj e1; omega
    subst this
    exact Int.le_trans e3 (lst_hit e2)
  refine ⟨fun b hb => ?_, fun i j x y hij hi hj he => ?_, fun t ht => ?_⟩
  · rw [List.mem_append, List.mem_singleton] at hb
    rcases hb with hb | rfl
    · obtain ⟨s, e1, e2, e3⟩ := I.lt b hb
      refine ⟨s, by rw [hoth b hb]; exact e1, by rw [hgl]; split <;> omega, ?_⟩
      rw [gv_get hll (.inl e2)]
      split
      · rename_i e4
        have := key b hb (by rw [e1, e4])
        omega
      · exact e3
    · exact ⟨_, hself, by rw [hgl]; split <;> omega, by rw [gv_get hll (.inr rfl), if_pos rfl]; exact Int.le_refl _⟩
  · have hjl : j < o.length + 1 := by
      have := (List.getElem?_eq_some_iff.mp hj).1
      simpa using this
    have hx : x ∈ o := by
      rw [List.getElem?_append_left (by omega)] at hi
      exact List.mem_of_getElem? hi
    by_cases e : j < o.length
    · rw [List.getElem?_append_left (by omega)] at hi
      rw [List.getElem?_append_left e] at hj
      have hy := List.mem_of_getElem? hj
      rw [hoth x hx, hoth y hy] at he
      exact I.ap i j x y hij hi hj he
    · have : j = o.length := by omega
      subst this
      rw [List.getElem?_append_right (Nat.le_refl _), Nat.sub_self] at hj
      simp at hj
      subst hj
      rw [hoth x hx, hself] at he
      exact key x hx he
  · have h1 : ∀ b ∈ o, kf l b ≤ t := fun b hb => ht b (by simp [hb])
    have h2 : kf l a ≤ t := ht a (by simp)
    rw [gv_count h2, I.ct t h1, List.countP_append]
    by_cases h3 : t < kt l a <;> simp [h3]
/-- The same of all that has been taken. -/
theorem in_take (hS : ∀ a, a < l.length → kf l a < kt l a) : ∀ k, k ≤ l.length → In l ((ordP l).take k) (runP l ((ordP l).take k)).1 (runP l ((ordP l).take k)).2
  | 0, _ => by rw [List.take_zero]; exact In.nil _
  | k + 1, h => by
    obtain ⟨a, ha⟩ : ∃ a, (ordP l)[k]? = some a := ⟨(ordP l)[k]'(by rw [ordP_len]; omega), by simp⟩
    have hal := ordP_lt (List.mem_of_getElem? ha)
    have I := in_take hS k (by omega)
    rw [take_snoc ha, runP_snoc]
    have hnd : (ordP l).Nodup := (ordP_perm l).nodup_iff.mpr List.nodup_range
    refine I.step (fun hm => ?_) (by rw [runP_len]; exact hal) (fun b hb => ?_) (hS a hal)
    · obtain ⟨i, hi⟩ := List.getElem?_of_mem hm
      rw [List.getElem?_take] at hi
      split at hi
      · obtain ⟨x1, e1⟩ := List.getElem?_eq_some_iff.mp hi
        obtain ⟨x2, e2⟩ := List.getElem?_eq_some_iff.mp ha
        have := (List.getElem_inj (h₀ := x1) (h₁ := x2) hnd).mp (by rw [e1, e2])
        omega
      · cases hi
    · obtain ⟨i, hi⟩ := List.getElem?_of_mem hb
      rw [List.getElem?_take] at hi
      split at hi
      · rename_i hik
        obtain ⟨x1, e1⟩ := List.getElem?_eq_some_iff.mp hi
        obtain ⟨x2, e2⟩ := List.getElem?_eq_some_iff.mp ha
        have hp := List.pairwise_iff_getElem.mp (ordP_sorted l) i k x1 x2 hik
        rw [e1, e2] at hp
        unfold Le2 at hp
        omega
      · cases hi
/-- How many ranges have ended by a moment. -/
def cE (l : List Rg) (t : Int) : Nat := (List.range l.length).countP fun a => decide (kt l a ≤ t)
/-- Of the first ranges: of how many one moment is at most. -/
def mo (l : List Rg) : Nat → Nat
  | 0 => 0
  | k + 1 => max (mo l k) (k + 1 - cE l (kf l ((ordP l).getD k 0)))
theorem cE_take (hS : ∀ a, a < l.length → kf l a < kt l a) {k a : Nat} (ha : (ordP l)[k]? = some a) : ((ordP l).take k).countP (fun b => decide (kt l b ≤ kf l a)) = cE l (kf l a) := by
  unfold cE
  rw [← (ordP_perm l).countP_eq]
  conv => rhs; rw [← List.take_append_drop k (ordP l)]
  rw [List.countP_append]
  have : ((ordP l).drop k).countP (fun b => decide (kt l b ≤ kf l a)) = 0 := by
    rw [List.countP_eq_zero]
    intro b hb
    obtain ⟨i, hi⟩ := List.getElem?_of_mem hb
    rw [List.getElem?_drop] at hi
    have hbl := ordP_lt (List.mem_of_getElem? hi)
    have hs := hS b hbl
    have : kf l a ≤ kf l b := by
      by_cases e : i = 0
      · subst e; rw [Nat.add_zero, ha] at hi; injection hi with hi; rw [hi]; exact Int.le_refl _
      · obtain ⟨x1, e1⟩ := List.getElem?_eq_some_iff.mp ha
        obtain ⟨x2, e2⟩ := List.getElem?_eq_some_iff.mp hi
        have hp := List.pairwise_iff_getElem.mp (ordP_sorted l) k (k + i) x1 x2 (by omega)
        rw [e1, e2] at hp
        unfold Le2 at hp
        omega
    simp; omega
  omega
theorem countP_compl {α : Type} (o : List α) (p q : α → Bool) (h : ∀ a, q a = !p a) : o.countP p + o.countP q = o.length := by
  induction o with
  | nil => rfl
  | cons a r ih =>
    simp only [List.countP_cons, List.length_cons, h a]
    cases p a <;> simp <;> omega
/-- There are as many slots as ranges overlap. -/
theorem len_mo (hS : ∀ a, a < l.length → kf l a < kt l a) : ∀ k, k ≤ l.length → (runP l ((ordP l).take k)).1.length = mo l k
  | 0, _ => by rw [List.take_zero]; rfl
  | k + 1, h => by
    obtain ⟨a, ha⟩ : ∃ a, (ordP l)[k]? = some a := ⟨(ordP l)[k]'(by rw [ordP_len]; omega), by simp⟩
    have I := in_take hS k (by omega)
    have ih := len_mo hS k (by omega)
    rw [take_snoc ha, runP_snoc]
    obtain ⟨o, ho⟩ : ∃ o, (ordP l).take k = o := ⟨_, rfl⟩
    have hce := cE_take hS ha
    have hol : o.length = k := by rw [← ho, List.length_take, ordP_len]; omega
    have hle : ∀ b ∈ o, kf l b ≤ kf l a := fun b hb => by
      rw [← ho] at hb
      obtain ⟨i, hi⟩ := List.getElem?_of_mem hb
      rw [List.getElem?_take] at hi
      split at hi
      · rename_i hik
        obtain ⟨x1, e1⟩ := List.getElem?_eq_some_iff.mp hi
        obtain ⟨x2, e2⟩ := List.getElem?_eq_some_iff.mp ha
        have hp := List.pairwise_iff_getElem.mp (ordP_sorted l) i k x1 x2 hik
        rw [e1, e2] at hp
        unfold Le2 at hp
        omega
      · cases hi
    rw [ho] at I ih hce ⊢
    obtain ⟨un, hun⟩ : ∃ un, (runP l o).1 = un := ⟨_, rfl⟩
    rw [hun] at I ih
    have hct := I.ct (kf l a) hle
    have hcc := countP_compl o (fun b => decide (kt l b ≤ kf l a)) (fun b => decide (kf l a < kt l b)) (fun b => by
      by_cases e : kt l b ≤ kf l a
      · have : ¬ kf l a < kt l b := by omega
        simp [e, this]
      · have : kf l a < kt l b := by omega
        simp [e, this])
    have hga : (ordP l).getD k 0 = a := by simp [List.getD_eq_getElem?_getD, ha]
    show (stp l (runP l o) a).1.length = max (mo l k) (k + 1 - cE l (kf l ((ordP l).getD k 0)))
    rw [hga, ← ih]
    simp only [stp, hun]
    unfold gv
    have hle2 := lst_le un (kf l a)
    split
    · rename_i hs
      rw [List.length_set]
      have hh := lst_hit hs
      have hcl : un.countP (fun x => decide (kf l a < x)) < un.length := by
        have h1 := List.countP_le_length (p := fun x => decide (kf l a < x)) (l := un)
        have h2 : un.countP (fun x => decide (kf l a < x)) ≠ un.length := fun e => by
          rw [List.countP_eq_length] at e
          have := e un[lst un (kf l a)] (List.getElem_mem hs)
          rw [List.getD_eq_getElem?_getD, List.getElem?_eq_getElem hs, Option.getD_some] at hh
          simp at this
          omega
        omega
      omega
    · have e : lst un (kf l a) = un.length := by omega
      have hall := lst_out e
      have hcl : un.countP (fun x => decide (kf l a < x)) = un.length := by
        rw [List.countP_eq_length]
        intro x hx
        simpa using hall x hx
      rw [List.length_append, List.length_singleton]
      omega
end
end Go.Proofs.Ytmkeahfdbmfajaa
