/- Ranges that follow one another, and the same once more: their slots, as plain mathematics. -/
import Derived.Test.YtmkeahfdbmfajaaSxO
namespace Go.Proofs.Ytmkeahfdbmfajaa
/-- How far the first ranges reach. -/
def tot (ns : List Nat) : Nat → Int
  | 0 => 0
  | j + 1 => tot ns j + ((ns.getD j 0 : Nat) + 1)
theorem tot_lt (ns : List Nat) {i j : Nat} (h : i < j) : tot ns i < tot ns j := by
  induction j with
  | zero => omega
  | succ j ih =>
    simp only [tot]
    by_cases e : i = j
    · subst e; omega
    · have := ih (by omega); omega
theorem tot_nn (ns : List Nat) (j : Nat) : 0 ≤ tot ns j := by
  induction j with
  | zero => simp [tot]
  | succ j ih => simp only [tot]; omega
theorem tot_le {ns : List Nat} (h : ∀ x ∈ ns, x < 65536) (j : Nat) : tot ns j ≤ j * 65536 := by
  induction j with
  | zero => simp [tot]
  | succ j ih =>
    simp only [tot]
    have : ns.getD j 0 < 65536 := by
      by_cases e : j < ns.length
      · have := h ns[j] (List.getElem_mem e)
        simpa [List.getD_eq_getElem?_getD, e] using this
      · simp [List.getD_eq_getElem?_getD, e]
    omega
section
variable (T : Nat → Int)
/-- Ranges that follow one another. -/
def cT (n : Nat) : List Rg := (List.range n).map fun j => ⟨T j, T (j + 1)⟩
theorem cT_len (n : Nat) : (cT T n).length = n := by simp [cT]
theorem cT_get {n i : Nat} (h : i < n) : (cT T n)[i]? = some ⟨T i, T (i + 1)⟩ := by simp [cT, h]
theorem cT_snoc (n : Nat) : cT T (n + 1) = cT T n ++ [⟨T n, T (n + 1)⟩] := by simp [cT, List.range_succ]
theorem cT_mem {n : Nat} {p : Rg} (h : p ∈ cT T n) : ∃ j, j < n ∧ p = ⟨T j, T (j + 1)⟩ := by
  unfold cT at h
  obtain ⟨j, hj, rfl⟩ := List.mem_map.mp h
  exact ⟨j, List.mem_range.mp hj, rfl⟩
variable (hT : ∀ i j, i < j → T i < T j)
include hT
theorem cT_ord (n : Nat) : ordP (cT T n) = List.range n := by
  refine (ord_unique (by rw [cT_len]) ?_).symm
  rw [List.pairwise_iff_getElem]
  intro i j hi hj hij
  simp only [List.getElem_range]
  rw [List.length_range] at hi hj
  left
  rw [kf_get (cT_get T hi), kf_get (cT_get T hj)]
  exact hT i j hij
omit hT in
theorem one_run {n : Nat} : ∀ k, k ≤ n → runP (cT T n) (List.range k) = (if k = 0 then [] else [T k], List.replicate n 0)
  | 0, _ => by simp [runP, cT_len]
  | k + 1, h => by
    have hk : k < n := by omega
    rw [List.range_succ, runP_snoc, one_run k (by omega)]
    unfold stp
    rw [kf_get (cT_get T hk), kt_get (cT_get T hk)]
    simp only
    have hr : (List.replicate n (0 : Int)).set k 0 = List.replicate n 0 := by
      apply List.ext_getElem
      · simp
      · intro i h1 h2; rw [List.getElem_set]; simp
    by_cases e : k = 0
    · subst e
      simp [lst, gv, hr]
    · rw [if_neg e, if_neg (by omega)]
      have : lst [T k] (T k) = 0 := by simp [lst]
      rw [this]
      simp [gv, hr]
theorem one_asg (n : Nat) : (asgP (cT T n)).1.length = (if n = 0 then 0 else 1) ∧ (asgP (cT T n)).2 = List.replicate n 0 := by
  unfold asgP
  rw [cT_ord T hT, one_run T n (Nat.le_refl _)]
  refine ⟨?_, rfl⟩
  by_cases e : n = 0
  · simp [e]
  · simp [e]
/-- The same ranges once more: in which order they are taken. -/
def od (n : Nat) : Nat → List Nat
  | 0 => []
  | k + 1 => od n k ++ [k, n + k]
omit hT in
theorem od_mem {n : Nat} : ∀ {k a : Nat}, a ∈ od n k → ∃ j, j < k ∧ (a = j ∨ a = n + j)
  | k + 1, a, h => by
    unfold od at h
    rw [List.mem_append] at h
    rcases h with h | h
    · obtain ⟨j, hj, e⟩ := od_mem h
      exact ⟨j, by omega, e⟩
    · simp only [List.mem_cons, List.not_mem_nil, or_false] at h
      exact ⟨k, by omega, h⟩
omit hT in
theorem od_perm (n : Nat) : ∀ k, (od n k).Perm (List.range k ++ (List.range k).map (n + ·))
  | 0 => List.Perm.refl _
  | k + 1 => by
    unfold od
    rw [List.range_succ, List.map_append]
    refine (List.Perm.append_right _ (od_perm n k)).trans ?_
    rw [List.append_assoc, List.append_assoc]
    refine List.Perm.append_left _ ?_
    rw [← List.append_assoc]
    show ((List.range k).map (n + ·) ++ ([k] ++ [n + k])).Perm _
    rw [← List.append_assoc]
    exact List.Perm.append_right _ List.perm_append_comm
omit hT in
theorem dT_get {n i : Nat} (h : i < n) : (cT T n ++ cT T n)[i]? = some ⟨T i, T (i + 1)⟩ ∧ (cT T n ++ cT T n)[n + i]? = some ⟨T i, T (i + 1)⟩ := by
  constructor
  · rw [List.getElem?_append_left (by rw [cT_len]; exact h)]; exact cT_get T h
  · rw [List.getElem?_append_right (by rw [cT_len]; omega), cT_len, Nat.add_sub_cancel_left]; exact cT_get T h
theorem od_pair {n : Nat} : ∀ k, k ≤ n → (od n k).Pairwise (Le2 (cT T n ++ cT T n))
  | 0, _ => List.Pairwise.nil
  | k + 1, h => by
    have hk : k < n := by omega
    obtain ⟨g1, g2⟩ := dT_get T hk
    unfold od
    rw [List.pairwise_append]
    refine ⟨od_pair k (by omega), List.pairwise_pair.mpr (.inr ⟨by rw [kf_get g1, kf_get g2], by omega⟩), fun a ha b hb => ?_⟩
    obtain ⟨j, hj, e⟩ := od_mem ha
    obtain ⟨q1, q2⟩ := dT_get T (show j < n by omega)
    left
    have h1 : kf (cT T n ++ cT T n) a = T j := by
      rcases e with rfl | rfl
      · exact kf_get q1
      · exact kf_get q2
    have h2 : kf (cT T n ++ cT T n) b = T k := by
      simp only [List.mem_cons, List.not_mem_nil, or_false] at hb
      rcases hb with rfl | rfl
      · exact kf_get g1
      · exact kf_get g2
    rw [h1, h2]
    exact hT j k hj
theorem dT_ord (n : Nat) : ordP (cT T n ++ cT T n) = od n n := by
  refine (ord_unique ?_ (od_pair T hT n (Nat.le_refl _))).symm
  refine (od_perm n n).trans ?_
  rw [List.length_append, cT_len, List.range_add]
omit hT in
theorem ones_set {n k : Nat} (h : k < n) : (List.replicate n (0 : Int) ++ (List.replicate k (1 : Int) ++ List.replicate (n - k) 0)).set (n + k) 1 = List.replicate n 0 ++ (List.replicate (k + 1) 1 ++ List.replicate (n - (k + 1)) 0) := by
  rw [List.set_append_right _ _ (by simp), List.length_replicate, Nat.add_sub_cancel_left, List.set_append_right _ _ (by simp), List.length_replicate, Nat.sub_self]
  obtain ⟨m, hm⟩ : ∃ m, n - k = m + 1 := ⟨n - k - 1, by omega⟩
  rw [hm, show n - (k + 1) = m by omega, List.replicate_succ, List.set_cons_zero, List.replicate_succ']
  simp
theorem two_run {n : Nat} : ∀ k, k ≤ n → runP (cT T n ++ cT T n) (od n k) = (if k = 0 then [] else [T k, T k], List.replicate n 0 ++ (List.replicate k 1 ++ List.replicate (n - k) 0))
  | 0, _ => by
    simp only [od, runP, List.foldl_nil, List.length_append, cT_len, if_true, List.replicate_zero, List.nil_append, Nat.sub_zero]
    rw [List.replicate_append_replicate]
  | k + 1, h => by
    have hk : k < n := by omega
    obtain ⟨g1, g2⟩ := dT_get T hk
    have hlt := hT k (k + 1) (by omega)
    have e0 : od n (k + 1) = (od n k ++ [k]) ++ [n + k] := by simp [od]
    rw [e0, runP_snoc, runP_snoc, two_run k (by omega)]
    unfold stp
    rw [kf_get g1, kt_get g1, kf_get g2, kt_get g2]
    simp only
    have hr : (List.replicate n (0 : Int) ++ (List.replicate k 1 ++ List.replicate (n - k) 0)).set k ((0 : Nat) : Int) = List.replicate n 0 ++ (List.replicate k 1 ++ List.replicate (n - k) 0) := by
      rw [List.set_append_left _ _ (by simpa using hk)]
      congr 1
      apply List.ext_getElem
      · simp
      · intro i h1 h2; rw [List.getElem_set]; simp
    by_cases e : k = 0
    · subst e
      have l1 : lst ([] : List Int) (T 0) = 0 := by simp [lst]
      have g0 : gv ([] : List Int) 0 (T (0 + 1)) = [T 1] := by simp [gv]
      have l2 : lst [T 1] (T 0) = 1 := by
        have : ¬ T 1 ≤ T 0 := by simp at hlt; omega
        simp [lst, List.findIdx_cons, this]
      have g3 : gv [T 1] 1 (T (0 + 1)) = [T 1, T 1] := by simp [gv]
      rw [if_pos rfl, l1, g0, hr, l2, g3, if_neg (by omega)]
      rw [show ((1 : Nat) : Int) = 1 from rfl, ones_set hk]
    · have l1 : lst [T k, T k] (T k) = 0 := by simp [lst, List.findIdx_cons]
      have g0 : gv [T k, T k] 0 (T (k + 1)) = [T (k + 1), T k] := by simp [gv]
      have l2 : lst [T (k + 1), T k] (T k) = 1 := by
        have : ¬ T (k + 1) ≤ T k := by omega
        simp [lst, List.findIdx_cons, this]
      have g3 : gv [T (k + 1), T k] 1 (T (k + 1)) = [T (k + 1), T (k + 1)] := by simp [gv]
      rw [if_neg e, l1, g0, hr, l2, g3, if_neg (by omega)]
      rw [show ((1 : Nat) : Int) = 1 from rfl, ones_set hk]
theorem two_asg (n : Nat) : (asgP (cT T n ++ cT T n)).1.length = (if n = 0 then 0 else 2) ∧ (asgP (cT T n ++ cT T n)).2 = List.replicate n 0 ++ List.replicate n 1 := by
  unfold asgP
  rw [dT_ord T hT, two_run T hT n (Nat.le_refl _)]
  refine ⟨?_, by simp⟩
  by_cases e : n = 0
  · simp [e]
  · simp [e]
end
end Go.Proofs.Ytmkeahfdbmfajaa
