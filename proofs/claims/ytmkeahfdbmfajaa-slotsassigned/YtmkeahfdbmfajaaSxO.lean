/- The order in which ranges are taken, and their slots, as plain mathematics; all ranges later. -/
import Derived.Test.YtmkeahfdbmfajaaSxJ
import Derived.Test.YtmkeahfdbmfajaaSxN
namespace Go.Proofs.Ytmkeahfdbmfajaa
def kf (l : List Rg) (i : Nat) : Int := (l.getD i ⟨0, 0⟩).fr
def kt (l : List Rg) (i : Nat) : Int := (l.getD i ⟨0, 0⟩).en
theorem kf_get {l : List Rg} {i : Nat} {p : Rg} (h : l[i]? = some p) : kf l i = p.fr := by simp [kf, List.getD_eq_getElem?_getD, h]
theorem kt_get {l : List Rg} {i : Nat} {p : Rg} (h : l[i]? = some p) : kt l i = p.en := by simp [kt, List.getD_eq_getElem?_getD, h]
/-- The order in which ranges are taken. -/
def leF (l : List Rg) (x y : Fin l.length) : Bool := decide (kf l x < kf l y) || (decide (kf l x = kf l y) && decide (x.val ≤ y.val))
def ordP (l : List Rg) : List Nat := ((List.finRange l.length).mergeSort (leF l)).map Fin.val
def Le2 (l : List Rg) (a b : Nat) : Prop := kf l a < kf l b ∨ (kf l a = kf l b ∧ a ≤ b)
theorem fin_vals (n : Nat) : (List.finRange n).map Fin.val = List.range n := by
  apply List.ext_getElem
  · simp
  · intro i h1 h2; simp
theorem ordP_perm (l : List Rg) : (ordP l).Perm (List.range l.length) := by
  have := (List.mergeSort_perm (List.finRange l.length) (leF l)).map Fin.val
  rw [fin_vals] at this
  exact this
theorem ordP_sorted (l : List Rg) : (ordP l).Pairwise (Le2 l) := by
  have h := List.pairwise_mergeSort (le := leF l) (fun a b c h1 h2 => by
    unfold leF at *
    simp only [Bool.or_eq_true, Bool.and_eq_true, decide_eq_true_eq] at *
    omega) (fun a b => by
    unfold leF
    simp only [Bool.or_eq_true, Bool.and_eq_true, decide_eq_true_eq]
    omega) (List.finRange l.length)
  unfold ordP
  rw [List.pairwise_map]
  refine h.imp fun {a b} hab => ?_
  unfold leF at hab
  simp only [Bool.or_eq_true, Bool.and_eq_true, decide_eq_true_eq] at hab
  exact hab
theorem ord_unique {l : List Rg} {o : List Nat} (hp : o.Perm (List.range l.length)) (hs : o.Pairwise (Le2 l)) : o = ordP l :=
  List.Perm.eq_of_pairwise (le := Le2 l) (fun a b _ _ h1 h2 => by unfold Le2 at *; omega) hs (ordP_sorted l) (hp.trans (ordP_perm l).symm)
theorem ordP_len (l : List Rg) : (ordP l).length = l.length := by rw [(ordP_perm l).length_eq, List.length_range]
theorem ordP_lt {l : List Rg} {a : Nat} (h : a ∈ ordP l) : a < l.length := List.mem_range.mp ((ordP_perm l).mem_iff.mp h)
/-- One range is given its slot. -/
def stp (l : List Rg) (s : List Int × List Int) (i : Nat) : List Int × List Int := (gv s.1 (lst s.1 (kf l i)) (kt l i), s.2.set i (lst s.1 (kf l i) : Nat))
def runP (l : List Rg) (o : List Nat) : List Int × List Int := o.foldl (stp l) ([], List.replicate l.length 0)
/-- The slots of ranges (the second) and where each slot's last range ends. -/
def asgP (l : List Rg) : List Int × List Int := runP l (ordP l)
theorem fold_len (l : List Rg) (o : List Nat) : ∀ s, (o.foldl (stp l) s).2.length = s.2.length := by
  induction o with
  | nil => intro s; rfl
  | cons a r ih => intro s; rw [List.foldl_cons, ih]; simp [stp]
theorem runP_len (l : List Rg) (o : List Nat) : (runP l o).2.length = l.length := by unfold runP; rw [fold_len]; simp
theorem gv_le (un : List Int) (s : Nat) (e : Int) : (gv un s e).length ≤ un.length + 1 := by
  unfold gv
  split <;> simp
theorem fold_un (l : List Rg) (o : List Nat) : ∀ s, (o.foldl (stp l) s).1.length ≤ s.1.length + o.length := by
  induction o with
  | nil => intro s; simp
  | cons a r ih =>
    intro s
    rw [List.foldl_cons]
    refine Nat.le_trans (ih _) ?_
    have := gv_le s.1 (lst s.1 (kf l a)) (kt l a)
    simp only [stp, List.length_cons]
    omega
theorem runP_un (l : List Rg) (o : List Nat) : (runP l o).1.length ≤ o.length := by
  have := fold_un l o ([], List.replicate l.length 0)
  simpa [runP] using this
theorem runP_snoc (l : List Rg) (o : List Nat) (a : Nat) : runP l (o ++ [a]) = stp l (runP l o) a := by unfold runP; rw [List.foldl_append]; rfl
theorem take_snoc {α : Type} {o : List α} {k : Nat} {a : α} (h : o[k]? = some a) : o.take (k + 1) = o.take k ++ [a] := by rw [List.take_add_one, h]; rfl
/-- All later by as much. -/
def mvP (b : Int) (l : List Rg) : List Rg := l.map fun p => ⟨p.fr + b, p.en + b⟩
theorem mv_kf {b : Int} {l : List Rg} {i : Nat} (h : i < l.length) : kf (mvP b l) i = kf l i + b := by
  obtain ⟨p, hp⟩ : ∃ p, l[i]? = some p := ⟨l[i], by simp⟩
  rw [kf_get hp, kf_get (p := ⟨p.fr + b, p.en + b⟩) (by simp [mvP, hp])]
theorem mv_kt {b : Int} {l : List Rg} {i : Nat} (h : i < l.length) : kt (mvP b l) i = kt l i + b := by
  obtain ⟨p, hp⟩ : ∃ p, l[i]? = some p := ⟨l[i], by simp⟩
  rw [kt_get hp, kt_get (p := ⟨p.fr + b, p.en + b⟩) (by simp [mvP, hp])]
theorem mv_len (b : Int) (l : List Rg) : (mvP b l).length = l.length := by simp [mvP]
theorem mv_ord (b : Int) (l : List Rg) : ordP (mvP b l) = ordP l := by
  refine (ord_unique (by rw [mv_len]; exact ordP_perm l) ?_).symm
  refine (ordP_sorted l).imp_of_mem fun {x y} hx hy h => ?_
  unfold Le2 at *
  rw [mv_kf (ordP_lt hx), mv_kf (ordP_lt hy)]
  omega
theorem mv_lst (b t : Int) (un : List Int) : lst (un.map (· + b)) (t + b) = lst un t := by
  unfold lst
  rw [List.findIdx_map]
  congr 1
  funext x
  simp
theorem mv_gv (b e : Int) (un : List Int) (s : Nat) : gv (un.map (· + b)) s (e + b) = (gv un s e).map (· + b) := by
  unfold gv
  rw [List.length_map]
  split
  · rw [List.map_set]
  · rw [List.map_append]; rfl
theorem mv_fold (b : Int) (l : List Rg) (o : List Nat) (ho : ∀ a ∈ o, a < l.length) : ∀ s : List Int × List Int, o.foldl (stp (mvP b l)) (s.1.map (· + b), s.2) = ((o.foldl (stp l) s).1.map (· + b), (o.foldl (stp l) s).2) := by
  induction o with
  | nil => intro s; rfl
  | cons a r ih =>
    intro s
    rw [List.foldl_cons, List.foldl_cons, ← ih (fun x hx => ho x (List.mem_cons_of_mem _ hx))]
    congr 1
    have ha := ho a (List.mem_cons_self ..)
    unfold stp
    rw [mv_kf ha, mv_kt ha, mv_lst, mv_gv]
/-- The same slots. -/
theorem mv_asg (b : Int) (l : List Rg) : (asgP (mvP b l)).1.length = (asgP l).1.length ∧ (asgP (mvP b l)).2 = (asgP l).2 := by
  have h := mv_fold b l (ordP l) (fun a => ordP_lt) ([], List.replicate l.length 0)
  unfold asgP runP
  rw [mv_ord, mv_len]
  rw [List.map_nil] at h
  rw [h]
  exact ⟨by simp, rfl⟩
end Go.Proofs.Ytmkeahfdbmfajaa
