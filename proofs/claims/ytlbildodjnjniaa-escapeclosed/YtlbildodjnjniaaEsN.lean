/- The search for what comes to a root, as plain mathematics: what holds between its steps, and what it has found at its end. -/
import Derived.Test.YtlbildodjnjniaaEsM
namespace Go.Proofs.Ytlbildodjnjniaa

/-- A node's place. -/
def pl (v : Int) : Nat := (v + 1).toNat
def upf {α : Type} (f : Nat → α) (i : Nat) (a : α) : Nat → α := fun j => if j = i then a else f j
theorem upf_same {α : Type} (f : Nat → α) (i : Nat) (a : α) : upf f i a i = a := by simp [upf]
theorem upf_other {α : Type} (f : Nat → α) {i j : Nat} (a : α) (h : j ≠ i) : upf f i a j = f j := by simp [upf, h]
/-- The flows to what stands at a place. -/
def row (fs : List Fl) (t : Nat) : List (Nat × Int) := (fs.filter fun f => pl f.to == t).map fun f => (pl f.fr, f.rf)
theorem row_mem {fs : List Fl} {t : Nat} {p : Nat × Int} : p ∈ row fs t ↔ ∃ f ∈ fs, pl f.to = t ∧ p = (pl f.fr, f.rf) := by
  unfold row
  simp only [List.mem_map, List.mem_filter, beq_iff_eq]
  constructor
  · rintro ⟨f, ⟨h1, h2⟩, rfl⟩; exact ⟨f, h1, h2, rfl⟩
  · rintro ⟨f, h1, h2, rfl⟩; exact ⟨f, ⟨h1, h2⟩, rfl⟩
theorem row_length (fs : List Fl) (t : Nat) : (row fs t).length ≤ fs.length := by
  unfold row; rw [List.length_map]; exact List.length_filter_le _ _
theorem row_snoc (fs : List Fl) (f : Fl) (t : Nat) : row (fs ++ [f]) t = row fs t ++ if pl f.to = t then [(pl f.fr, f.rf)] else [] := by
  unfold row
  rw [List.filter_append, List.map_append]
  by_cases h : pl f.to = t
  · simp [h]
  · simp [h]
theorem row_at {n : Nat} {fs : List Fl} (S : Snd n fs) {t : Nat} {p : Nat × Int} (h : p ∈ row fs t) : t ≤ n ∧ 1 ≤ p.1 ∧ p.1 ≤ n ∧ -1 ≤ p.2 ∧ p.2 ≤ 100 ∧ ∃ f ∈ fs, f.to = (t : Int) - 1 ∧ f.fr = (p.1 : Int) - 1 ∧ f.rf = p.2 := by
  obtain ⟨f, hf, ht, rfl⟩ := row_mem.1 h
  obtain ⟨s1, s2, s3, s4, s5, s6⟩ := S f hf
  unfold pl at *
  exact ⟨by omega, by simp; omega, by simp; omega, s5, s6, f, hf, by omega, by simp; omega, rfl⟩
/-- A flow to t is told. -/
def Cl (L : Nat → Int) (B : Int) (t : Nat) (p : Nat × Int) : Prop := L t = -2 ∨ (L p.1 ≠ -2 ∧ L p.1 ≤ min (max (L t) 0 + p.2) B)
/-- Between two steps: q waits; of t the flows in rest are still to be gone through. -/
structure RI (n : Nat) (fs : List Fl) (B root : Int) (L : Nat → Int) (W : Nat → Bool) (q : List Nat) (t : Nat) (rest : List (Nat × Int)) : Prop where
  way : ∀ i, i ≤ n → L i ≠ -2 → Way fs B root ((i : Int) - 1) (L i)
  rng : ∀ i, i ≤ n → -2 ≤ L i ∧ L i ≤ B
  root : L (pl root) ≠ -2 ∧ L (pl root) ≤ 0
  wq : ∀ i, W i = true → i ∈ q
  ql : ∀ i ∈ q, i ≤ n ∧ L i ≠ -2
  done : ∀ f ∈ fs, pl f.to ∈ q ∨ Cl L B (pl f.to) (pl f.fr, f.rf) ∨ (pl f.to = t ∧ (pl f.fr, f.rf) ∈ rest)
section
variable {n : Nat} {fs : List Fl} {B root : Int} {L : Nat → Int} {W : Nat → Bool} {q : List Nat} {t : Nat} {rest : List (Nat × Int)} {p : Nat × Int}
theorem RI.new (hB : 0 ≤ B) (hr : -1 ≤ root) (hr2 : root < n) : RI n fs B root (upf (fun _ => -2) (pl root) 0) (fun _ => false) [pl root] 0 [] := by
  have hp : ((pl root : Nat) : Int) - 1 = root := by unfold pl; omega
  refine ⟨fun i hi h => ?_, fun i hi => ?_, ?_, fun i h => (by cases h), fun i h => ?_, fun f hf => ?_⟩
  · by_cases e : i = pl root
    · subst e; rw [upf_same, hp]; exact .root
    · rw [upf_other _ _ e] at h; exact absurd rfl h
  · by_cases e : i = pl root
    · subst e; rw [upf_same]; omega
    · rw [upf_other _ _ e]; omega
  · rw [upf_same]; omega
  · simp at h; subst h
    rw [upf_same]
    exact ⟨by unfold pl; omega, by decide⟩
  · by_cases e : pl f.to = pl root
    · exact .inl (by simp [e])
    · exact .inr (.inl (.inl (upf_other _ _ e)))
theorem RI.pop {t0 : Nat} (R : RI n fs B root L W (t :: q) t0 []) : RI n fs B root L (upf W t false) q t (row fs t) ∧ t ≤ n ∧ L t ≠ -2 := by
  refine ⟨⟨R.way, R.rng, R.root, fun i h => ?_, fun i h => R.ql i (List.mem_cons_of_mem _ h), fun f hf => ?_⟩, R.ql t (by simp)⟩
  · by_cases e : i = t
    · subst e; rw [upf_same] at h; cases h
    · rw [upf_other _ _ e] at h
      rcases List.mem_cons.1 (R.wq i h) with h1 | h1
      · exact absurd h1 e
      · exact h1
  · rcases R.done f hf with h | h | ⟨_, h⟩
    · rcases List.mem_cons.1 h with h1 | h1
      · exact .inr (.inr ⟨h1, row_mem.2 ⟨f, hf, h1, rfl⟩⟩)
      · exact .inl h1
    · exact .inr (.inl h)
    · cases h
theorem RI.skip (R : RI n fs B root L W q t (p :: rest)) (h : L p.1 ≠ -2 ∧ L p.1 ≤ min (max (L t) 0 + p.2) B) : RI n fs B root L W q t rest := by
  refine ⟨R.way, R.rng, R.root, R.wq, R.ql, fun f hf => ?_⟩
  rcases R.done f hf with h1 | h1 | ⟨h1, h2⟩
  · exact .inl h1
  · exact .inr (.inl h1)
  · rcases List.mem_cons.1 h2 with h3 | h3
    · refine .inr (.inl (.inr ?_))
      rw [h1, h3]; exact h
    · exact .inr (.inr ⟨h1, h3⟩)
theorem RI.relax (S : Snd n fs) (R : RI n fs B root L W q t (p :: rest)) (hB : 0 ≤ B) (hp : p ∈ row fs t) (ht : L t ≠ -2) {d : Int} (hd : d = min (max (L t) 0 + p.2) B) (h : L p.1 = -2 ∨ d < L p.1)
    {W' : Nat → Bool} {q' : List Nat} (hw : (W p.1 = true ∧ W' = W ∧ q' = q) ∨ (W' = upf W p.1 true ∧ q' = q ++ [p.1])) : RI n fs B root (upf L p.1 d) W' q' t rest ∧ upf L p.1 d t ≠ -2 := by
  obtain ⟨a1, a2, a3, a4, a5, f0, hf0, a6, a7, a8⟩ := row_at S hp
  have hd1 : -1 ≤ d := by omega
  have hq : ∀ i, i ∈ q → i ∈ q' := by
    intro i hi
    rcases hw with ⟨_, _, rfl⟩ | ⟨_, rfl⟩
    · exact hi
    · exact List.mem_append.2 (.inl hi)
  have hpq : p.1 ∈ q' := by
    rcases hw with ⟨h1, _, rfl⟩ | ⟨_, rfl⟩
    · exact R.wq _ h1
    · simp
  refine ⟨⟨fun i hi hne => ?_, fun i hi => ?_, ?_, fun i hi => ?_, fun i hi => ?_, fun f hf => ?_⟩, ?_⟩
  · by_cases e : i = p.1
    · subst e
      rw [upf_same]
      have hw1 := R.way t a1 ht
      rw [← a6] at hw1
      have := Way.step hf0 hw1
      rw [a7, a8, ← hd] at this
      exact this
    · rw [upf_other _ _ e] at hne ⊢; exact R.way i hi hne
  · by_cases e : i = p.1
    · subst e; rw [upf_same]; omega
    · rw [upf_other _ _ e]; exact R.rng i hi
  · have := R.root
    by_cases e : pl root = p.1
    · rw [e, upf_same]; rw [e] at this; omega
    · rw [upf_other _ _ e]; exact this
  · rcases hw with ⟨_, rfl, rfl⟩ | ⟨rfl, rfl⟩
    · exact R.wq i hi
    · by_cases e : i = p.1
      · subst e; simp
      · rw [upf_other _ _ e] at hi; exact List.mem_append.2 (.inl (R.wq i hi))
  · have hh : i ∈ q ∨ i = p.1 := by
      rcases hw with ⟨_, _, rfl⟩ | ⟨_, rfl⟩
      · exact .inl hi
      · rcases List.mem_append.1 hi with h1 | h1
        · exact .inl h1
        · exact .inr (by simpa using h1)
    by_cases e : i = p.1
    · subst e; rw [upf_same]; exact ⟨a3, by omega⟩
    · rw [upf_other _ _ e]
      rcases hh with h1 | h1
      · exact R.ql i h1
      · exact absurd h1 e
  · by_cases e : pl f.to = p.1
    · exact .inl (by rw [e]; exact hpq)
    · rcases R.done f hf with h1 | h1 | ⟨h1, h2⟩
      · exact .inl (hq _ h1)
      · refine .inr (.inl ?_)
        unfold Cl at h1 ⊢
        rw [upf_other _ _ e]
        rcases h1 with h1 | ⟨h1, h2⟩
        · exact .inl h1
        · refine .inr ?_
          by_cases e2 : pl f.fr = p.1
          · have h1' : L p.1 ≠ -2 := by rw [← e2]; exact h1
            have h2' : L p.1 ≤ min (max (L (pl f.to)) 0 + f.rf) B := by rw [← e2]; exact h2
            show upf L p.1 d (pl f.fr) ≠ -2 ∧ upf L p.1 d (pl f.fr) ≤ min (max (L (pl f.to)) 0 + f.rf) B
            rw [e2, upf_same]
            exact ⟨by omega, by omega⟩
          · rw [upf_other _ _ e2]; exact ⟨h1, h2⟩
      · rcases List.mem_cons.1 h2 with h3 | h3
        · refine .inr (.inl (.inr ?_))
          have h4 : pl f.fr = p.1 := by rw [← h3]
          have h5 : f.rf = p.2 := by rw [← h3]
          show upf L p.1 d (pl f.fr) ≠ -2 ∧ upf L p.1 d (pl f.fr) ≤ min (max (upf L p.1 d (pl f.to)) 0 + f.rf) B
          rw [upf_other _ _ e, h1, h4, h5, upf_same]
          exact ⟨by omega, by omega⟩
        · exact .inr (.inr ⟨h1, h3⟩)
  · by_cases e : t = p.1
    · rw [e, upf_same]; omega
    · rw [upf_other _ _ e]; exact ht
/-- What was found. -/
def lof (n : Nat) (L : Nat → Int) (v : Int) : Int := if -1 ≤ v ∧ v < n then L (pl v) else -2
theorem lof_at (n : Nat) (L : Nat → Int) {i : Nat} (h : i ≤ n) : lof n L ((i : Int) - 1) = L i := by
  unfold lof pl
  rw [if_pos (by omega), show ((i : Int) - 1 + 1).toNat = i by omega]
theorem RI.lst (S : Snd n fs) (R : RI n fs B root L W [] t []) (hr : -1 ≤ root) (hr2 : root < n) : Lst fs B root (lof n L) := by
  refine ⟨fun v hv => ?_, ?_, fun f hf h => ?_⟩
  · unfold lof at hv ⊢
    split at hv
    · rename_i hd
      rw [if_pos hd]
      have := R.way (pl v) (by unfold pl; omega) hv
      rwa [show ((pl v : Nat) : Int) - 1 = v by unfold pl; omega] at this
    · exact absurd rfl hv
  · unfold lof; rw [if_pos ⟨hr, hr2⟩]; exact R.root
  · obtain ⟨s1, s2, s3, s4, s5, s6⟩ := S f hf
    have e1 : lof n L f.to = L (pl f.to) := by unfold lof; rw [if_pos ⟨s1, s2⟩]
    have e2 : lof n L f.fr = L (pl f.fr) := by unfold lof; rw [if_pos ⟨by omega, s4⟩]
    rw [e1] at h
    rw [e1, e2]
    rcases R.done f hf with h1 | h1 | ⟨_, h1⟩
    · cases h1
    · rcases h1 with h1 | h1
      · exact absurd h1 h
      · exact h1
    · cases h1
/-- How far it may still go. -/
def wt (B x : Int) : Nat := if x = -2 then B.toNat + 2 else (x + 1).toNat
def Phi (B : Int) (L : Nat → Int) : Nat → Nat
  | 0 => wt B (L 0)
  | m + 1 => Phi B L m + wt B (L (m + 1))
theorem phi_out {a : Nat} {d : Int} : ∀ {m : Nat}, m < a → Phi B (upf L a d) m = Phi B L m
  | 0, h => by simp [Phi, upf_other L d (show 0 ≠ a by omega)]
  | m + 1, h => by simp [Phi, phi_out (m := m) (by omega : m < a), upf_other L d (show m + 1 ≠ a by omega)]
theorem phi_upd {a : Nat} {d : Int} : ∀ {m : Nat}, a ≤ m → Phi B (upf L a d) m + wt B (L a) = Phi B L m + wt B d
  | 0, h => by
    obtain rfl : a = 0 := by omega
    simp [Phi, upf_same]; omega
  | m + 1, h => by
    by_cases e : a = m + 1
    · subst e
      simp only [Phi, upf_same, phi_out (Nat.lt_succ_self m)]; omega
    · have := phi_upd (a := a) (d := d) (m := m) (by omega)
      simp only [Phi, upf_other L d (show m + 1 ≠ a by omega)]; omega
theorem phi_less {a m : Nat} {d : Int} (ha : a ≤ m) (hd : -1 ≤ d) (hB : d ≤ B) (h : L a = -2 ∨ d < L a) : Phi B (upf L a d) m + 1 ≤ Phi B L m := by
  have h1 := phi_upd (B := B) (L := L) (d := d) ha
  have h2 : wt B d + 1 ≤ wt B (L a) := by
    unfold wt
    split <;> split <;> omega
  omega
theorem phi_le (hB : 0 ≤ B) (h : ∀ i, -2 ≤ L i ∧ L i ≤ B) : ∀ m : Nat, Phi B L m ≤ (m + 1) * (B.toNat + 2)
  | 0 => by have := h 0; simp [Phi, wt]; split <;> omega
  | m + 1 => by
    have := phi_le hB h m
    have h1 := h (m + 1)
    have h2 : wt B (L (m + 1)) ≤ B.toNat + 2 := by unfold wt; split <;> omega
    simp only [Phi]
    rw [Nat.add_mul (m + 1) 1]
    omega
end
end Go.Proofs.Ytlbildodjnjniaa
