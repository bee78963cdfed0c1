/- The document's search, as plain mathematics. -/
import Derived.Test.YtlbildodjnjniaaEsO
namespace Go.Proofs.Ytlbildodjnjniaa

/-- With what a node comes, so far. -/
def lo (root : Int) (O : Nat → Int) (n : Nat) (v : Int) : Int := if v = -1 then (if root = -1 then 0 else -2) else if 0 ≤ v ∧ v < n then O v.toNat else -2
def cntR (O : Nat → Int) (n : Nat) : Nat := (List.range n).countP fun i => decide (O i ≠ -2)
theorem cntR_le (O : Nat → Int) (n : Nat) : cntR O n ≤ n := by
  have := List.countP_le_length (p := fun i => decide (O i ≠ -2)) (l := List.range n)
  rw [List.length_range] at this
  exact this
theorem cntR_set {O : Nat → Int} {n x : Nat} {d : Int} (hx : x < n) (hd : d ≠ -2) : cntR (upf O x d) n = cntR O n + if O x = -2 then 1 else 0 := by
  unfold cntR
  induction n with
  | zero => omega
  | succ m ih =>
    rw [List.range_succ, List.countP_append, List.countP_append, List.countP_singleton, List.countP_singleton]
    by_cases e : x = m
    · subst e
      have h1 : (List.range x).countP (fun i => decide (upf O x d i ≠ -2)) = (List.range x).countP fun i => decide (O i ≠ -2) := by
        apply List.countP_congr
        intro i hi
        have := List.mem_range.1 hi
        rw [upf_other _ _ (by omega)]
      rw [h1, upf_same]
      by_cases h : O x = -2 <;> simp [h, hd]
    · have := ih (by omega)
      rw [upf_other _ _ (fun h => e h.symm)]
      omega
structure CI (n : Nat) (fs : List Fl) (root : Int) (O : Nat → Int) : Prop where
  way : ∀ i, i < n → O i ≠ -2 → Way fs 51200 root (i : Int) (O i)
  root : 0 ≤ root → O root.toNat ≠ -2 ∧ O root.toNat ≤ 0
  rng : ∀ i, i < n → -2 ≤ O i ∧ O i ≤ 100 * (cntR O n : Int)
/-- A flow is told. -/
def ClF (n : Nat) (root : Int) (O : Nat → Int) (f : Fl) : Prop := lo root O n f.to = -2 ∨ (O f.fr.toNat ≠ -2 ∧ O f.fr.toNat ≤ max (lo root O n f.to) 0 + f.rf)
section
variable {n : Nat} {fs : List Fl} {root : Int} {O : Nat → Int}
theorem lo_at {i : Nat} (h : i < n) : lo root O n (i : Int) = O i := by
  unfold lo
  rw [if_neg (by omega), if_pos (by omega), Int.toNat_natCast]
theorem lo_heap : lo root O n (-1) = if root = -1 then 0 else -2 := by unfold lo; rw [if_pos rfl]
theorem CI.new (hr2 : root < n) : CI n fs root (if 0 ≤ root then upf (fun _ => -2) root.toNat 0 else fun _ => -2) := by
  by_cases h : 0 ≤ root
  · rw [if_pos h]
    have hx : root.toNat < n := by omega
    have hc := cntR_set (O := fun _ => -2) (d := 0) hx (by decide)
    refine ⟨fun i hi hne => ?_, fun _ => by rw [upf_same]; exact ⟨by decide, by omega⟩, fun i hi => ?_⟩
    · by_cases e : i = root.toNat
      · subst e; rw [upf_same, show ((root.toNat : Nat) : Int) = root by omega]; exact .root
      · rw [upf_other _ _ e] at hne; exact absurd rfl hne
    · by_cases e : i = root.toNat
      · subst e; rw [upf_same]; omega
      · rw [upf_other _ _ e]; omega
  · rw [if_neg h]
    exact ⟨fun i hi hne => absurd rfl hne, fun h' => absurd h' h, fun i hi => by omega⟩
theorem CI.lo_way (C : CI n fs root O) {v : Int} (h : lo root O n v ≠ -2) : Way fs 51200 root v (lo root O n v) ∧ -2 ≤ lo root O n v ∧ lo root O n v ≤ 100 * (cntR O n : Int) := by
  by_cases hv : v = -1
  · subst hv
    rw [lo_heap] at h ⊢
    by_cases hr : root = -1
    · rw [if_pos hr]; rw [hr]; exact ⟨.root, by omega, by omega⟩
    · rw [if_neg hr] at h; exact absurd rfl h
  · by_cases hd : 0 ≤ v ∧ v < n
    · obtain ⟨i, rfl⟩ : ∃ i : Nat, v = i := ⟨v.toNat, by omega⟩
      have hi : i < n := by omega
      rw [lo_at hi] at h ⊢
      exact ⟨C.way i hi h, C.rng i hi⟩
    · unfold lo at h; rw [if_neg hv, if_neg hd] at h; exact absurd rfl h
theorem CI.relax (S : Snd n fs) (hn : n ≤ 60) (C : CI n fs root O) {f : Fl} (hf : f ∈ fs) {x : Nat} (hx : f.fr = x) (hto : lo root O n f.to ≠ -2) {d : Int} (hd : d = max (lo root O n f.to) 0 + f.rf) (h : O x = -2 ∨ d < O x) : CI n fs root (upf O x d) := by
  obtain ⟨s1, s2, s3, s4, s5, s6⟩ := S f hf
  have hxn : x < n := by omega
  obtain ⟨w1, w2, w3⟩ := C.lo_way hto
  have hc := cntR_le O n
  have hcs := cntR_set (O := O) (d := d) hxn (by omega)
  have hw := Way.step hf w1
  rw [hx, show min (max (lo root O n f.to) 0 + f.rf) 51200 = d by omega] at hw
  refine ⟨fun i hi hne => ?_, fun h0 => ?_, fun i hi => ?_⟩
  · by_cases e : i = x
    · subst e; rw [upf_same]; exact hw
    · rw [upf_other _ _ e] at hne ⊢; exact C.way i hi hne
  · have := C.root h0
    by_cases e : root.toNat = x
    · rw [e] at this ⊢; rw [upf_same]; omega
    · rw [upf_other _ _ e]; exact this
  · rw [hcs]
    have h1 := C.rng i hi
    have h2 := C.rng x hxn
    by_cases e : i = x
    · subst e
      rw [upf_same]
      by_cases hz : O i = -2
      · rw [if_pos hz]; omega
      · rw [if_neg hz]
        have : d < O i := by rcases h with h | h; exact absurd h hz; exact h
        omega
    · rw [upf_other _ _ e]
      split <;> omega
theorem CI.lst (S : Snd n fs) (hn : n ≤ 60) (C : CI n fs root O) (hr : -1 ≤ root) (hr2 : root < n) (hc : ∀ f ∈ fs, ClF n root O f) : Lst fs 51200 root (lo root O n) := by
  refine ⟨fun v hv => (C.lo_way hv).1, ?_, fun f hf hto => ?_⟩
  · by_cases h : root = -1
    · rw [h, lo_heap, if_pos rfl]; omega
    · have := C.root (by omega)
      have e := lo_at (root := root) (O := O) (n := n) (i := root.toNat) (by omega)
      rw [show ((root.toNat : Nat) : Int) = root by omega] at e
      rw [e]; exact this
  · obtain ⟨s1, s2, s3, s4, s5, s6⟩ := S f hf
    have e := lo_at (root := root) (O := O) (n := n) (i := f.fr.toNat) (by omega)
    rw [show ((f.fr.toNat : Nat) : Int) = f.fr by omega] at e
    rw [e]
    have h2 := C.rng f.fr.toNat (by omega)
    have h3 := cntR_le O n
    rcases hc f hf with h | h
    · exact absurd h hto
    · omega
/-- How far it may still go. -/
def Phn (O : Nat → Int) : Nat → Nat
  | 0 => 0
  | m + 1 => Phn O m + wt 51200 (O m)
theorem phn_out {a : Nat} {d : Int} : ∀ {m : Nat}, m ≤ a → Phn (upf O a d) m = Phn O m
  | 0, _ => rfl
  | m + 1, h => by simp only [Phn]; rw [phn_out (m := m) (by omega), upf_other O d (show m ≠ a by omega)]
theorem phn_upd {a : Nat} {d : Int} : ∀ {m : Nat}, a < m → Phn (upf O a d) m + wt 51200 (O a) = Phn O m + wt 51200 d
  | 0, h => by omega
  | m + 1, h => by
    by_cases e : a = m
    · subst e; simp only [Phn, upf_same, phn_out (Nat.le_refl a)]; omega
    · have := phn_upd (a := a) (d := d) (m := m) (by omega)
      simp only [Phn, upf_other O d (show m ≠ a by omega)]; omega
theorem phn_less {a m : Nat} {d : Int} (ha : a < m) (hd : -1 ≤ d) (hB : d ≤ 51200) (h : O a = -2 ∨ d < O a) : Phn (upf O a d) m + 1 ≤ Phn O m := by
  have h1 := phn_upd (O := O) (d := d) ha
  have h2 : wt 51200 d + 1 ≤ wt 51200 (O a) := by
    unfold wt
    split <;> split <;> omega
  omega
end
end Go.Proofs.Ytlbildodjnjniaa
