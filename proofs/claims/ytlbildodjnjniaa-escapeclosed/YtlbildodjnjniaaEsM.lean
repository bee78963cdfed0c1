/- Points and flows as plain mathematics: what comes to a root, with how much; what escapes. -/
import Derived.Test.YtlbildodjnjniaaChecked
namespace Go.Proofs.Ytlbildodjnjniaa

/-- A flow: to gets from, dereferenced so many times. -/
structure Fl where
  to : Int
  fr : Int
  rf : Int
/-- A point. -/
structure Pt where
  d : Int
  a : Bool
instance : Inhabited Fl := ⟨⟨0, 0, 0⟩⟩
instance : Inhabited Pt := ⟨⟨0, false⟩⟩
/-- The flows of a sound graph of n points. -/
def Snd (n : Nat) (fs : List Fl) : Prop := ∀ f ∈ fs, -1 ≤ f.to ∧ f.to < n ∧ 0 ≤ f.fr ∧ f.fr < n ∧ -1 ≤ f.rf ∧ f.rf ≤ 100
/-- A node comes to the root with d, where what is more than B counts as B. -/
inductive Way (fs : List Fl) (B root : Int) : Int → Int → Prop
  | root : Way fs B root root 0
  | step {f : Fl} {d : Int} : f ∈ fs → Way fs B root f.to d → Way fs B root f.fr (min (max d 0 + f.rf) B)
theorem Way.mono {fs fs' : List Fl} {B root v d : Int} (h : Way fs B root v d) (hs : ∀ f ∈ fs, f ∈ fs') : Way fs' B root v d := by
  induction h with
  | root => exact .root
  | step hf _ ih => exact .step (hs _ hf) ih
theorem Way.ge {n : Nat} {fs : List Fl} {B root v d : Int} (S : Snd n fs) (hB : -1 ≤ B) (h : Way fs B root v d) : -1 ≤ d := by
  cases h with
  | root => omega
  | step hf _ => have := S _ hf; omega
theorem Way.le {fs : List Fl} {B root v d : Int} (hB : 0 ≤ B) (h : Way fs B root v d) : d ≤ B := by
  cases h with
  | root => omega
  | step hf _ => omega
theorem Way.dom {n : Nat} {fs : List Fl} {B root v d : Int} (S : Snd n fs) (h : Way fs B root v d) : (v = root ∧ d = 0) ∨ (0 ≤ v ∧ v < n) := by
  cases h with
  | root => exact .inl ⟨rfl, rfl⟩
  | step hf _ => have := S _ hf; exact .inr ⟨by omega, by omega⟩
/-- Of each node the least with which it comes to the root; -2: it does not. -/
structure Lst (fs : List Fl) (B root : Int) (l : Int → Int) : Prop where
  way : ∀ v, l v ≠ -2 → Way fs B root v (l v)
  root : l root ≠ -2 ∧ l root ≤ 0
  closed : ∀ f ∈ fs, l f.to ≠ -2 → l f.fr ≠ -2 ∧ l f.fr ≤ min (max (l f.to) 0 + f.rf) B
section
variable {n : Nat} {fs : List Fl} {B B' root v d : Int} {l l' : Int → Int}
theorem Lst.le (L : Lst fs B root l) (h : Way fs B' root v d) (hB : B ≤ B') : l v ≠ -2 ∧ l v ≤ d := by
  induction h with
  | root => exact L.root
  | step hf _ ih =>
    have := L.closed _ hf ih.1
    exact ⟨this.1, by omega⟩
theorem Lst.eq (L : Lst fs B root l) (L' : Lst fs B root l') (v : Int) : l v = l' v := by
  by_cases h : l v = -2
  · by_cases h' : l' v = -2
    · rw [h, h']
    · exact absurd h (L.le (L'.way v h') (Int.le_refl _)).1
  · have h1 := L'.le (L.way v h) (Int.le_refl _)
    have h2 := L.le (L'.way v h1.1) (Int.le_refl _)
    omega
theorem Lst.ge (L : Lst fs B root l) (S : Snd n fs) (hB : -1 ≤ B) (v : Int) : -2 ≤ l v := by
  by_cases h : l v = -2
  · omega
  · have := (L.way v h).ge S hB; omega
/-- Is there a point with m? -/
def anyAt (l : Int → Int) (n : Nat) (m : Int) : Bool := (List.range n).any fun (v : Nat) => decide (l (v : Int) = m)
/-- How many of 1 to m some point has. -/
def rank (l : Int → Int) (n : Nat) : Nat → Nat
  | 0 => 0
  | m + 1 => rank l n m + if anyAt l n ((m : Int) + 1) = true then 1 else 0
theorem rank_mono {m m' : Nat} (h : m ≤ m') : rank l n m ≤ rank l n m' := by
  induction h with
  | refl => exact Nat.le_refl _
  | step _ ih => exact Nat.le_trans ih (by simp only [rank]; omega)
theorem rank_add (m r : Nat) : rank l n (m + r) ≤ rank l n m + r := by
  induction r with
  | zero => exact Nat.le_refl _
  | succ r ih =>
    have : rank l n (m + r + 1) ≤ rank l n (m + r) + 1 := by simp only [rank]; split <;> omega
    rw [← Nat.add_assoc]; omega
theorem rank_pred {m v : Nat} (hv : v < n) (h : l v = (m : Int) + 1) : rank l n (m + 1) = rank l n m + 1 := by
  have : anyAt l n ((m : Int) + 1) = true := by
    unfold anyAt
    rw [List.any_eq_true]
    exact ⟨v, List.mem_range.2 hv, by simpa using h⟩
  simp [rank, this]
/-- So many points have 1 to m. -/
theorem rank_count (m : Nat) : rank l n m ≤ (List.range n).countP fun (v : Nat) => decide (1 ≤ l v ∧ l v ≤ m) := by
  induction m with
  | zero => simp [rank]
  | succ m ih =>
    have hsplit : ((List.range n).countP fun (v : Nat) => decide (1 ≤ l v ∧ l v ≤ ((m + 1 : Nat) : Int))) = ((List.range n).countP fun (v : Nat) => decide (1 ≤ l v ∧ l v ≤ m)) + ((List.range n).countP fun (v : Nat) => decide (l v = (m : Int) + 1)) := by
      generalize List.range n = xs
      induction xs with
      | nil => rfl
      | cons x r ih2 =>
        simp only [List.countP_cons, ih2]
        by_cases h1 : l x = (m : Int) + 1
        · have a1 : decide (1 ≤ l x ∧ l x ≤ ((m + 1 : Nat) : Int)) = true := by simp; omega
          have a2 : decide (1 ≤ l x ∧ l x ≤ (m : Int)) = false := by simp; omega
          have a3 : decide (l x = (m : Int) + 1) = true := by simpa using h1
          simp only [a1, a2, a3]; simp; omega
        · have a3 : decide (l x = (m : Int) + 1) = false := by simpa using h1
          by_cases h2 : 1 ≤ l x ∧ l x ≤ (m : Int)
          · have a1 : decide (1 ≤ l x ∧ l x ≤ ((m + 1 : Nat) : Int)) = true := by simp; omega
            have a2 : decide (1 ≤ l x ∧ l x ≤ (m : Int)) = true := by simpa using h2
            simp only [a1, a2, a3]; simp; omega
          · have a1 : decide (1 ≤ l x ∧ l x ≤ ((m + 1 : Nat) : Int)) = false := by simp; omega
            have a2 : decide (1 ≤ l x ∧ l x ≤ (m : Int)) = false := by simpa using h2
            simp only [a1, a2, a3]; simp
    rw [hsplit]
    by_cases h : anyAt l n ((m : Int) + 1) = true
    · have : 0 < (List.range n).countP fun (v : Nat) => decide (l v = (m : Int) + 1) := by
        rw [List.countP_pos_iff]
        unfold anyAt at h
        rw [List.any_eq_true] at h
        exact h
      simp only [rank, h, if_true]; omega
    · simp only [rank, if_neg h]; omega
theorem rank_le (m : Nat) : rank l n m ≤ n := by
  have h1 := rank_count (l := l) (n := n) m
  have h2 := List.countP_le_length (p := fun (v : Nat) => decide (1 ≤ l v ∧ l v ≤ m)) (l := List.range n)
  rw [List.length_range] at h2
  omega
/-- A least pressed together: below 0 it is -1, else as many as are not above it. -/
def press (l : Int → Int) (n : Nat) (x : Int) : Int := if x < 0 then -1 else (rank l n x.toNat : Nat)
/-- Where there are no more points than the bound, pressing together is no more than what a way with that bound has. -/
theorem press_way {B1 : Int} (S : Snd n fs) (L : Lst fs B1 root l) (hB1 : 0 ≤ B1) (hn : (n : Int) ≤ B) (h : Way fs B root v d) : l v ≠ -2 ∧ press l n (l v) ≤ d := by
  induction h with
  | root =>
    refine ⟨L.root.1, ?_⟩
    have h1 := L.root.2
    unfold press
    split
    · omega
    · have : (l root).toNat = 0 := by omega
      rw [this]; simp [rank]
  | @step f d hf hw ih =>
    obtain ⟨i1, i2⟩ := ih
    obtain ⟨c1, c2⟩ := L.closed _ hf i1
    refine ⟨c1, ?_⟩
    obtain ⟨s1, s2, s3, s4, s5, s6⟩ := S _ hf
    have g2 := (L.way _ i1).ge S (by omega)
    have hrl := rank_le (l := l) (n := n) (l f.fr).toNat
    by_cases hneg : l f.fr < 0
    · have hd := hw.ge S (by omega)
      unfold press; rw [if_pos hneg]; omega
    · have e1 : press l n (l f.fr) = (rank l n (l f.fr).toNat : Nat) := by unfold press; rw [if_neg hneg]
      rw [e1]
      have hlefr : l f.fr ≤ max (l f.to) 0 + f.rf := by omega
      have hB : ((rank l n (l f.fr).toNat : Nat) : Int) ≤ B := by omega
      suffices hh : ((rank l n (l f.fr).toNat : Nat) : Int) ≤ max d 0 + f.rf by omega
      by_cases hto : l f.to < 0
      · -- the address of to
        have hr0 : 0 ≤ f.rf := by omega
        have h1 := rank_add (l := l) (n := n) 0 f.rf.toNat
        have h2 : rank l n (l f.fr).toNat ≤ rank l n (0 + f.rf.toNat) := rank_mono (by omega)
        simp only [rank] at h1
        omega
      · have e2 : press l n (l f.to) = (rank l n (l f.to).toNat : Nat) := by unfold press; rw [if_neg hto]
        rw [e2] at i2
        by_cases hr : 0 ≤ f.rf
        · have h1 := rank_add (l := l) (n := n) (l f.to).toNat f.rf.toNat
          have h2 : rank l n (l f.fr).toNat ≤ rank l n ((l f.to).toNat + f.rf.toNat) := rank_mono (by omega)
          omega
        · have hr1 : f.rf = -1 := by omega
          -- to has at least 1, so it is a point
          have hto1 : 1 ≤ l f.to := by omega
          have hdom := (L.way _ i1).dom S
          have hv : 0 ≤ f.to ∧ f.to < n := by
            rcases hdom with ⟨e, h0⟩ | h
            · omega
            · exact h
          have h1 := rank_pred (l := l) (n := n) (m := (l f.to).toNat - 1) (v := f.to.toNat) (by omega) (by rw [show ((f.to.toNat : Nat) : Int) = f.to by omega]; omega)
          rw [show (l f.to).toNat - 1 + 1 = (l f.to).toNat by omega] at h1
          have h2 : rank l n (l f.fr).toNat ≤ rank l n ((l f.to).toNat - 1) := rank_mono (by omega)
          omega
/-- Whose addresses come does not hang on the bound, where that is no less than there are points. -/
theorem cap_iff {B1 B2 : Int} {l1 l2 : Int → Int} (S : Snd n fs) (L1 : Lst fs B1 root l1) (L2 : Lst fs B2 root l2) (hn : (n : Int) ≤ B2) (hB : B2 ≤ B1) (v : Int) : l1 v = -1 ↔ l2 v = -1 := by
  constructor
  · intro h
    have h1 := L1.way v (by omega)
    have h2 := L2.le h1 hB
    have h3 := (L2.way v h2.1).ge S (by omega)
    omega
  · intro h
    have h1 := press_way S L1 (by omega) hn (L2.way v (by omega))
    rw [h] at h1
    have h3 := (L1.way v h1.1).ge S (by omega)
    have h4 := h1.2
    unfold press at h4
    split at h4 <;> omega
end
/-- The address of x comes to r. -/
def Hld (fs : List Fl) (r x : Int) : Prop := Way fs 51200 r x (-1)
theorem hld_iff {n : Nat} {fs : List Fl} {B r x : Int} {l : Int → Int} (S : Snd n fs) (L : Lst fs B r l) {l' : Int → Int} (L' : Lst fs 51200 r l') (hn : (n : Int) ≤ B) (hB : B ≤ 51200) : Hld fs r x ↔ l x = -1 := by
  rw [← cap_iff S L' L hn hB]
  constructor
  · intro h
    have h1 := L'.le h (Int.le_refl _)
    have h2 := (L'.way x h1.1).ge S (by omega)
    omega
  · intro h
    have := L'.way x (by omega)
    rw [h] at this; exact this
/-- What escapes. -/
inductive Esc (ps : List Pt) (fs : List Fl) : Nat → Prop
  | heap {x : Nat} : Hld fs (-1) x → Esc ps fs x
  | deep {r x : Nat} {p q : Pt} : ps[r]? = some p → ps[x]? = some q → Hld fs r x → p.d < q.d → Esc ps fs x
  | esc {r x : Nat} : r < ps.length → Hld fs r x → Esc ps fs r → Esc ps fs x
theorem Esc.mono {ps : List Pt} {fs fs' : List Fl} {x : Nat} (h : Esc ps fs x) (hs : ∀ f ∈ fs, f ∈ fs') : Esc ps fs' x := by
  induction h with
  | heap h => exact .heap (h.mono hs)
  | deep h1 h2 h3 h4 => exact .deep h1 h2 (h3.mono hs) h4
  | esc h1 h2 _ ih => exact .esc h1 (h2.mono hs) ih
end Go.Proofs.Ytlbildodjnjniaa
