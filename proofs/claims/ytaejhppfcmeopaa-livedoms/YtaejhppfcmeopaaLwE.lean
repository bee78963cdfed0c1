/- What is needed, by rounds: plain. -/
import Derived.Test.YtaejhppfcmeopaaLvY
namespace Go.Proofs.Ytaejhppfcmeopaa

/-- Is something needed behind a block, if it is ahead of those of I; ahead of it, then. -/
def bhP (b : Blk) (I : Nat → Bool) : Bool := b.n.any fun y => I y.toNat
def ahP (b : Blk) (v : Int) (I : Nat → Bool) : Bool := hasI b.u v || (bhP b I && !hasI b.d v)
theorem bhP_next {b : Blk} {I : Nat → Bool} {q : Nat} {y : Int} (h : b.n[q]? = some y) : ((b.n.take (q + 1)).any fun y => I y.toNat) = (((b.n.take q).any fun y => I y.toNat) || I y.toNat) := by
  rw [List.take_add_one, h]; simp
theorem bhP_mono {b : Blk} {I J : Nat → Bool} (h : ∀ i, I i = true → J i = true) (hb : bhP b I = true) : bhP b J = true := by
  unfold bhP at hb ⊢
  rw [List.any_eq_true] at hb ⊢
  obtain ⟨x, h1, h2⟩ := hb
  exact ⟨x, h1, h _ h2⟩
theorem ahP_mono {b : Blk} {v : Int} {I J : Nat → Bool} (h : ∀ i, I i = true → J i = true) (hb : ahP b v I = true) : ahP b v J = true := by
  simp only [ahP, Bool.or_eq_true, Bool.and_eq_true] at hb ⊢
  rcases hb with hb | ⟨h1, h2⟩
  · exact .inl hb
  · exact .inr ⟨bhP_mono h h1, h2⟩
def up (f : Nat → Bool) (i : Nat) (a : Bool) : Nat → Bool := fun j => if j = i then a else f j
/-- What holds of the truths between two steps. -/
structure Ti (bs : List Blk) (v : Nat) (I O : Nat → Bool) : Prop where
  si : ∀ i, I i = true → Need bs v i
  so : ∀ i, O i = true → Bhd bs v i
  mi : ∀ i b, bs[i]? = some b → I i = true → ahP b v I = true
  mo : ∀ i b, bs[i]? = some b → O i = true → bhP b I = true
theorem Ti.zero (bs : List Blk) (v : Nat) : Ti bs v (fun _ => false) (fun _ => false) := ⟨fun _ h => (by cases h), fun _ h => (by cases h), fun _ _ _ h => (by cases h), fun _ _ _ h => (by cases h)⟩
section
variable {bs : List Blk} {v K i : Nat} {I O : Nat → Bool} {b : Blk}
theorem Ti.bh (T : Ti bs v I O) (S : Snd bs K) (hb : bs[i]? = some b) (h : bhP b I = true) : Bhd bs v i := by
  unfold bhP at h
  rw [List.any_eq_true] at h
  obtain ⟨x, h1, h2⟩ := h
  obtain ⟨y, rfl, _⟩ := S.n i b hb x h1
  exact ⟨b, y, hb, h1, T.si y (by simpa using h2)⟩
theorem Ti.ah (T : Ti bs v I O) (S : Snd bs K) (hb : bs[i]? = some b) (h : ahP b v I = true) : Need bs v i := by
  simp only [ahP, Bool.or_eq_true, Bool.and_eq_true] at h
  rcases h with h | ⟨h1, h2⟩
  · exact .use hb (hasI_iff.mp h)
  · obtain ⟨b', j, e1, e2, e3⟩ := T.bh S hb h1
    rw [hb] at e1; cases e1
    have h3 : hasI b.d v = false := by simpa using h2
    exact .pass hb e2 (hasI_false.mp h3) e3
theorem up_same (f : Nat → Bool) (i : Nat) (a : Bool) : up f i a i = a := by simp [up]
theorem up_other (f : Nat → Bool) {i j : Nat} (a : Bool) (h : j ≠ i) : up f i a j = f j := by simp [up, h]
theorem up_ge {f : Nat → Bool} {i : Nat} {a : Bool} (h : f i = true → a = true) : ∀ j, f j = true → up f i a j = true := fun j hj => by
  by_cases e : j = i
  · subst e; rw [up_same]; exact h hj
  · rw [up_other _ _ e]; exact hj
/-- A step. -/
theorem Ti.step (T : Ti bs v I O) (S : Snd bs K) (hb : bs[i]? = some b) : Ti bs v (up I i (ahP b v I)) (up O i (bhP b I)) := by
  have hI := up_ge (a := ahP b v I) (T.mi i b hb)
  refine ⟨fun j hj => ?_, fun j hj => ?_, fun j c hc hj => ?_, fun j c hc hj => ?_⟩
  · by_cases e : j = i
    · subst e; rw [up_same] at hj; exact T.ah S hb hj
    · rw [up_other _ _ e] at hj; exact T.si j hj
  · by_cases e : j = i
    · subst e; rw [up_same] at hj; exact T.bh S hb hj
    · rw [up_other _ _ e] at hj; exact T.so j hj
  · refine ahP_mono hI ?_
    by_cases e : j = i
    · subst e; rw [up_same] at hj; rw [hb] at hc; cases hc; exact hj
    · rw [up_other _ _ e] at hj; exact T.mi j c hc hj
  · refine bhP_mono hI ?_
    by_cases e : j = i
    · subst e; rw [up_same] at hj; rw [hb] at hc; cases hc; exact hj
    · rw [up_other _ _ e] at hj; exact T.mo j c hc hj
/-- How many truths there are. -/
def cnt2 (I O : Nat → Bool) (n : Nat) : Nat := cntF I n + cntF O n
theorem cnt2_max (I O : Nat → Bool) (n : Nat) : cnt2 I O n ≤ 2 * n := by
  have := cntF_max I n
  have := cntF_max O n
  unfold cnt2; omega
/-- A step that changes something makes more. -/
theorem Ti.more (T : Ti bs v I O) (hb : bs[i]? = some b) {n : Nat} (hi : i < n) (h : ahP b v I ≠ I i ∨ bhP b I ≠ O i) : cnt2 I O n < cnt2 (up I i (ahP b v I)) (up O i (bhP b I)) n := by
  have h1 : cntF I n ≤ cntF (up I i (ahP b v I)) n := cntF_le n fun j _ hj => up_ge (T.mi i b hb) j hj
  have h2 : cntF O n ≤ cntF (up O i (bhP b I)) n := cntF_le n fun j _ hj => up_ge (T.mo i b hb) j hj
  unfold cnt2
  rcases h with h | h
  · have h3 : I i = false := by
      cases e : I i with
      | false => rfl
      | true => exact absurd ((T.mi i b hb e).trans e.symm) h
    have h4 : ahP b v I = true := by
      cases e : ahP b v I with
      | true => rfl
      | false => exact absurd (e.trans h3.symm) h
    have := cntF_lt (p := I) (q := up I i (ahP b v I)) (x := i) n hi (fun j _ hj => up_ge (T.mi i b hb) j hj) h3 (by rw [up_same]; exact h4)
    omega
  · have h3 : O i = false := by
      cases e : O i with
      | false => rfl
      | true => exact absurd ((T.mo i b hb e).trans e.symm) h
    have h4 : bhP b I = true := by
      cases e : bhP b I with
      | true => rfl
      | false => exact absurd (e.trans h3.symm) h
    have := cntF_lt (p := O) (q := up O i (bhP b I)) (x := i) n hi (fun j _ hj => up_ge (T.mo i b hb) j hj) h3 (by rw [up_same]; exact h4)
    omega
/-- Where nothing changes any more. -/
theorem Ti.fin (T : Ti bs v I O) (S : Snd bs K) (h : ∀ i b, bs[i]? = some b → ahP b v I = I i ∧ bhP b I = O i) : (∀ i, I i = (nd bs v).1.testBit i) ∧ ∀ i, i < bs.length → O i = (nd bs v).2.testBit i := by
  have hc : ∀ i, Need bs v i → I i = true := fun i hn => by
    induction hn with
    | use h1 h2 => rw [← (h _ _ h1).1]; simp [ahP, hasI_iff.mpr h2]
    | pass h1 h2 h3 _ ih =>
      rw [← (h _ _ h1).1]
      simp only [ahP, Bool.or_eq_true, Bool.and_eq_true]
      refine .inr ⟨?_, by rw [hasI_false.mpr h3]; rfl⟩
      unfold bhP
      rw [List.any_eq_true]
      exact ⟨_, h2, by simpa using ih⟩
  refine ⟨fun i => ?_, fun i hi => ?_⟩
  · rw [Bool.eq_iff_iff, nd_in S]
    exact ⟨T.si i, hc i⟩
  · rw [Bool.eq_iff_iff, nd_out S]
    refine ⟨T.so i, fun ⟨b, j, h1, h2, h3⟩ => ?_⟩
    rw [← (h _ _ h1).2]
    unfold bhP
    rw [List.any_eq_true]
    exact ⟨_, h2, by simpa using hc j h3⟩
end
end Go.Proofs.Ytaejhppfcmeopaa
