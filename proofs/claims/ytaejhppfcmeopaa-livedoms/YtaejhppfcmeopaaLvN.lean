/- Sets walked through: what is needed, as plain mathematics. -/
import Derived.Test.YtaejhppfcmeopaaLvM
namespace Go.Proofs.Ytaejhppfcmeopaa

/-- Of a set the numbers, rising. -/
def elemsT (m n : Nat) : List Nat := (List.range n).filter m.testBit
def elems (m : Nat) : List Nat := elemsT m 512
theorem elemsT_mem {m n i : Nat} : i ∈ elemsT m n ↔ i < n ∧ m.testBit i = true := by simp [elemsT]
theorem elems_mem {m i : Nat} : i ∈ elems m ↔ i < 512 ∧ m.testBit i = true := elemsT_mem
theorem elemsT_skip {m x : Nat} (h : m.testBit x = false) : elemsT m (x + 1) = elemsT m x := by simp [elemsT, List.range_succ, h]
theorem elemsT_step {m x : Nat} (h : m.testBit x = true) : elemsT m (x + 1) = elemsT m x ++ [x] := by simp [elemsT, List.range_succ, h]
/-- How many below n are so. -/
def cntF (p : Nat → Bool) : Nat → Nat
  | 0 => 0
  | n + 1 => cntF p n + if p n then 1 else 0
theorem cntF_le {p q : Nat → Bool} : ∀ n, (∀ i, i < n → p i = true → q i = true) → cntF p n ≤ cntF q n
  | 0, _ => Nat.le_refl _
  | n + 1, h => by
    have h1 := cntF_le n (fun i hi => h i (by omega))
    have h2 := h n (by omega)
    unfold cntF
    by_cases e : p n = true
    · rw [if_pos e, if_pos (h2 e)]; omega
    · rw [if_neg e]; omega
theorem cntF_lt {p q : Nat → Bool} {x : Nat} : ∀ n, x < n → (∀ i, i < n → p i = true → q i = true) → p x = false → q x = true → cntF p n < cntF q n
  | 0, h, _, _, _ => by omega
  | n + 1, hx, h, h1, h2 => by
    unfold cntF
    by_cases e : x = n
    · subst e
      have := cntF_le (p := p) (q := q) x (fun i hi => h i (by omega))
      rw [h1, h2]
      simp; omega
    · have h3 := cntF_lt n (by omega) (fun i hi => h i (by omega)) h1 h2
      have h4 := h n (by omega)
      by_cases e : p n = true
      · rw [if_pos e, if_pos (h4 e)]; omega
      · rw [if_neg e]; omega
theorem cntF_max (p : Nat → Bool) : ∀ n, cntF p n ≤ n
  | 0 => Nat.le_refl _
  | n + 1 => by
    have := cntF_max p n
    unfold cntF
    split <;> omega
/-- How many are not in a set. -/
def un (a : Nat) : Nat := cntF (fun i => !a.testBit i) 512
def Sbs (a b : Nat) : Prop := ∀ i, a.testBit i = true → b.testBit i = true
theorem Sbs.refl (a : Nat) : Sbs a a := fun _ h => h
theorem Sbs.trans {a b c : Nat} (h : Sbs a b) (g : Sbs b c) : Sbs a c := fun i hi => g i (h i hi)
theorem sub_or (a b : Nat) : Sbs a (a ||| b) := fun i h => by rw [Nat.testBit_or, h]; rfl
theorem un_le {a b : Nat} (h : Sbs a b) : un b ≤ un a := cntF_le _ fun i _ hi => by
  cases e : a.testBit i with
  | false => rfl
  | true => rw [h i e] at hi; cases hi
theorem un_add {a x : Nat} (hx : x < 512) (h : a.testBit x = false) : un (a ||| 2 ^ x) < un a := cntF_lt 512 hx (fun i _ hi => by
    cases e : a.testBit i with
    | false => rfl
    | true => rw [sub_or a (2 ^ x) i e] at hi; cases hi) (by rw [Nat.testBit_or, Nat.testBit_two_pow]; simp) (by rw [h]; rfl)
theorem un_max (a : Nat) : un a ≤ 512 := cntF_max _ _
/-- need: a block ahead of which a variable is needed; what goes on there. -/
def ndF (P : Nat → Nat) (D : Nat) : Nat → Nat → Nat × Nat → Nat × Nat
  | 0, _, s => s
  | k + 1, x, s => bif s.1.testBit x then s else (elems (less (less (P x) s.2) D)).foldl (fun s y => ndF P D k y s) (s.1 ||| 2 ^ x, s.2 ||| less (P x) s.2)
def ndL (P : Nat → Nat) (D k : Nat) (l : List Nat) (s : Nat × Nat) : Nat × Nat := l.foldl (fun s y => ndF P D k y s) s
theorem ndL_nil (P : Nat → Nat) (D k : Nat) (s : Nat × Nat) : ndL P D k [] s = s := rfl
theorem ndL_cons (P : Nat → Nat) (D k x : Nat) (l : List Nat) (s : Nat × Nat) : ndL P D k (x :: l) s = ndL P D k l (ndF P D k x s) := rfl
theorem ndL_snoc (P : Nat → Nat) (D k x : Nat) (l : List Nat) (s : Nat × Nat) : ndL P D k (l ++ [x]) s = ndF P D k x (ndL P D k l s) := by simp [ndL]
theorem ndF_in {P : Nat → Nat} {D k x : Nat} {s : Nat × Nat} (h : s.1.testBit x = true) : ndF P D (k + 1) x s = s := by simp [ndF, h]
theorem ndF_new {P : Nat → Nat} {D k x : Nat} {s : Nat × Nat} (h : s.1.testBit x = false) : ndF P D (k + 1) x s = ndL P D k (elems (less (less (P x) s.2) D)) (s.1 ||| 2 ^ x, s.2 ||| less (P x) s.2) := by simp [ndF, ndL, h]
section
variable {P : Nat → Nat} {D : Nat}
mutual
theorem ndF_keeps (hP : ∀ t, Sm (P t)) : ∀ (k x : Nat) (s : Nat × Nat), x < 512 → Sm s.1 → Sm s.2 → Sm (ndF P D k x s).1 ∧ Sm (ndF P D k x s).2 ∧ Sbs s.1 (ndF P D k x s).1
  | 0, _, _, _, h1, h2 => ⟨h1, h2, Sbs.refl _⟩
  | k + 1, x, s, hx, h1, h2 => by
    cases h : s.1.testBit x with
    | true => rw [ndF_in h]; exact ⟨h1, h2, Sbs.refl _⟩
    | false =>
      rw [ndF_new h]
      obtain ⟨a, b, c⟩ := ndL_keeps hP k (elems (less (less (P x) s.2) D)) (s.1 ||| 2 ^ x, s.2 ||| less (P x) s.2) (fun y hy => (elems_mem.mp hy).1) (h1.add hx) (h2.or (less_sm _ _))
      exact ⟨a, b, (sub_or _ _).trans c⟩
theorem ndL_keeps (hP : ∀ t, Sm (P t)) : ∀ (k : Nat) (l : List Nat) (s : Nat × Nat), (∀ y ∈ l, y < 512) → Sm s.1 → Sm s.2 → Sm (ndL P D k l s).1 ∧ Sm (ndL P D k l s).2 ∧ Sbs s.1 (ndL P D k l s).1
  | _, [], _, _, h1, h2 => ⟨h1, h2, Sbs.refl _⟩
  | k, y :: l, s, hl, h1, h2 => by
    rw [ndL_cons]
    obtain ⟨a, b, c⟩ := ndF_keeps hP k y s (hl y (by simp)) h1 h2
    obtain ⟨a', b', c'⟩ := ndL_keeps hP k l _ (fun z hz => hl z (by simp [hz])) a b
    exact ⟨a', b', c.trans c'⟩
end
end
/-- Ahead of which blocks something is needed. -/
inductive Rch (P : Nat → Nat) (D U : Nat) : Nat → Prop
  | use {b : Nat} : U.testBit b = true → Rch P D U b
  | step {b c : Nat} : Rch P D U c → (P c).testBit b = true → D.testBit b = false → Rch P D U b
/-- What holds between two steps, Q being those that wait. -/
structure NI (P : Nat → Nat) (D U : Nat) (s : Nat × Nat) (Q : Nat → Prop) : Prop where
  sa : Sm s.1
  sb : Sm s.2
  c1 : ∀ c b, s.1.testBit c = true → (P c).testBit b = true → s.2.testBit b = true
  c2 : ∀ b, s.2.testBit b = true → D.testBit b = true ∨ s.1.testBit b = true ∨ Q b
  r1 : ∀ c, s.1.testBit c = true → Rch P D U c
  r2 : ∀ b, s.2.testBit b = true → ∃ c, Rch P D U c ∧ (P c).testBit b = true
section
variable {P : Nat → Nat} {D U : Nat}
theorem NI.weak {s : Nat × Nat} {Q Q' : Nat → Prop} (I : NI P D U s Q) (h : ∀ b, Q b → s.1.testBit b = true ∨ Q' b) : NI P D U s Q' :=
  ⟨I.sa, I.sb, I.c1, fun b hb => by
    rcases I.c2 b hb with h1 | h1 | h1
    · exact .inl h1
    · exact .inr (.inl h1)
    · rcases h b h1 with h2 | h2
      · exact .inr (.inl h2)
      · exact .inr (.inr h2), I.r1, I.r2⟩
variable {u : Nat → Nat} (uu : (∀ a b, Sbs a b → u b ≤ u a) ∧ ∀ a x, x < 512 → a.testBit x = false → u (a ||| 2 ^ x) < u a)
include uu
mutual
theorem ndF_inv (hP : ∀ t, Sm (P t)) : ∀ (k x : Nat) (s : Nat × Nat) (Q : Nat → Prop), u s.1 < k → x < 512 → Rch P D U x → NI P D U s (fun b => b = x ∨ Q b) → NI P D U (ndF P D k x s) Q ∧ (ndF P D k x s).1.testBit x = true
  | 0, _, _, _, h, _, _, _ => absurd h (Nat.not_lt_zero _)
  | k + 1, x, s, Q, hu, hx, hr, I => by
    cases h : s.1.testBit x with
    | true =>
      rw [ndF_in h]
      exact ⟨I.weak fun b hb => by
        rcases hb with rfl | hb
        · exact .inl h
        · exact .inr hb, h⟩
    | false =>
      rw [ndF_new h]
      have hfr : ∀ b, (less (P x) s.2).testBit b = ((P x).testBit b && !s.2.testBit b) := less_bit (hP x)
      have hw : ∀ b, (less (less (P x) s.2) D).testBit b = ((less (P x) s.2).testBit b && !D.testBit b) := less_bit (less_sm _ _)
      have hin : (s.1 ||| 2 ^ x).testBit x = true := by rw [Nat.testBit_or, Nat.testBit_two_pow]; simp
      have I2 : NI P D U (s.1 ||| 2 ^ x, s.2 ||| less (P x) s.2) (fun b => b ∈ elems (less (less (P x) s.2) D) ∨ Q b) := by
        refine ⟨I.sa.add hx, I.sb.or (less_sm _ _), fun c b hc hb => ?_, fun b hb => ?_, fun c hc => ?_, fun b hb => ?_⟩
        · rw [Nat.testBit_or, Nat.testBit_two_pow] at hc
          show (s.2 ||| less (P x) s.2).testBit b = true
          rw [Nat.testBit_or, hfr]
          cases e : s.2.testBit b with
          | true => rfl
          | false =>
            rw [Bool.or_eq_true] at hc
            rcases hc with hc | hc
            · rw [I.c1 c b hc hb] at e; cases e
            · have : x = c := by simpa using hc
              subst this
              rw [hb]; rfl
        · change (s.2 ||| less (P x) s.2).testBit b = true at hb
          rw [Nat.testBit_or, Bool.or_eq_true] at hb
          rcases hb with hb | hb
          · rcases I.c2 b hb with h1 | h1 | h1
            · exact .inl h1
            · exact .inr (.inl (sub_or _ _ b h1))
            · rcases h1 with rfl | h1
              · exact .inr (.inl hin)
              · exact .inr (.inr (.inr h1))
          · cases e : D.testBit b with
            | true => exact .inl rfl
            | false => exact .inr (.inr (.inl (elems_mem.mpr ⟨(less_sm _ _).lt hb, by rw [hw, hb, e]; rfl⟩)))
        · change (s.1 ||| 2 ^ x).testBit c = true at hc
          rw [Nat.testBit_or, Nat.testBit_two_pow, Bool.or_eq_true] at hc
          rcases hc with hc | hc
          · exact I.r1 c hc
          · have : x = c := by simpa using hc
            subst this; exact hr
        · change (s.2 ||| less (P x) s.2).testBit b = true at hb
          rw [Nat.testBit_or, Bool.or_eq_true] at hb
          rcases hb with hb | hb
          · exact I.r2 b hb
          · rw [hfr, Bool.and_eq_true] at hb
            exact ⟨x, hr, hb.1⟩
      have hl : ∀ y ∈ elems (less (less (P x) s.2) D), y < 512 ∧ Rch P D U y := fun y hy => by
        obtain ⟨h1, h2⟩ := elems_mem.mp hy
        rw [hw, hfr, Bool.and_eq_true, Bool.and_eq_true] at h2
        exact ⟨h1, .step hr h2.1.1 (by simpa using h2.2)⟩
      obtain ⟨J, _⟩ := ndL_inv hP k _ _ Q (Nat.lt_of_lt_of_le (uu.2 _ _ hx h) (Nat.le_of_lt_succ hu)) hl I2
      exact ⟨J, (ndL_keeps hP k _ _ (fun y hy => (hl y hy).1) I2.sa I2.sb).2.2 x hin⟩
theorem ndL_inv (hP : ∀ t, Sm (P t)) : ∀ (k : Nat) (l : List Nat) (s : Nat × Nat) (Q : Nat → Prop), u s.1 < k → (∀ y ∈ l, y < 512 ∧ Rch P D U y) → NI P D U s (fun b => b ∈ l ∨ Q b) → NI P D U (ndL P D k l s) Q ∧ ∀ y ∈ l, (ndL P D k l s).1.testBit y = true
  | _, [], _, _, _, _, I => ⟨I.weak fun b hb => .inr (by simpa using hb), by simp⟩
  | k, y :: l, s, Q, hu, hl, I => by
    rw [ndL_cons]
    obtain ⟨h1, h2⟩ := hl y (by simp)
    obtain ⟨J, hy⟩ := ndF_inv hP k y s (fun b => b ∈ l ∨ Q b) hu h1 h2 (I.weak fun b hb => by simp at hb; exact .inr (by simpa [or_assoc] using hb))
    have hs := (ndF_keeps (D := D) hP k y s h1 I.sa I.sb).2.2
    obtain ⟨K, hk⟩ := ndL_inv hP k l _ Q (Nat.lt_of_le_of_lt (uu.1 _ _ hs) hu) (fun z hz => hl z (by simp [hz])) J
    refine ⟨K, fun z hz => ?_⟩
    rcases List.mem_cons.mp hz with rfl | hz
    · exact (ndL_keeps hP k l _ (fun z hz => (hl z (by simp [hz])).1) J.sa J.sb).2.2 _ hy
    · exact hk z hz
end
end
section
variable {P : Nat → Nat} {D U : Nat}
theorem Rch.lt (hP : ∀ t, Sm (P t)) (hU : Sm U) {b : Nat} (h : Rch P D U b) : b < 512 := by
  cases h with
  | use h => exact hU.lt h
  | step _ h _ => exact (hP _).lt h
/-- What is needed, in the end. -/
theorem nd_spec (hP : ∀ t, Sm (P t)) (hU : Sm U) {k : Nat} (hk : 512 < k) : (∀ b, (ndL P D k (elems U) (0, 0)).1.testBit b = true ↔ Rch P D U b) ∧ ∀ b, (ndL P D k (elems U) (0, 0)).2.testBit b = true ↔ ∃ c, Rch P D U c ∧ (P c).testBit b = true := by
  have I0 : NI P D U (0, 0) (fun b => b ∈ elems U ∨ False) := ⟨sm_zero, sm_zero, fun c b hc => by simp at hc, fun b hb => by simp at hb, fun c hc => by simp at hc, fun b hb => by simp at hb⟩
  obtain ⟨I, hu⟩ := ndL_inv (U := U) (u := un) ⟨fun _ _ => un_le, fun _ _ => un_add⟩ hP k (elems U) (0, 0) (fun _ => False) (Nat.lt_of_le_of_lt (un_max _) hk) (fun y hy => ⟨(elems_mem.mp hy).1, .use (elems_mem.mp hy).2⟩) I0
  have hall : ∀ b, Rch P D U b → (ndL P D k (elems U) (0, 0)).1.testBit b = true := fun b hr => by
    induction hr with
    | use h => exact hu _ (elems_mem.mpr ⟨hU.lt h, h⟩)
    | @step b c h1 h2 h3 ih =>
      rcases I.c2 b (I.c1 c b ih h2) with h | h | h
      · rw [h3] at h; cases h
      · exact h
      · exact h.elim
  exact ⟨fun b => ⟨I.r1 b, hall b⟩, fun b => ⟨I.r2 b, fun ⟨c, h1, h2⟩ => I.c1 c b (hall c h1) h2⟩⟩
end
end Go.Proofs.Ytaejhppfcmeopaa
