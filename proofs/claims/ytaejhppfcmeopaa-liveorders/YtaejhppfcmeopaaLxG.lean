/- What around comes to: plain. -/
import Derived.Test.YtaejhppfcmeopaaLxE
namespace Go.Proofs.Ytaejhppfcmeopaa
/-- What is seen after a visit. -/
def arF (P : Nat → Nat) : Nat → Nat → Nat → Nat
  | 0, _, s => s
  | k + 1, x, s => bif s.testBit x then s else (elems (less (P x) (s ||| 2 ^ x))).foldl (fun s y => arF P k y s) (s ||| 2 ^ x)
def arL (P : Nat → Nat) (k : Nat) (l : List Nat) (s : Nat) : Nat := l.foldl (fun s y => arF P k y s) s
section
variable {P : Nat → Nat}
theorem arL_nil (k : Nat) (s : Nat) : arL P k [] s = s := rfl
theorem arL_cons (k x : Nat) (l : List Nat) (s : Nat) : arL P k (x :: l) s = arL P k l (arF P k x s) := rfl
theorem arL_snoc (k x : Nat) (l : List Nat) (s : Nat) : arL P k (l ++ [x]) s = arF P k x (arL P k l s) := by simp [arL]
theorem arF_in {k x s : Nat} (h : s.testBit x = true) : arF P (k + 1) x s = s := by simp [arF, h]
theorem arF_new {k x s : Nat} (h : s.testBit x = false) : arF P (k + 1) x s = arL P k (elems (less (P x) (s ||| 2 ^ x))) (s ||| 2 ^ x) := by simp [arF, arL, h]
mutual
theorem arF_keeps : ∀ (k x s : Nat), x < 512 → Sm s → Sm (arF P k x s) ∧ Sbs s (arF P k x s)
  | 0, _, _, _, h1 => ⟨h1, Sbs.refl _⟩
  | k + 1, x, s, hx, h1 => by
    cases h : s.testBit x with
    | true => rw [arF_in h]; exact ⟨h1, Sbs.refl _⟩
    | false =>
      rw [arF_new h]
      obtain ⟨a, b⟩ := arL_keeps k (elems (less (P x) (s ||| 2 ^ x))) (s ||| 2 ^ x) (fun y hy => (elems_mem.mp hy).1) (h1.add hx)
      exact ⟨a, (sub_or _ _).trans b⟩
theorem arL_keeps : ∀ (k : Nat) (l : List Nat) (s : Nat), (∀ y ∈ l, y < 512) → Sm s → Sm (arL P k l s) ∧ Sbs s (arL P k l s)
  | _, [], _, _, h1 => ⟨h1, Sbs.refl _⟩
  | k, y :: l, s, hl, h1 => by
    rw [arL_cons]
    obtain ⟨a, b⟩ := arF_keeps k y s (hl y (by simp)) h1
    obtain ⟨a', b'⟩ := arL_keeps k l _ (fun z hz => hl z (by simp [hz])) a
    exact ⟨a', b.trans b'⟩
end
/-- What holds while around goes on: S has been begun and is not done. -/
structure Ag (E : Nat → List Nat) (P : Nat → Nat) (one s : Nat) (S : Nat → Prop) : Prop where
  on : s.testBit one = true
  so : ∀ z, s.testBit z = true → z = one ∨ Av E one z
  cl : ∀ z, s.testBit z = true → z ≠ one → ¬ S z → ∀ y, (P z).testBit y = true → s.testBit y = true
variable {E : Nat → List Nat} {one : Nat}
set_option maxRecDepth 100000 in
mutual
theorem arF_ag (hP : ∀ x, Sm (P x)) (hPE : ∀ x y, (P x).testBit y = true ↔ y ∈ E x) : ∀ (k x s : Nat) (S : Nat → Prop), un s < k → x < 512 → Ag E P one s S → (x ≠ one → Av E one x) → Ag E P one (arF P k x s) S ∧ Sbs s (arF P k x s) ∧ (arF P k x s).testBit x = true
  | 0, _, _, _, h, _, _, _ => absurd h (Nat.not_lt_zero _)
  | k + 1, x, s, S, hu, hx, I, hav => by
    cases h : s.testBit x with
    | true => rw [arF_in h]; exact ⟨I, Sbs.refl _, h⟩
    | false =>
      rw [arF_new h]
      have hne : x ≠ one := fun e => by have := I.on; rw [← e, h] at this; cases this
      have hx2 := hav hne
      have I1 : Ag E P one (s ||| 2 ^ x) (fun z => S z ∨ z = x) := by
        refine ⟨or_bit.mpr (.inl I.on), fun z hz => ?_, fun z hz h1 h2 y hy => ?_⟩
        · rcases or_bit.mp hz with hz | hz
          · exact I.so z hz
          · subst hz; exact .inr hx2
        · rcases or_bit.mp hz with hz | hz
          · exact or_bit.mpr (.inl (I.cl z hz h1 (fun hs => h2 (.inl hs)) y hy))
          · exact absurd (.inr hz) h2
      obtain ⟨J, hb, ha⟩ := arL_ag hP hPE k (elems (less (P x) (s ||| 2 ^ x))) (s ||| 2 ^ x) (fun z => S z ∨ z = x) (by have := un_add hx h; omega) I1 (fun y hy => by
        obtain ⟨h1, h2⟩ := elems_mem.mp hy
        rw [less_bit (hP x), Bool.and_eq_true, Bool.not_eq_true'] at h2
        exact ⟨h1, fun hne2 => .on hx2 ((hPE x y).mp h2.1) hne2⟩)
      refine ⟨⟨J.on, J.so, fun z hz h1 h2 y hy => ?_⟩, fun z hz => hb z (or_bit.mpr (.inl hz)), hb x (or_bit.mpr (.inr rfl))⟩
      by_cases e : z = x
      · subst e
        cases hs1 : (s ||| 2 ^ z).testBit y with
        | true => exact hb y hs1
        | false => exact ha y (elems_mem.mpr ⟨(hP z).lt hy, by rw [less_bit (hP z), hy, hs1]; rfl⟩)
      · exact J.cl z hz h1 (fun h3 => h3.elim h2 e) y hy
theorem arL_ag (hP : ∀ x, Sm (P x)) (hPE : ∀ x y, (P x).testBit y = true ↔ y ∈ E x) : ∀ (k : Nat) (l : List Nat) (s : Nat) (S : Nat → Prop), un s < k → Ag E P one s S → (∀ y ∈ l, y < 512 ∧ (y ≠ one → Av E one y)) → Ag E P one (arL P k l s) S ∧ Sbs s (arL P k l s) ∧ ∀ y ∈ l, (arL P k l s).testBit y = true
  | _, [], _, _, _, I, _ => ⟨I, Sbs.refl _, fun y hy => by cases hy⟩
  | k, y :: l, s, S, hu, I, hl => by
    rw [arL_cons]
    obtain ⟨h1, h2⟩ := hl y (List.mem_cons_self ..)
    obtain ⟨J, hb, hy⟩ := arF_ag hP hPE k y s S hu h1 I h2
    obtain ⟨J2, hb2, ha⟩ := arL_ag hP hPE k l (arF P k y s) S (Nat.lt_of_le_of_lt (un_le hb) hu) J (fun z hz => hl z (List.mem_cons_of_mem _ hz))
    refine ⟨J2, hb.trans hb2, fun z hz => ?_⟩
    rcases List.mem_cons.mp hz with rfl | hz
    · exact hb2 _ hy
    · exact ha z hz
end
/-- One block, and those to which there are ways that do not go through it. -/
def arP (P : Nat → Nat) (one : Nat) : Nat := arF P 600 0 (2 ^ one)
theorem arP_bit (hP : ∀ x, Sm (P x)) (hPE : ∀ x y, (P x).testBit y = true ↔ y ∈ E x) (one z : Nat) : (arP P one).testBit z = true ↔ z = one ∨ Av E one z := by
  have hbit : ∀ z, (2 ^ one).testBit z = true ↔ z = one := fun z => by
    rw [Nat.testBit_two_pow, decide_eq_true_eq]; exact ⟨Eq.symm, Eq.symm⟩
  obtain ⟨J, hb, h0⟩ := arF_ag (E := E) (one := one) hP hPE 600 0 (2 ^ one) (fun _ => False) (by have := un_max (2 ^ one); omega) (by omega)
    ⟨(hbit one).mpr rfl, fun z hz => .inl ((hbit z).mp hz), fun z hz h1 => absurd ((hbit z).mp hz) h1⟩ (fun h => .here h)
  unfold arP
  refine ⟨J.so z, fun h => ?_⟩
  rcases h with rfl | h
  · exact J.on
  · induction h with
    | here _ => exact h0
    | on hx hy _ ih => exact J.cl _ ih hx.ne id _ ((hPE _ _).mpr hy)
end
end Go.Proofs.Ytaejhppfcmeopaa
