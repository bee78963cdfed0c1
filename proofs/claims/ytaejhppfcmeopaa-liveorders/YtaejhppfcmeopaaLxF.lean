/- The blocks in the other order than they are done: what every way goes through stands ahead. -/
import Derived.Test.YtaejhppfcmeopaaLxE
import Derived.Test.YtaejhppfcmeopaaLwT
namespace Go.Proofs.Ytaejhppfcmeopaa
section
variable {E : Nat → List Nat}
/-- What holds while blocks are visited: S has been begun and is not done. -/
structure Dg (E : Nat → List Nat) (B : Nat) (D : List Nat) (S : Nat → Prop) : Prop where
  db : ∀ z ∈ D, B.testBit z = true
  sb : ∀ z, S z → B.testBit z = true
  bs : ∀ z, B.testBit z = true → z ∈ D ∨ S z
  sd : ∀ z, S z → z ∉ D
  g : D.Pairwise fun a y => Av E a y
  cm : ∀ z ∈ D, Cm E z
  cl : ∀ z ∈ D, ∀ y ∈ E z, B.testBit y = true
set_option maxRecDepth 100000 in
mutual
theorem vsF_dg (hE : ∀ x, ∀ y ∈ E x, y < 512) : ∀ (k x : Nat) (s : Nat × List Nat) (S : Nat → Prop), un s.1 < k → x < 512 → Dg E s.1 s.2 S → (∀ a, ¬ S a → a ≠ x → Av E a x) → Cm E x → Dg E (vsF E k x s).1 (vsF E k x s).2 S ∧ Sbs s.1 (vsF E k x s).1 ∧ (vsF E k x s).1.testBit x = true
  | 0, _, _, _, h, _, _, _, _ => absurd h (Nat.not_lt_zero _)
  | k + 1, x, s, S, hu, hx, I, hP, hc => by
    cases h : s.1.testBit x with
    | true => rw [vsF_in h]; exact ⟨I, Sbs.refl _, h⟩
    | false =>
      rw [vsF_new h]
      have hxD : x ∉ s.2 := fun hm => by have := I.db x hm; rw [h] at this; cases this
      have hxS : ¬ S x := fun hm => by have := I.sb x hm; rw [h] at this; cases this
      have I1 : Dg E (s.1 ||| 2 ^ x) s.2 (fun z => S z ∨ z = x) := by
        refine ⟨fun z hz => or_bit.mpr (.inl (I.db z hz)), fun z hz => or_bit.mpr (hz.imp_left (I.sb z)), fun z hz => ?_, fun z hz => ?_, I.g, I.cm, fun z hz y hy => or_bit.mpr (.inl (I.cl z hz y hy))⟩
        · rcases or_bit.mp hz with hz | hz
          · exact (I.bs z hz).imp_right .inl
          · exact .inr (.inr hz)
        · rcases hz with hz | hz
          · exact I.sd z hz
          · subst hz; exact hxD
      obtain ⟨J, hb, ha⟩ := vsL_dg hE k (E x) (s.1 ||| 2 ^ x, s.2) (fun z => S z ∨ z = x) (by have := un_add hx h; simp only; omega) I1 (fun y hy => ⟨hE x y hy, fun a hS hne => .on (hP a (fun h => hS (.inl h)) (fun e => hS (.inr e))) hy (fun e => hne e.symm), .on hc hy⟩)
      simp only at hb
      refine ⟨⟨fun z hz => ?_, fun z hz => J.sb z (.inl hz), fun z hz => ?_, fun z hz hm => ?_, ?_, fun z hz => ?_, fun z hz y hy => ?_⟩, fun z hz => hb z (or_bit.mpr (.inl hz)), hb x (or_bit.mpr (.inr rfl))⟩
      · rcases List.mem_append.mp hz with hz | hz
        · exact J.db z hz
        · rw [List.mem_singleton.mp hz]; exact hb x (or_bit.mpr (.inr rfl))
      · rcases J.bs z hz with h1 | h1 | h1
        · exact .inl (List.mem_append.mpr (.inl h1))
        · exact .inr h1
        · exact .inl (List.mem_append.mpr (.inr (List.mem_singleton.mpr h1)))
      · rcases List.mem_append.mp hm with h1 | h1
        · exact J.sd z (.inl hz) h1
        · rw [List.mem_singleton.mp h1] at hz; exact hxS hz
      · rw [List.pairwise_append]
        refine ⟨J.g, List.pairwise_singleton _ _, fun a ha2 y hy => ?_⟩
        rw [List.mem_singleton.mp hy]
        exact hP a (fun hS => J.sd a (.inl hS) ha2) (fun e => J.sd a (.inr e) ha2)
      · rcases List.mem_append.mp hz with hz | hz
        · exact J.cm z hz
        · rw [List.mem_singleton.mp hz]; exact hc
      · rcases List.mem_append.mp hz with hz | hz
        · exact J.cl z hz y hy
        · rw [List.mem_singleton.mp hz] at hy; exact ha y hy
theorem vsL_dg (hE : ∀ x, ∀ y ∈ E x, y < 512) : ∀ (k : Nat) (l : List Nat) (s : Nat × List Nat) (S : Nat → Prop), un s.1 < k → Dg E s.1 s.2 S → (∀ y ∈ l, y < 512 ∧ (∀ a, ¬ S a → a ≠ y → Av E a y) ∧ Cm E y) → Dg E (vsL E k l s).1 (vsL E k l s).2 S ∧ Sbs s.1 (vsL E k l s).1 ∧ ∀ y ∈ l, (vsL E k l s).1.testBit y = true
  | _, [], _, _, _, I, _ => ⟨I, Sbs.refl _, fun y hy => by cases hy⟩
  | k, y :: l, s, S, hu, I, hl => by
    rw [vsL_cons]
    obtain ⟨h1, h2, h3⟩ := hl y (List.mem_cons_self ..)
    obtain ⟨J, hb, hy⟩ := vsF_dg hE k y s S hu h1 I h2 h3
    obtain ⟨J2, hb2, ha⟩ := vsL_dg hE k l (vsF E k y s) S (Nat.lt_of_le_of_lt (un_le hb) hu) J (fun z hz => hl z (List.mem_cons_of_mem _ hz))
    refine ⟨J2, hb.trans hb2, fun z hz => ?_⟩
    rcases List.mem_cons.mp hz with rfl | hz
    · exact hb2 _ hy
    · exact ha z hz
end
/-- The blocks in the other order than they are done: what every way goes through stands ahead. -/
theorem rpo (hE : ∀ x, ∀ y ∈ E x, y < 512) : Rpo E (vsF E 600 0 (0, [])).2.reverse := by
  obtain ⟨J, _, h0⟩ := vsF_dg hE 600 0 (0, []) (fun _ => False) (by have := un_max 0; simp only; omega) (by omega)
    ⟨fun z hz => by simp at hz, fun z hz => hz.elim, fun z hz => by simp at hz, fun z hz => hz.elim, List.Pairwise.nil, fun z hz => by simp at hz, fun z hz => by simp at hz⟩ (fun a _ hne => .here (fun e => hne e.symm)) .here
  refine ⟨fun x => ⟨fun hx => J.cm x (List.mem_reverse.mp hx), fun hx => ?_⟩, List.pairwise_reverse.mpr J.g⟩
  rw [List.mem_reverse]
  induction hx with
  | here => exact (J.bs 0 h0).resolve_right id
  | on _ hy ih => exact (J.bs _ (J.cl _ ih _ hy)).resolve_right id
end
end Go.Proofs.Ytaejhppfcmeopaa
