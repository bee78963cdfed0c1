/- What every way goes through: plain. -/
import Derived.Test.YtaejhppfcmeopaaLvG
namespace Go.Proofs.Ytaejhppfcmeopaa
section
variable (E : Nat → List Nat)
/-- What is come to from block 0 on a way that does not go through d. -/
inductive Av (d : Nat) : Nat → Prop
  | here : 0 ≠ d → Av d 0
  | on {x y : Nat} : Av d x → y ∈ E x → y ≠ d → Av d y
/-- What is come to from block 0. -/
inductive Cm : Nat → Prop
  | here : Cm 0
  | on {x y : Nat} : Cm x → y ∈ E x → Cm y
end
section
variable {E : Nat → List Nat} {a b c d x : Nat}
theorem Av.ne (h : Av E d x) : x ≠ d := by
  cases h with
  | here h => exact h
  | on _ _ h => exact h
theorem Av.cm (h : Av E d x) : Cm E x := by
  induction h with
  | here _ => exact .here
  | on _ h _ ih => exact .on ih h
theorem Av.none (h : Av E 0 x) : False := by
  induction h with
  | here h => exact h rfl
  | on _ _ _ ih => exact ih
theorem av_two (h : a ≠ c) (hac : Av E a c) (hca : Av E c a) (hx : Cm E x) : Av E a x ∨ Av E c x := by
  induction hx with
  | here =>
    by_cases e : 0 = a
    · exact .inr (.here (by omega))
    · exact .inl (.here e)
  | @on x y _ hy ih =>
    rcases ih with ih | ih
    · by_cases e : y = a
      · subst e; exact .inr hca
      · exact .inl (.on ih hy e)
    · by_cases e : y = c
      · subst e; exact .inl hac
      · exact .inr (.on ih hy e)
theorem cm_of (c : Nat) (hx : Cm E x) : Av E c x ∨ Cm E c := by
  induction hx with
  | here =>
    by_cases e : 0 = c
    · subst e; exact .inr .here
    · exact .inl (.here e)
  | @on x y hx hy ih =>
    rcases ih with ih | ih
    · by_cases e : y = c
      · subst e; exact .inr (.on hx hy)
      · exact .inl (.on ih hy e)
    · exact .inr ih
/-- Of two that every way goes through every way to one goes through the other. -/
theorem av_chain (hb : Cm E b) (h : a ≠ c) (ha : ¬ Av E a b) (hc : ¬ Av E c b) : ¬ Av E a c ∨ ¬ Av E c a := by
  by_cases h1 : Av E a c
  · by_cases h2 : Av E c a
    · rcases av_two h h1 h2 hb with h3 | h3
      · exact absurd h3 ha
      · exact absurd h3 hc
    · exact .inr h2
  · exact .inl h1
theorem av_trans (c : Nat) (h : Av E d b) : Av E c b ∨ Av E d c := by
  induction h with
  | here h =>
    by_cases e : 0 = c
    · subst e; exact .inr (.here h)
    · exact .inl (.here e)
  | @on x y hx hy hd ih =>
    rcases ih with ih | ih
    · by_cases e : y = c
      · subst e; exact .inr (.on hx hy hd)
      · exact .inl (.on ih hy e)
    · exact .inr ih
/-- Another one through which every way goes. -/
def Sd (E : Nat → List Nat) (b d : Nat) : Prop := Cm E b ∧ d ≠ b ∧ ¬ Av E d b
/-- The one of these that all others lie ahead of. -/
def Near (E : Nat → List Nat) (b d : Nat) : Prop := Sd E b d ∧ ∀ c, Sd E b c → c ≠ d → ¬ Av E c d
theorem Sd.cm (h : Sd E b d) : Cm E d := (cm_of d h.1).resolve_left h.2.2
theorem Sd.up (h : Sd E b c) (h2 : Sd E c d) : ¬ Av E d b := fun h3 => by
  rcases av_trans c h3 with h4 | h4
  · exact h.2.2 h4
  · exact h2.2.2 h4
/-- An order in which what every way goes through stands ahead. -/
structure Rpo (E : Nat → List Nat) (o : List Nat) : Prop where
  m : ∀ x, x ∈ o ↔ Cm E x
  p : o.Pairwise fun u v => Av E v u
theorem near_one {o : List Nat} (O : Rpo E o) {r s : Nat} (h1 : Near E b r) (h2 : Near E b s) : r = s := by
  apply Classical.byContradiction
  intro hne
  obtain ⟨i, hi⟩ := List.getElem?_of_mem ((O.m r).mpr h1.1.cm)
  obtain ⟨j, hj⟩ := List.getElem?_of_mem ((O.m s).mpr h2.1.cm)
  obtain ⟨x1, e1⟩ := List.getElem?_eq_some_iff.mp hi
  obtain ⟨x2, e2⟩ := List.getElem?_eq_some_iff.mp hj
  rcases Nat.lt_trichotomy i j with hij | hij | hij
  · have := List.pairwise_iff_getElem.mp O.p i j x1 x2 hij
    rw [e1, e2] at this
    exact h1.2 s h2.1 (fun e => hne e.symm) this
  · subst hij; rw [hi] at hj; exact hne (Option.some.inj hj)
  · have := List.pairwise_iff_getElem.mp O.p j i x2 x1 hij
    rw [e1, e2] at this
    exact h2.2 r h1.1 hne this
theorem foldl_last (p : Nat → Bool) : ∀ (o : List Nat) (r : Int), ((∀ d ∈ o, p d = true) ∧ o.foldl (fun r d => if p d then r else (d : Int)) r = r) ∨ ∃ pre d post, o = pre ++ d :: post ∧ p d = false ∧ (∀ x ∈ post, p x = true) ∧ o.foldl (fun r d => if p d then r else (d : Int)) r = (d : Int)
  | [], r => .inl ⟨by simp, rfl⟩
  | x :: o, r => by
    rw [List.foldl_cons]
    rcases foldl_last p o (if p x then r else (x : Int)) with ⟨h1, h2⟩ | ⟨pre, d, post, h1, h2, h3, h4⟩
    · cases hx : p x with
      | true =>
        rw [hx] at h2
        refine .inl ⟨fun d hd => ?_, by simpa using h2⟩
        rcases List.mem_cons.mp hd with rfl | hd
        · exact hx
        · exact h1 d hd
      | false =>
        rw [hx] at h2
        exact .inr ⟨[], x, o, rfl, hx, h1, by simpa using h2⟩
    · exact .inr ⟨x :: pre, d, post, by rw [h1]; rfl, h2, h3, h4⟩
/-- The last that every way goes through, as the program finds it. -/
def dmV (o : List Nat) (sn : Nat → Nat) (b : Nat) : Int := if b ∈ o then o.foldl (fun r d => if (sn d).testBit b then r else (d : Int)) (-1) else -1
theorem dmV_spec {o : List Nat} {sn : Nat → Nat} (O : Rpo E o) (hs : ∀ d ∈ o, ∀ b ∈ o, ((sn d).testBit b = true ↔ b = d ∨ Av E d b)) (b : Nat) : (dmV o sn b = -1 ∧ ∀ d, ¬ Sd E b d) ∨ ∃ r : Nat, dmV o sn b = (r : Int) ∧ Near E b r := by
  unfold dmV
  by_cases hb : b ∈ o
  · rw [if_pos hb]
    rcases foldl_last (fun d => (sn d).testBit b) o (-1) with ⟨h1, h2⟩ | ⟨pre, d, post, h1, h2, h3, h4⟩
    · refine .inl ⟨h2, fun d hd => ?_⟩
      have hdo := (O.m d).mpr hd.cm
      rcases (hs d hdo b hb).mp (h1 d hdo) with e | e
      · exact hd.2.1 e.symm
      · exact hd.2.2 e
    · refine .inr ⟨d, h4, ?_⟩
      have hdo : d ∈ o := by rw [h1]; simp
      have hn : ¬ (b = d ∨ Av E d b) := fun e => by have := (hs d hdo b hb).mpr e; rw [h2] at this; cases this
      have hsd : Sd E b d := ⟨(O.m b).mp hb, fun e => hn (.inl e.symm), fun e => hn (.inr e)⟩
      refine ⟨hsd, fun c hc hne => ?_⟩
      have hco := (O.m c).mpr hc.cm
      have hcp : c ∈ pre := by
        rw [h1, List.mem_append, List.mem_cons] at hco
        rcases hco with h | h | h
        · exact h
        · exact absurd h hne
        · exfalso
          have hco2 := (O.m c).mpr hc.cm
          rcases (hs c hco2 b hb).mp (h3 c h) with e | e
          · exact hc.2.1 e.symm
          · exact hc.2.2 e
      have hp := O.p
      rw [h1, List.pairwise_append] at hp
      have hav := hp.2.2 c hcp d (by simp)
      rcases av_chain hsd.1 hne hc.2.2 hsd.2.2 with h | h
      · exact h
      · exact absurd hav h
  · rw [if_neg hb]
    exact .inl ⟨rfl, fun d hd => hb ((O.m b).mpr hd.1)⟩
/-- As the document finds it, among the first ones. -/
def ddV (A : Nat → Bool) (W : Nat → Nat → Bool) (b : Nat) : Nat → Int
  | 0 => -1
  | d + 1 => if (!(d == b)) && A d && (A b && !W d b) && (decide (ddV A W b d < 0) || (A d && !W (ddV A W b d).toNat d)) then (d : Int) else ddV A W b d
theorem ddV_spec {A : Nat → Bool} {W : Nat → Nat → Bool} (hA : ∀ x, A x = true ↔ Cm E x) (hW : ∀ d x, W d x = true ↔ Av E d x) (b : Nat) : ∀ k, (ddV A W b k = -1 ∧ ∀ d, d < k → ¬ Sd E b d) ∨ ∃ r : Nat, ddV A W b k = (r : Int) ∧ r < k ∧ Sd E b r ∧ ∀ c, c < k → Sd E b c → c ≠ r → ¬ Av E c r
  | 0 => .inl ⟨rfl, fun d h => absurd h (Nat.not_lt_zero _)⟩
  | k + 1 => by
    have hsd : ((!(k == b)) && A k && (A b && !W k b)) = true ↔ Sd E b k := by
      simp only [Bool.and_eq_true, Bool.not_eq_true', beq_eq_false_iff_ne]
      rw [hA, hA]
      have e : W k b = false ↔ ¬ Av E k b := by rw [← hW]; simp
      rw [e]
      exact ⟨fun ⟨⟨h1, _⟩, h3, h4⟩ => ⟨h3, h1, h4⟩, fun h => ⟨⟨h.2.1, h.cm⟩, h.1, h.2.2⟩⟩
    rw [ddV]
    cases hc : ((!(k == b)) && A k && (A b && !W k b)) with
    | false =>
      rw [Bool.false_and]
      have hn : ¬ Sd E b k := fun h => by rw [← hsd, hc] at h; cases h
      rcases ddV_spec hA hW b k with ⟨h1, h2⟩ | ⟨r, h1, h2, h3, h4⟩
      · refine .inl ⟨by simpa using h1, fun d hd => ?_⟩
        by_cases e : d = k
        · subst e; exact hn
        · exact h2 d (by omega)
      · refine .inr ⟨r, by simpa using h1, by omega, h3, fun c hc2 hs hne => ?_⟩
        by_cases e : c = k
        · subst e; exact absurd hs hn
        · exact h4 c (by omega) hs hne
    | true =>
      rw [Bool.true_and]
      have hk := hsd.mp hc
      rcases ddV_spec hA hW b k with ⟨h1, h2⟩ | ⟨r, h1, h2, h3, h4⟩
      · rw [h1]
        refine .inr ⟨k, by simp, by omega, hk, fun c hc2 hs hne => absurd hs (h2 c (by omega))⟩
      · rw [h1]
        have e1 : decide ((r : Int) < 0) = false := by simp
        rw [e1, Bool.false_or, Int.toNat_natCast]
        have hAk : A k = true := (hA k).mpr hk.cm
        rw [hAk, Bool.true_and]
        cases hw : W r k with
        | true =>
          have hav := (hW r k).mp hw
          refine .inr ⟨r, by simp, by omega, h3, fun c hc2 hs hne => ?_⟩
          by_cases e : c = k
          · subst e
            rcases av_chain hk.1 hne hk.2.2 h3.2.2 with h | h
            · exact h
            · exact absurd hav h
          · exact h4 c (by omega) hs hne
        | false =>
          have hav : ¬ Av E r k := fun h => by have := (hW r k).mpr h; rw [hw] at this; cases this
          refine .inr ⟨k, by simp, by omega, hk, fun c hc2 hs hne => ?_⟩
          by_cases e : c = r
          · subst e; exact hav
          · intro h
            rcases av_trans r h with h5 | h5
            · exact hav h5
            · exact h4 c (by omega) hs e h5
/-- Both find the same. -/
theorem dm_same {o : List Nat} {sn : Nat → Nat} {A : Nat → Bool} {W : Nat → Nat → Bool} {n : Nat} (O : Rpo E o) (hs : ∀ d ∈ o, ∀ b ∈ o, ((sn d).testBit b = true ↔ b = d ∨ Av E d b)) (hA : ∀ x, A x = true ↔ Cm E x) (hW : ∀ d x, W d x = true ↔ Av E d x) (hn : ∀ x, Cm E x → x < n) (b : Nat) : ddV A W b n = dmV o sn b := by
  rcases dmV_spec O hs b with ⟨h1, h2⟩ | ⟨r, h1, h2⟩
  · rcases ddV_spec hA hW b n with ⟨h3, _⟩ | ⟨s, _, _, h5, _⟩
    · rw [h1, h3]
    · exact absurd h5 (h2 s)
  · rcases ddV_spec hA hW b n with ⟨_, h4⟩ | ⟨s, h3, _, h5, h6⟩
    · exact absurd h2.1 (h4 r (hn r h2.1.cm))
    · rw [h1, h3, near_one O h2 ⟨h5, fun c hc hne => h6 c (hn c hc.cm) hc hne⟩]
/-- Block 0 has none, and what is come to has one. -/
theorem dmV_zero {o : List Nat} {sn : Nat → Nat} (O : Rpo E o) (hs : ∀ d ∈ o, ∀ b ∈ o, ((sn d).testBit b = true ↔ b = d ∨ Av E d b)) : dmV o sn 0 = -1 := by
  rcases dmV_spec O hs 0 with ⟨h1, _⟩ | ⟨r, _, h2⟩
  · exact h1
  · exact absurd (Av.here (fun e => h2.1.2.1 e.symm)) h2.1.2.2
theorem dmV_has {o : List Nat} {sn : Nat → Nat} (O : Rpo E o) (hs : ∀ d ∈ o, ∀ b ∈ o, ((sn d).testBit b = true ↔ b = d ∨ Av E d b)) {b : Nat} (hb : Cm E b) (h0 : b ≠ 0) : ∃ r : Nat, dmV o sn b = (r : Int) ∧ Sd E b r := by
  rcases dmV_spec O hs b with ⟨_, h2⟩ | ⟨r, h1, h2⟩
  · exact absurd ⟨hb, fun e => h0 e.symm, fun h => h.none⟩ (h2 0)
  · exact ⟨r, h1, h2.1⟩
end
theorem or_bit {B x z : Nat} : (B ||| 2 ^ x).testBit z = true ↔ B.testBit z = true ∨ z = x := by
  rw [Nat.testBit_or, Bool.or_eq_true, Nat.testBit_two_pow, decide_eq_true_eq]
  exact ⟨fun h => h.imp_right Eq.symm, fun h => h.imp_right Eq.symm⟩
end Go.Proofs.Ytaejhppfcmeopaa
