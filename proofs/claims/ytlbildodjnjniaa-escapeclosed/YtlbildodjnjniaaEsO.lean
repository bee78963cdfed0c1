/- What escapes, as plain mathematics. -/
import Derived.Test.YtlbildodjnjniaaEsN
namespace Go.Proofs.Ytlbildodjnjniaa

theorem least_nat {p : Nat → Prop} (h : ∃ n, p n) : ∃ n, p n ∧ ∀ m, p m → n ≤ m := by
  obtain ⟨n, hn⟩ := h
  induction n using Nat.strongRecOn with
  | _ n ih =>
    by_cases hm : ∃ m, m < n ∧ p m
    · obtain ⟨m, hlt, hp⟩ := hm
      exact ih m hlt hp
    · refine ⟨n, hn, fun m hp => ?_⟩
      rcases Nat.lt_or_ge m n with h1 | h1
      · exact absurd ⟨m, h1, hp⟩ hm
      · exact h1
theorem lst_exists {n : Nat} {fs : List Fl} {B root : Int} (S : Snd n fs) (hB : 0 ≤ B) : ∃ l, Lst fs B root l := by
  have h : ∀ v, ∃ x : Int, ((∃ d, Way fs B root v d) → Way fs B root v x ∧ ∀ d, Way fs B root v d → x ≤ d) ∧ ((¬ ∃ d, Way fs B root v d) → x = -2) := fun v => by
    by_cases hw : ∃ d, Way fs B root v d
    · obtain ⟨d0, hd0⟩ := hw
      obtain ⟨k, ⟨d, hd, hk⟩, hle⟩ := least_nat (p := fun k => ∃ d, Way fs B root v d ∧ (d + 1).toNat = k) ⟨_, d0, hd0, rfl⟩
      refine ⟨d, fun _ => ⟨hd, fun d' hd' => ?_⟩, fun hn => absurd ⟨d0, hd0⟩ hn⟩
      have h1 := hle _ ⟨d', hd', rfl⟩
      have h2 := hd.ge S (by omega)
      have h3 := hd'.ge S (by omega)
      omega
    · exact ⟨-2, fun h => absurd h hw, fun _ => rfl⟩
  obtain ⟨l, hl⟩ := Classical.axiomOfChoice h
  have key : ∀ v, (∃ d, Way fs B root v d) → l v ≠ -2 := fun v hv => by
    have := ((hl v).1 hv).1.ge S (by omega)
    omega
  refine ⟨l, fun v hv => ?_, ?_, fun f hf hto => ?_⟩
  · by_cases hw : ∃ d, Way fs B root v d
    · exact ((hl v).1 hw).1
    · exact absurd ((hl v).2 hw) hv
  · exact ⟨key root ⟨0, .root⟩, ((hl root).1 ⟨0, .root⟩).2 0 .root⟩
  · by_cases hw : ∃ d, Way fs B root f.to d
    · have h1 := ((hl f.to).1 hw).1
      exact ⟨key f.fr ⟨_, .step hf h1⟩, ((hl f.fr).1 ⟨_, .step hf h1⟩).2 _ (.step hf h1)⟩
    · exact absurd ((hl f.to).2 hw) hto
section
variable {n : Nat} {ps : List Pt} {fs : List Fl} {r x B : Int} {l : Int → Int}
theorem hld_of (S : Snd n fs) (L : Lst fs B r l) (hn : (n : Int) ≤ B) (hB : B ≤ 51200) : l x = -1 ↔ Hld fs r x := by
  obtain ⟨l', L'⟩ := lst_exists (root := r) (B := 51200) S (by omega)
  exact (hld_iff S L L' hn hB).symm
theorem Hld.dom (S : Snd n fs) (h : Hld fs r x) : 0 ≤ x ∧ x < n := by
  rcases Way.dom S h with ⟨_, h1⟩ | h1
  · omega
  · exact h1
/-- Does what is told of r and x mark x? -/
def mkB (ps : List Pt) (E : Nat → Bool) (p : Int × Int) : Bool :=
  p.1 == -1 || decide ((ps[p.1.toNat]?.getD default).d < (ps[p.2.toNat]?.getD default).d) || E p.1.toNat
/-- These pairs are just whose addresses come to what. -/
def Hol (n : Nat) (fs : List Fl) (hs : List (Int × Int)) : Prop := ∀ p : Int × Int, p ∈ hs ↔ -1 ≤ p.1 ∧ p.1 < n ∧ 0 ≤ p.2 ∧ p.2 < n ∧ Hld fs p.1 p.2
theorem mk_esc {hs : List (Int × Int)} (H : Hol ps.length fs hs) {E : Nat → Bool} (hE : ∀ x, E x = true → Esc ps fs x) {p : Int × Int} (hp : p ∈ hs) (hm : mkB ps E p = true) : ∀ x, upf E p.2.toNat true x = true → Esc ps fs x := fun x hx => by
  by_cases e : x = p.2.toNat
  · subst e
    obtain ⟨h1, h2, h3, h4, h5⟩ := (H p).1 hp
    have e2 : ((p.2.toNat : Nat) : Int) = p.2 := by omega
    have h5' : Hld fs p.1 ((p.2.toNat : Nat) : Int) := by rw [e2]; exact h5
    unfold mkB at hm
    rw [Bool.or_eq_true, Bool.or_eq_true, beq_iff_eq, decide_eq_true_eq] at hm
    by_cases hr : p.1 = -1
    · rw [hr] at h5'; exact .heap h5'
    · have e1 : ((p.1.toNat : Nat) : Int) = p.1 := by omega
      have l1 : p.1.toNat < ps.length := by omega
      have l2 : p.2.toNat < ps.length := by omega
      rcases hm with (h | h) | h
      · exact absurd h hr
      · refine .deep (r := p.1.toNat) (List.getElem?_eq_getElem l1) (List.getElem?_eq_getElem l2) (by rw [e1]; exact h5') ?_
        rw [List.getElem?_eq_getElem l1, List.getElem?_eq_getElem l2] at h
        exact h
      · exact .esc l1 (by rw [e1]; exact h5') (hE _ h)
  · rw [upf_other _ _ e] at hx; exact hE x hx
theorem esc_lt (S : Snd ps.length fs) {x : Nat} (h : Esc ps fs x) : x < ps.length := by
  cases h with
  | heap h => have := Hld.dom S h; omega
  | deep _ h2 _ _ => 
    rcases Nat.lt_or_ge x ps.length with h | h
    · exact h
    · rw [List.getElem?_eq_none h] at h2; cases h2
  | esc _ h _ => have := Hld.dom S h; omega
/-- Where nothing more is marked, all that escapes is. -/
theorem esc_all (S : Snd ps.length fs) {hs : List (Int × Int)} (H : Hol ps.length fs hs) {E : Nat → Bool} (hc : ∀ p ∈ hs, mkB ps E p = true → E p.2.toNat = true) {x : Nat} (h : Esc ps fs x) : E x = true := by
  induction h with
  | @heap x h =>
    have hd := Hld.dom S h
    have := hc (-1, (x : Int)) ((H _).2 ⟨by simp, by show (-1 : Int) < _; omega, by show 0 ≤ (x : Int); omega, by show (x : Int) < _; omega, h⟩) (by simp [mkB])
    simpa using this
  | @deep r x p q h1 h2 h3 h4 =>
    have hd := Hld.dom S h3
    have hr : r < ps.length := by
      rcases Nat.lt_or_ge r ps.length with h | h
      · exact h
      · rw [List.getElem?_eq_none h] at h1; cases h1
    have := hc ((r : Int), (x : Int)) ((H _).2 ⟨by show -1 ≤ (r : Int); omega, by show (r : Int) < _; omega, by show 0 ≤ (x : Int); omega, by show (x : Int) < _; omega, h3⟩) (by
      unfold mkB
      rw [Bool.or_eq_true, Bool.or_eq_true, decide_eq_true_eq]
      refine .inl (.inr ?_)
      show ((ps[((r : Int)).toNat]?.getD default).d < (ps[((x : Int)).toNat]?.getD default).d)
      rw [Int.toNat_natCast, Int.toNat_natCast, h1, h2]; exact h4)
    simpa using this
  | @esc r x h1 h2 _ ih =>
    have hd := Hld.dom S h2
    have := hc ((r : Int), (x : Int)) ((H _).2 ⟨by show -1 ≤ (r : Int); omega, by show (r : Int) < _; omega, by show 0 ≤ (x : Int); omega, by show (x : Int) < _; omega, h2⟩) (by
      unfold mkB
      rw [Bool.or_eq_true]
      refine .inr ?_
      show E ((r : Int)).toNat = true
      rw [Int.toNat_natCast]; exact ih)
    simpa using this
/-- How many are not marked. -/
def cntF (E : Nat → Bool) (m : Nat) : Nat := (List.range m).countP fun i => !E i
theorem cntF_le (E : Nat → Bool) (m : Nat) : cntF E m ≤ m := by
  have := List.countP_le_length (p := fun i => !E i) (l := List.range m)
  rw [List.length_range] at this
  exact this
theorem cntF_set {E : Nat → Bool} {m x : Nat} (hx : x < m) (hE : E x = false) : cntF (upf E x true) m + 1 ≤ cntF E m := by
  unfold cntF
  induction m with
  | zero => omega
  | succ m ih =>
    rw [List.range_succ, List.countP_append, List.countP_append, List.countP_singleton, List.countP_singleton]
    by_cases e : x = m
    · subst e
      have h1 : (List.range x).countP (fun i => !upf E x true i) = (List.range x).countP fun i => !E i := by
        apply List.countP_congr
        intro i hi
        have := List.mem_range.1 hi
        rw [upf_other _ _ (by omega)]
      rw [h1, upf_same, hE]; simp
    · have := ih (by omega)
      rw [upf_other _ _ (fun h => e h.symm)]
      omega
end
end Go.Proofs.Ytlbildodjnjniaa
