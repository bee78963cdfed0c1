/- The edges that a graph is made of. -/
import Derived.Test.YtaejhppfcmeopaaLvP
namespace Go.Proofs.Ytaejhppfcmeopaa

/-- The edges of the blocks below j: of each block and each number of one of its lists. -/
def eG (m : Nat → Nat → Nat × Nat) (f : Blk → List Int) (bs : List Blk) : Nat → List (Nat × Nat)
  | 0 => []
  | j + 1 => eG m f bs j ++ match bs[j]? with
    | some b => (f b).map fun x => m x.toNat j
    | none => []
theorem eG_next {m : Nat → Nat → Nat × Nat} {f : Blk → List Int} {bs : List Blk} {j : Nat} {b : Blk} (h : bs[j]? = some b) : eG m f bs (j + 1) = eG m f bs j ++ (f b).map fun x => m x.toNat j := by simp [eG, h]
theorem eG_mem {m : Nat → Nat → Nat × Nat} {f : Blk → List Int} {bs : List Blk} {e : Nat × Nat} : ∀ {n : Nat}, e ∈ eG m f bs n ↔ ∃ (j : Nat) (b : Blk) (x : Int), j < n ∧ bs[j]? = some b ∧ x ∈ f b ∧ e = m x.toNat j
  | 0 => by simp [eG]
  | n + 1 => by
    unfold eG
    rw [List.mem_append, eG_mem (n := n)]
    constructor
    · rintro (⟨j, b, x, h1, h2⟩ | h)
      · exact ⟨j, b, x, by omega, h2⟩
      · cases hb : bs[n]? with
        | none => rw [hb] at h; simp at h
        | some b =>
          rw [hb] at h
          simp only [List.mem_map] at h
          obtain ⟨x, h1, h2⟩ := h
          exact ⟨n, b, x, by omega, hb, h1, h2.symm⟩
    · rintro ⟨j, b, x, h1, h2, h3, h4⟩
      by_cases e1 : j = n
      · subst e1
        right
        rw [h2]
        simp only [List.mem_map]
        exact ⟨x, h3, h4.symm⟩
      · exact .inl ⟨j, b, x, by omega, h2, h3, h4⟩
abbrev mT : Nat → Nat → Nat × Nat := fun x j => (x, j)
abbrev mS : Nat → Nat → Nat × Nat := fun x j => (j, x)
section
variable {bs : List Blk} {K : Nat}
theorem len_of_get {i : Nat} {b : Blk} (h : bs[i]? = some b) : i < bs.length := by
  rcases Nat.lt_or_ge i bs.length with h1 | h1
  · exact h1
  · rw [List.getElem?_eq_none h1] at h; cases h
theorem ed_T {f : Blk → List Int} (hf : ∀ (i : Nat) (b : Blk), bs[i]? = some b → ∀ x, x ∈ f b → ∃ y : Nat, x = y) {t s : Nat} : (t, s) ∈ eG mT f bs bs.length ↔ ∃ b, bs[s]? = some b ∧ (t : Int) ∈ f b := by
  rw [eG_mem]
  constructor
  · rintro ⟨j, b, x, h1, h2, h3, h4⟩
    obtain ⟨y, rfl⟩ := hf j b h2 x h3
    simp only [mT, Int.toNat_natCast, Prod.mk.injEq] at h4
    obtain ⟨rfl, rfl⟩ := h4
    exact ⟨b, h2, h3⟩
  · rintro ⟨b, h1, h2⟩
    exact ⟨s, b, t, len_of_get h1, h1, h2, by simp [mT]⟩
theorem ed_S {f : Blk → List Int} (hf : ∀ (i : Nat) (b : Blk), bs[i]? = some b → ∀ x, x ∈ f b → ∃ y : Nat, x = y) {t s : Nat} : (t, s) ∈ eG mS f bs bs.length ↔ ∃ b, bs[t]? = some b ∧ (s : Int) ∈ f b := by
  rw [eG_mem]
  constructor
  · rintro ⟨j, b, x, h1, h2, h3, h4⟩
    obtain ⟨y, rfl⟩ := hf j b h2 x h3
    simp only [mS, Int.toNat_natCast, Prod.mk.injEq] at h4
    obtain ⟨rfl, rfl⟩ := h4
    exact ⟨b, h2, h3⟩
  · rintro ⟨b, h1, h2⟩
    exact ⟨t, b, s, len_of_get h1, h1, h2, by simp [mS]⟩
theorem ed_pre (S : Snd bs K) (t : Nat) : ed (eG mT (·.n) bs bs.length) t = pre bs t := ed_ext (pre_sm t) fun s _ => by
  rw [ed_T (fun i b hb x hx => (S.n i b hb x hx).imp fun _ h => h.1), pre_bit S]
theorem ed_suc (S : Snd bs K) (t : Nat) : ed (eG mS (·.n) bs bs.length) t = suc bs t := ed_ext (suc_sm t) fun s _ => by
  rw [ed_S (fun i b hb x hx => (S.n i b hb x hx).imp fun _ h => h.1), suc_bit S]
theorem ed_use (S : Snd bs K) (t : Nat) : ed (eG mT (·.u) bs bs.length) t = usm bs t := ed_ext (usm_sm t) fun s _ => by
  rw [ed_T (fun i b hb x hx => (S.u i b hb x hx).imp fun _ h => h.1), usm_bit S]
theorem ed_def (S : Snd bs K) (t : Nat) : ed (eG mT (·.d) bs bs.length) t = dfm bs t := ed_ext (dfm_sm t) fun s _ => by
  rw [ed_T (fun i b hb x hx => (S.d i b hb x hx).imp fun _ h => h.1), dfm_bit S]
end
theorem bits_of_suc (bs : List Blk) {K : Nat} (S : Snd bs K) {t i : Nat} (h : (suc bs t).testBit i = true) : i < bs.length := by
  obtain ⟨b, h1, h2⟩ := (suc_bit S).mp h
  obtain ⟨y, h3, h4⟩ := S.n t b h1 _ h2
  omega
theorem bits_of_pre (bs : List Blk) {K : Nat} (S : Snd bs K) {t i : Nat} (h : (pre bs t).testBit i = true) : i < bs.length := by
  obtain ⟨b, h1, h2⟩ := (pre_bit S).mp h
  exact len_of_get h1
theorem bits_of_usm (bs : List Blk) {K : Nat} (S : Snd bs K) {t i : Nat} (h : (usm bs t).testBit i = true) : i < bs.length := by
  obtain ⟨b, h1, h2⟩ := (usm_bit S).mp h
  exact len_of_get h1
end Go.Proofs.Ytaejhppfcmeopaa
