/- Blocks' graphs; what is needed ahead of a block, and behind it. -/
import Derived.Test.YtaejhppfcmeopaaLvN
namespace Go.Proofs.Ytaejhppfcmeopaa

/-- The blocks that go on at t. -/
def pre (bs : List Blk) (t : Nat) : Nat := mk fun i => match bs[i]? with
  | some b => has b.n t
  | none => false
/-- Those at which s goes on. -/
def suc (bs : List Blk) (s : Nat) : Nat := mk fun i => match bs[s]? with
  | some b => has b.n i
  | none => false
/-- Those that read v; that write it. -/
def usm (bs : List Blk) (v : Nat) : Nat := mk fun i => match bs[i]? with
  | some b => has b.u v
  | none => false
def dfm (bs : List Blk) (v : Nat) : Nat := mk fun i => match bs[i]? with
  | some b => has b.d v
  | none => false
theorem ex_bit (bs : List Blk) (f : Blk → Bool) (i : Nat) : (match bs[i]? with | some b => f b | none => false) = true ↔ ∃ b, bs[i]? = some b ∧ f b = true := by
  cases bs[i]? <;> simp
section
variable {bs : List Blk} {K : Nat}
theorem pre_sm (t : Nat) : Sm (pre bs t) := mk_sm _
theorem suc_sm (t : Nat) : Sm (suc bs t) := mk_sm _
theorem usm_sm (t : Nat) : Sm (usm bs t) := mk_sm _
theorem dfm_sm (t : Nat) : Sm (dfm bs t) := mk_sm _
theorem lt_of_get {i : Nat} {b : Blk} (S : Snd bs K) (h : bs[i]? = some b) : i < 512 := by
  rcases Nat.lt_or_ge i bs.length with h1 | h1
  · have := S.l; omega
  · rw [List.getElem?_eq_none h1] at h; cases h
theorem pre_bit (S : Snd bs K) {t i : Nat} : (pre bs t).testBit i = true ↔ ∃ b, bs[i]? = some b ∧ (t : Int) ∈ b.n := by
  unfold pre
  rw [mk_bit, Bool.and_eq_true, ex_bit bs (fun b => has b.n t)]
  simp only [decide_eq_true_eq, has_iff]
  exact ⟨fun h => h.2, fun h => ⟨lt_of_get S h.choose_spec.1, h⟩⟩
theorem usm_bit (S : Snd bs K) {t i : Nat} : (usm bs t).testBit i = true ↔ ∃ b, bs[i]? = some b ∧ (t : Int) ∈ b.u := by
  unfold usm
  rw [mk_bit, Bool.and_eq_true, ex_bit bs (fun b => has b.u t)]
  simp only [decide_eq_true_eq, has_iff]
  exact ⟨fun h => h.2, fun h => ⟨lt_of_get S h.choose_spec.1, h⟩⟩
theorem dfm_bit (S : Snd bs K) {t i : Nat} : (dfm bs t).testBit i = true ↔ ∃ b, bs[i]? = some b ∧ (t : Int) ∈ b.d := by
  unfold dfm
  rw [mk_bit, Bool.and_eq_true, ex_bit bs (fun b => has b.d t)]
  simp only [decide_eq_true_eq, has_iff]
  exact ⟨fun h => h.2, fun h => ⟨lt_of_get S h.choose_spec.1, h⟩⟩
theorem suc_bit (S : Snd bs K) {s i : Nat} : (suc bs s).testBit i = true ↔ ∃ b, bs[s]? = some b ∧ (i : Int) ∈ b.n := by
  unfold suc
  rw [mk_bit, Bool.and_eq_true, ex_bit bs (fun b => has b.n i)]
  simp only [decide_eq_true_eq, has_iff]
  refine ⟨fun h => h.2, fun h => ⟨?_, h⟩⟩
  obtain ⟨b, h1, h2⟩ := h
  obtain ⟨y, h3, h4⟩ := S.n s b h1 _ h2
  have := S.l
  omega
end
/-- Ahead of which blocks v is needed, and behind which. -/
def nd (bs : List Blk) (v : Nat) : Nat × Nat := ndL (pre bs) (dfm bs v) 513 (elems (usm bs v)) (0, 0)
/-- Ahead of a block something is needed. -/
inductive Need (bs : List Blk) (v : Nat) : Nat → Prop
  | use {i : Nat} {b : Blk} : bs[i]? = some b → (v : Int) ∈ b.u → Need bs v i
  | pass {i j : Nat} {b : Blk} : bs[i]? = some b → (j : Int) ∈ b.n → (v : Int) ∉ b.d → Need bs v j → Need bs v i
/-- Behind it. -/
def Bhd (bs : List Blk) (v i : Nat) : Prop := ∃ b j, bs[i]? = some b ∧ ((j : Nat) : Int) ∈ b.n ∧ Need bs v j
section
variable {bs : List Blk} {K : Nat}
theorem rch_need (S : Snd bs K) (v : Nat) {i : Nat} : Rch (pre bs) (dfm bs v) (usm bs v) i ↔ Need bs v i := by
  constructor
  · intro h
    induction h with
    | use h =>
      obtain ⟨b, h1, h2⟩ := (usm_bit S).mp h
      exact .use h1 h2
    | step _ h h2 ih =>
      obtain ⟨b, h3, h4⟩ := (pre_bit S).mp h
      refine .pass h3 h4 (fun hd => ?_) ih
      rw [(dfm_bit S).mpr ⟨b, h3, hd⟩] at h2; cases h2
  · intro h
    induction h with
    | use h1 h2 => exact .use ((usm_bit S).mpr ⟨_, h1, h2⟩)
    | @pass i j b h1 h2 h3 _ ih =>
      refine .step ih ((pre_bit S).mpr ⟨b, h1, h2⟩) ?_
      cases e : (dfm bs v).testBit i with
      | false => rfl
      | true =>
        obtain ⟨b', h4, h5⟩ := (dfm_bit S).mp e
        rw [h1] at h4; cases h4
        exact absurd h5 h3
theorem nd_in (S : Snd bs K) (v i : Nat) : (nd bs v).1.testBit i = true ↔ Need bs v i := by
  rw [← rch_need S v]
  exact (nd_spec pre_sm (usm_sm v) (by decide)).1 i
theorem nd_out (S : Snd bs K) (v i : Nat) : (nd bs v).2.testBit i = true ↔ Bhd bs v i := by
  refine ((nd_spec (D := dfm bs v) (pre_sm (bs := bs)) (usm_sm (bs := bs) v) (k := 513) (by decide)).2 i).trans ?_
  constructor
  · rintro ⟨c, h1, h2⟩
    obtain ⟨b, h3, h4⟩ := (pre_bit S).mp h2
    exact ⟨b, c, h3, h4, (rch_need S v).mp h1⟩
  · rintro ⟨b, j, h1, h2, h3⟩
    exact ⟨j, (rch_need S v).mpr h3, (pre_bit S).mpr ⟨b, h1, h2⟩⟩
end
/-- What is needed ahead of the block i, of the variables below n; behind it. -/
def inL (bs : List Blk) (n i : Nat) : List Nat := (List.range n).filter fun v => (nd bs v).1.testBit i
def outL (bs : List Blk) (n i : Nat) : List Nat := (List.range n).filter fun v => (nd bs v).2.testBit i
theorem inL_next (bs : List Blk) (n i : Nat) : inL bs (n + 1) i = inL bs n i ++ bif (nd bs n).1.testBit i then [n] else [] := by
  unfold inL
  rw [List.range_succ, List.filter_append]
  cases h : (nd bs n).1.testBit i <;> simp [h]
theorem outL_next (bs : List Blk) (n i : Nat) : outL bs (n + 1) i = outL bs n i ++ bif (nd bs n).2.testBit i then [n] else [] := by
  unfold outL
  rw [List.range_succ, List.filter_append]
  cases h : (nd bs n).2.testBit i <;> simp [h]
theorem inL_mem (bs : List Blk) {n i v : Nat} : v ∈ inL bs n i ↔ v < n ∧ (nd bs v).1.testBit i = true := by simp [inL]
theorem outL_mem (bs : List Blk) {n i v : Nat} : v ∈ outL bs n i ↔ v < n ∧ (nd bs v).2.testBit i = true := by simp [outL]
theorem inL_len (bs : List Blk) (n i : Nat) : (inL bs n i).length ≤ n := Nat.le_trans (List.length_filter_le _ _) (by simp)
theorem outL_len (bs : List Blk) (n i : Nat) : (outL bs n i).length ≤ n := Nat.le_trans (List.length_filter_le _ _) (by simp)
/-- Of the edges those to t. -/
def ed (E : List (Nat × Nat)) (t : Nat) : Nat := mk fun s => E.any fun e => e.1 == t && e.2 == s
theorem ed_sm (E : List (Nat × Nat)) (t : Nat) : Sm (ed E t) := mk_sm _
theorem ed_nil (t : Nat) : ed [] t = 0 := sm_ext (ed_sm _ _) sm_zero fun i _ => by simp [ed, mk_bit]
theorem ed_bit {E : List (Nat × Nat)} {t s : Nat} : (ed E t).testBit s = true ↔ s < 512 ∧ (t, s) ∈ E := by
  unfold ed
  rw [mk_bit, Bool.and_eq_true]
  simp
theorem ed_same (E : List (Nat × Nat)) (t s : Nat) (hs : s < 512) : ed (E ++ [(t, s)]) t = ed E t ||| 2 ^ s := sm_ext (ed_sm _ _) ((ed_sm _ _).add hs) fun i hi => by
  rw [Bool.eq_iff_iff, ed_bit, Nat.testBit_or, Nat.testBit_two_pow, Bool.or_eq_true, ed_bit]
  simp [hi]
  constructor
  · rintro (h | h)
    · exact .inl h
    · exact .inr h.symm
  · rintro (h | h)
    · exact .inl h
    · exact .inr h.symm
theorem ed_other (E : List (Nat × Nat)) {t t' : Nat} (s : Nat) (h : t' ≠ t) : ed (E ++ [(t, s)]) t' = ed E t' := sm_ext (ed_sm _ _) (ed_sm _ _) fun i hi => by
  rw [Bool.eq_iff_iff, ed_bit, ed_bit]
  simp [hi, h]
theorem ed_ext {E : List (Nat × Nat)} {t m : Nat} (hm : Sm m) (h : ∀ s, s < 512 → ((t, s) ∈ E ↔ m.testBit s = true)) : ed E t = m := sm_ext (ed_sm _ _) hm fun i hi => by
  rw [Bool.eq_iff_iff, ed_bit, ← h i hi]
  simp [hi]
end Go.Proofs.Ytaejhppfcmeopaa
