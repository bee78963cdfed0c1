/- What the laws ask of what is needed: plain. -/
import Derived.Test.YtaejhppfcmeopaaLvV
namespace Go.Proofs.Ytaejhppfcmeopaa

theorem zs_mem {l : List Nat} {x : Int} : x ∈ zs l ↔ ∃ y : Nat, y ∈ l ∧ x = (y : Int) := by
  simp only [zs, List.mem_map]
  constructor
  · rintro ⟨y, h, rfl⟩; exact ⟨y, h, rfl⟩
  · rintro ⟨y, h, rfl⟩; exact ⟨y, h, rfl⟩
theorem hasI_false {l : List Int} {x : Int} : hasI l x = false ↔ x ∉ l := by
  rw [← Bool.not_eq_true, hasI_iff]
section
variable {bs : List Blk} {K : Nat}
theorem in_mem (S : Snd bs K) {i : Nat} {x : Int} : x ∈ zs (inL bs K i) ↔ ∃ v : Nat, x = (v : Int) ∧ v < K ∧ Need bs v i := by
  rw [zs_mem]
  constructor
  · rintro ⟨v, h, rfl⟩
    rw [inL_mem, nd_in S] at h
    exact ⟨v, rfl, h⟩
  · rintro ⟨v, rfl, h⟩
    exact ⟨v, by rw [inL_mem, nd_in S]; exact h, rfl⟩
theorem out_mem (S : Snd bs K) {i : Nat} {x : Int} : x ∈ zs (outL bs K i) ↔ ∃ v : Nat, x = (v : Int) ∧ v < K ∧ Bhd bs v i := by
  rw [zs_mem]
  constructor
  · rintro ⟨v, h, rfl⟩
    rw [outL_mem, nd_out S] at h
    exact ⟨v, rfl, h⟩
  · rintro ⟨v, rfl, h⟩
    exact ⟨v, by rw [outL_mem, nd_out S]; exact h, rfl⟩
/-- Is a number needed ahead of one of those at which a block goes on? -/
def fnd (bs : List Blk) (K : Nat) (l : List Int) (x : Int) : Bool := l.any fun y => hasI (zs (inL bs K y.toNat)) x
theorem fnd_next {bs : List Blk} {K q : Nat} {l : List Int} {x y : Int} (h : l[q]? = some y) : fnd bs K (l.take (q + 1)) x = (fnd bs K (l.take q) x || hasI (zs (inL bs K y.toNat)) x) := by
  unfold fnd
  rw [List.take_add_one, h]; simp
theorem least_out (S : Snd bs K) {i : Nat} {b : Blk} (hb : bs[i]? = some b) {x : Int} (hx : x ∈ zs (outL bs K i)) : fnd bs K b.n x = true ∧ (hasI b.d x = false → hasI (zs (inL bs K i)) x = true) := by
  obtain ⟨v, rfl, hv, b', j, h1, h2, h3⟩ := (out_mem S).mp hx
  rw [hb] at h1; cases h1
  refine ⟨?_, fun hd => ?_⟩
  · unfold fnd
    rw [List.any_eq_true]
    exact ⟨j, h2, by rw [hasI_iff, in_mem S]; exact ⟨v, rfl, hv, by simpa using h3⟩⟩
  · rw [hasI_iff, in_mem S]
    exact ⟨v, rfl, hv, .pass hb h2 (hasI_false.mp hd) h3⟩
theorem least_in (S : Snd bs K) {i : Nat} {b : Blk} (hb : bs[i]? = some b) {x : Int} (hx : x ∈ zs (inL bs K i)) (hu : hasI b.u x = false) : hasI (zs (outL bs K i)) x = true ∧ hasI b.d x = false := by
  obtain ⟨v, rfl, hv, h⟩ := (in_mem S).mp hx
  cases h with
  | use h1 h2 => rw [hb] at h1; cases h1; exact absurd h2 (hasI_false.mp hu)
  | pass h1 h2 h3 h4 =>
    rw [hb] at h1; cases h1
    refine ⟨?_, hasI_false.mpr h3⟩
    rw [hasI_iff, out_mem S]
    exact ⟨v, rfl, hv, b, _, hb, h2, h4⟩
theorem range_rises (p : Nat → Bool) : ∀ n, ((List.range n).filter p).Pairwise (· < ·) := fun _ => List.Pairwise.filter p (List.pairwise_lt_range)
theorem in_rises {i k : Nat} {x y : Int} (h1 : (zs (inL bs K i))[k]? = some x) (h2 : (zs (inL bs K i))[k + 1]? = some y) : x < y := by
  unfold zs at h1 h2
  rw [List.getElem?_map, Option.map_eq_some_iff] at h1 h2
  obtain ⟨a, e1, rfl⟩ := h1
  obtain ⟨b, e2, rfl⟩ := h2
  have hp := range_rises (fun v => (nd bs v).1.testBit i) K
  have ha : k < (inL bs K i).length := by
    rcases Nat.lt_or_ge k (inL bs K i).length with h | h
    · exact h
    · rw [List.getElem?_eq_none h] at e1; cases e1
  have hb : k + 1 < (inL bs K i).length := by
    rcases Nat.lt_or_ge (k + 1) (inL bs K i).length with h | h
    · exact h
    · rw [List.getElem?_eq_none h] at e2; cases e2
  have := List.pairwise_iff_getElem.mp hp k (k + 1) ha hb (by omega)
  rw [List.getElem?_eq_getElem ha] at e1
  rw [List.getElem?_eq_getElem hb] at e2
  cases e1; cases e2
  exact Int.ofNat_lt.mpr this
end
end Go.Proofs.Ytaejhppfcmeopaa
