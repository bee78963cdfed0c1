/- Blocks and sets of blocks as plain mathematics. -/
import Derived.Test.YtaejhppfcmeopaaChecked
namespace Go.Proofs.Ytaejhppfcmeopaa

/-- A block: what it reads, what it writes, where it goes on. -/
structure Blk where
  u : List Int
  d : List Int
  n : List Int
def has (l : List Int) (x : Nat) : Bool := l.any fun y => decide (y = (x : Int))
theorem has_iff {l : List Int} {x : Nat} : has l x = true ↔ (x : Int) ∈ l := by simp [has]
def outI (k x : Int) : Bool := decide (x < 0) || decide (k ≤ x)
def badB (k : Int) (n : Nat) (b : Blk) : Bool := b.u.any (outI k) || b.d.any (outI k) || b.n.any (outI n)
def fltP (bs : List Blk) (k : Int) : Int := if 512 < bs.length ∨ k < 0 ∨ 4096 < k then 4 else if bs.any (badB k bs.length) then 2 else 0
structure Snd (bs : List Blk) (k : Nat) : Prop where
  l : bs.length ≤ 512
  v : k ≤ 4096
  u : ∀ (i : Nat) (b : Blk), bs[i]? = some b → ∀ x, x ∈ b.u → ∃ y : Nat, x = y ∧ y < k
  d : ∀ (i : Nat) (b : Blk), bs[i]? = some b → ∀ x, x ∈ b.d → ∃ y : Nat, x = y ∧ y < k
  n : ∀ (i : Nat) (b : Blk), bs[i]? = some b → ∀ x, x ∈ b.n → ∃ y : Nat, x = y ∧ y < bs.length
theorem outI_false {k : Nat} {x : Int} (h : outI k x = false) : ∃ y : Nat, x = y ∧ y < k := by
  simp only [outI, Bool.or_eq_false_iff, decide_eq_false_iff_not, Int.not_lt, Int.not_le] at h
  exact ⟨x.toNat, by omega, by omega⟩
theorem snd_of {bs : List Blk} {k : Int} (h : fltP bs k = 0) : ∃ K : Nat, k = K ∧ Snd bs K := by
  unfold fltP at h
  split at h
  · cases h
  · rename_i h1
    split at h
    · cases h
    · rename_i h2
      simp only [not_or, Nat.not_lt, Int.not_lt] at h1
      obtain ⟨a1, a2, a3⟩ := h1
      have e : ((k.toNat : Nat) : Int) = k := by omega
      refine ⟨k.toNat, e.symm, ?_⟩
      rw [Bool.not_eq_true, List.any_eq_false] at h2
      have g : ∀ (i : Nat) (b : Blk), bs[i]? = some b → badB k bs.length b = false := fun i b hb => by
        have := h2 b (List.mem_of_getElem? hb)
        simpa using this
      refine ⟨a1, by omega, fun i b hb x hx => ?_, fun i b hb x hx => ?_, fun i b hb x hx => ?_⟩ <;>
      · have hh := g i b hb
        simp only [badB, Bool.or_eq_false_iff, List.any_eq_false, Bool.not_eq_true] at hh
        first
          | exact outI_false (by rw [e]; exact hh.1.1 x (by assumption))
          | exact outI_false (by rw [e]; exact hh.1.2 x (by assumption))
          | exact outI_false (hh.2 x (by assumption))
/-- A set of numbers below 512, as a number's bits. -/
def mkF (p : Nat → Bool) : Nat → Nat
  | 0 => 0
  | n + 1 => if p n then mkF p n ||| 2 ^ n else mkF p n
theorem mkF_bit (p : Nat → Bool) (i : Nat) : ∀ n, (mkF p n).testBit i = (decide (i < n) && p i)
  | 0 => by simp [mkF]
  | n + 1 => by
    unfold mkF
    split
    · rename_i h
      rw [Nat.testBit_or, mkF_bit p i n, Nat.testBit_two_pow]
      by_cases e : n = i
      · subst e; simp [h]
      · rw [decide_eq_false e, Bool.or_false]
        congr 1
        exact decide_eq_decide.mpr (by omega)
    · rename_i h
      rw [mkF_bit p i n]
      by_cases e : n = i
      · subst e; simp [h]
      · congr 1
        exact decide_eq_decide.mpr (by omega)
def mk (p : Nat → Bool) : Nat := mkF p 512
theorem mk_bit (p : Nat → Bool) (i : Nat) : (mk p).testBit i = (decide (i < 512) && p i) := mkF_bit p i 512
/-- All bits of a number are below 512. -/
def Sm (m : Nat) : Prop := ∀ i, 512 ≤ i → m.testBit i = false
theorem mk_sm (p : Nat → Bool) : Sm (mk p) := fun i hi => by rw [mk_bit, decide_eq_false (by omega), Bool.false_and]
theorem sm_zero : Sm 0 := fun i _ => Nat.zero_testBit i
theorem Sm.or {m t : Nat} (h : Sm m) (h2 : Sm t) : Sm (m ||| t) := fun i hi => by rw [Nat.testBit_or, h i hi, h2 i hi]; rfl
theorem sm_pow {b : Nat} (hb : b < 512) : Sm (2 ^ b) := fun i hi => by rw [Nat.testBit_two_pow, decide_eq_false (by omega)]
theorem Sm.add {m b : Nat} (h : Sm m) (hb : b < 512) : Sm (m ||| 2 ^ b) := h.or (sm_pow hb)
theorem Sm.lt {m i : Nat} (h : Sm m) (hi : m.testBit i = true) : i < 512 := by
  rcases Nat.lt_or_ge i 512 with h1 | h1
  · exact h1
  · rw [h i h1] at hi; cases hi
def less (m t : Nat) : Nat := mk fun i => m.testBit i && !t.testBit i
theorem less_sm (m t : Nat) : Sm (less m t) := mk_sm _
theorem less_bit {m t : Nat} (h : Sm m) (i : Nat) : (less m t).testBit i = (m.testBit i && !t.testBit i) := by
  unfold less
  rw [mk_bit]
  by_cases hi : i < 512
  · simp [hi]
  · rw [h i (by omega)]; simp
theorem sm_ext {m t : Nat} (h : Sm m) (h2 : Sm t) (he : ∀ i, i < 512 → m.testBit i = t.testBit i) : m = t := by
  apply Nat.eq_of_testBit_eq
  intro i
  rcases Nat.lt_or_ge i 512 with h1 | h1
  · exact he i h1
  · rw [h i h1, h2 i h1]
/-- A set's words. -/
def wd (m k : Nat) : Nat := m / 2 ^ (64 * k) % 2 ^ 64
theorem wd_lt (m k : Nat) : wd m k < 18446744073709551616 := Nat.mod_lt _ (by decide)
theorem wd_bit (m k j : Nat) : (wd m k).testBit j = (decide (j < 64) && m.testBit (64 * k + j)) := by
  unfold wd
  rw [Nat.testBit_mod_two_pow, Nat.testBit_div_two_pow]
  congr 2
  omega
theorem wd_zero (k : Nat) : wd 0 k = 0 := by simp [wd]
theorem wd_or (m t k : Nat) : wd (m ||| t) k = wd m k ||| wd t k := by
  apply Nat.eq_of_testBit_eq
  intro i
  rw [Nat.testBit_or, wd_bit, wd_bit, wd_bit, Nat.testBit_or]
  cases decide (i < 64) <;> rfl
theorem wd_pow_same (b : Nat) : wd (2 ^ b) (b / 64) = 2 ^ (b % 64) := by
  apply Nat.eq_of_testBit_eq
  intro i
  rw [wd_bit, Nat.testBit_two_pow, Nat.testBit_two_pow]
  by_cases h : b % 64 = i
  · subst h
    rw [decide_eq_true (Nat.mod_lt _ (by decide)), decide_eq_true (show b = 64 * (b / 64) + b % 64 by omega), decide_eq_true rfl]
    rfl
  · rw [decide_eq_false h]
    by_cases h2 : i < 64
    · rw [decide_eq_false (show ¬ b = 64 * (b / 64) + i by omega), Bool.and_false]
    · rw [decide_eq_false h2, Bool.false_and]
theorem wd_pow_other {b k : Nat} (h : k ≠ b / 64) : wd (2 ^ b) k = 0 := by
  apply Nat.eq_of_testBit_eq
  intro i
  rw [wd_bit, Nat.testBit_two_pow, Nat.zero_testBit]
  by_cases h2 : i < 64
  · rw [decide_eq_false (show ¬ b = 64 * k + i by omega), Bool.and_false]
  · rw [decide_eq_false h2, Bool.false_and]
theorem wd_add_same (m b : Nat) : wd (m ||| 2 ^ b) (b / 64) = wd m (b / 64) ||| 2 ^ (b % 64) := by rw [wd_or, wd_pow_same]
theorem wd_add_other (m : Nat) {b k : Nat} (h : k ≠ b / 64) : wd (m ||| 2 ^ b) k = wd m k := by rw [wd_or, wd_pow_other h, Nat.or_zero]
theorem wd_has (m b : Nat) : (wd m (b / 64) / 2 ^ (b % 64)) % 2 = if m.testBit b then 1 else 0 := by
  have h : (wd m (b / 64)).testBit (b % 64) = m.testBit b := by
    rw [wd_bit, decide_eq_true (Nat.mod_lt _ (by decide)), Bool.true_and, show 64 * (b / 64) + b % 64 = b by omega]
  rw [← h, Nat.testBit_eq_decide_div_mod_eq]
  by_cases e : wd m (b / 64) / 2 ^ (b % 64) % 2 = 1
  · simp [e]
  · simp [e]; omega
theorem wd_less {m t : Nat} (h : Sm m) (k i : Nat) : (wd (less m t) k).testBit i = ((wd m k).testBit i && !(wd t k).testBit i) := by
  rw [wd_bit, wd_bit, wd_bit, less_bit h]
  cases decide (i < 64) <;> simp
end Go.Proofs.Ytaejhppfcmeopaa
