/- How bytes are read: plain. -/
import Derived.Test.YtnkdlbiicfnmcaaCdM
namespace Go.Proofs.Ytnkdlbiicfnmcaa

/-- A number's bits, from the i-th byte on. -/
def bitsR : Nat → Nat → By → Option (Nat × By)
  | _, _, [] => none
  | i, z, b :: r => if (i = 9 ∧ 1 < b.toNat) ∨ (0 < i ∧ b.toNat = 0) then none else if b.toNat < 128 then some (z + b.toNat % 128 * 128 ^ i, r) else bitsR (i + 1) (z + b.toNat % 128 * 128 ^ i) r
/-- What is left, and whether there was a fault. -/
structure Rs where
  rest : By
  bad : Bool
def failS : Rs := ⟨[], true⟩
def unzig (z : Nat) : Int := if z % 2 = 1 then -1 - ((z / 2 : Nat) : Int) else ((z / 2 : Nat) : Int)
def bitsS (s : Rs) : Nat × Rs := match bitsR 0 0 s.rest with
  | some (z, r) => (z, ⟨r, s.bad⟩)
  | none => (0, failS)
def numR (s : Rs) : Int × Rs := (unzig (bitsS s).1, (bitsS s).2)
def cntR (s : Rs) : Nat × Rs := if (numR s).1 < 0 then (0, failS) else ((numR s).1.toNat, (numR s).2)
def takeR (n : Nat) (s : Rs) : By × Rs := if s.rest.length < n then ([], failS) else (s.rest.take n, ⟨s.rest.drop n, s.bad⟩)
def fixedR (s : Rs) : Rs := if (takeR 3 s).1 = hdE then (takeR 3 s).2 else failS
def strR (s : Rs) : By × Rs := takeR (cntR s).1 (cntR s).2
def loopR {α : Type} (it : Rs → α × Rs) : Nat → Rs → List α × Rs
  | 0, s => ([], s)
  | n + 1, s => if s.bad then ([], s) else ((it s).1 :: (loopR it n (it s).2).1, (loopR it n (it s).2).2)
def lstR {α : Type} (it : Rs → α × Rs) (s : Rs) : List α × Rs := loopR it (cntR s).1 (cntR s).2
def intsR (s : Rs) : List Int × Rs := lstR numR s
def insR (s : Rs) : In3 × Rs := (⟨(numR s).1, (numR (numR s).2).1, (numR (numR (numR s).2).2).1⟩, (numR (numR (numR s).2).2).2)
def fdR (s : Rs) : Fd × Rs :=
  let a := numR s
  let b := intsR a.2
  let c := intsR b.2
  let d := intsR c.2
  let e := lstR insR d.2
  (⟨a.1, b.1, c.1, d.1, e.1⟩, e.2)
def pgR (s : Rs) : Pg × Rs :=
  let a := lstR intsR (fixedR s)
  let b := lstR fdR a.2
  let c := lstR intsR b.2
  let d := lstR strR c.2
  (⟨a.1, b.1, c.1, d.1⟩, d.2)

/-- Each takes a byte at least, or there is a fault. -/
def Eats {α : Type} (it : Rs → α × Rs) : Prop := ∀ s, (it s).2 = failS ∨ ((it s).2.bad = s.bad ∧ (it s).2.rest.length < s.rest.length)
def Less {α : Type} (it : Rs → α × Rs) : Prop := ∀ s, (it s).2 = failS ∨ ((it s).2.bad = s.bad ∧ (it s).2.rest.length ≤ s.rest.length)
theorem bitsR_less : ∀ {l : By} {i z y : Nat} {r : By}, bitsR i z l = some (y, r) → r.length < l.length
  | [], _, _, _, _, h => by simp [bitsR] at h
  | b :: l, i, z, y, r, h => by
    unfold bitsR at h
    split at h
    · cases h
    · split at h
      · cases h; simp
      · have := bitsR_less h; simp; omega
theorem pow_7 (i : Nat) : 128 ^ (i + 1) = 128 * 128 ^ i := by rw [Nat.pow_succ, Nat.mul_comm]
theorem bitsR_lt : ∀ {l : By} {i z y : Nat} {r : By}, i ≤ 9 → z < 128 ^ i → bitsR i z l = some (y, r) → y < 18446744073709551616
  | [], _, _, _, _, _, _, h => by simp [bitsR] at h
  | b :: l, i, z, y, r, hi, hz, h => by
    unfold bitsR at h
    split at h
    · cases h
    · rename_i hn
      have hb := b.toNat_lt
      have hp := pow_7 i
      have hm : b.toNat % 128 * 128 ^ i ≤ 127 * 128 ^ i := Nat.mul_le_mul_right _ (by omega)
      split at h
      · cases h
        rcases Nat.lt_or_ge i 9 with h9 | h9
        · have h1 : 128 ^ (i + 1) ≤ 128 ^ 9 := Nat.pow_le_pow_right (by omega) (by omega)
          have h2 : (128 : Nat) ^ 9 = 9223372036854775808 := by decide
          omega
        · obtain rfl : i = 9 := by omega
          have h2 : (128 : Nat) ^ 9 = 9223372036854775808 := by decide
          have h3 : b.toNat % 128 * 128 ^ 9 ≤ 1 * 128 ^ 9 := Nat.mul_le_mul_right _ (by omega)
          omega
      · have h9 : i ≠ 9 := fun e => hn (.inl ⟨e, by omega⟩)
        exact bitsR_lt (by omega) (by omega) h
theorem bitsS_eats : Eats bitsS := fun s => by
  unfold bitsS
  split
  · rename_i z r h
    exact .inr ⟨rfl, bitsR_less h⟩
  · exact .inl rfl
theorem bitsS_lt (s : Rs) : (bitsS s).1 < 18446744073709551616 := by
  unfold bitsS
  split
  · rename_i z r h
    exact bitsR_lt (i := 0) (by omega) (by decide) h
  · decide
theorem unzig_in {z : Nat} (h : z < 18446744073709551616) : -9223372036854775808 ≤ unzig z ∧ unzig z ≤ 9223372036854775807 := by unfold unzig; split <;> omega
theorem numR_in (s : Rs) : -9223372036854775808 ≤ (numR s).1 ∧ (numR s).1 ≤ 9223372036854775807 := unzig_in (bitsS_lt s)
theorem numR_eats : Eats numR := bitsS_eats
theorem cntR_eats : Eats cntR := fun s => by
  unfold cntR
  split
  · exact .inl rfl
  · exact numR_eats s
theorem cntR_le (s : Rs) : (cntR s).1 ≤ 9223372036854775807 := by
  have := numR_in s
  unfold cntR
  split
  · simp
  · simp only []; omega
theorem Eats.less {α : Type} {it : Rs → α × Rs} (h : Eats it) : Less it := fun s => (h s).imp id fun h => ⟨h.1, Nat.le_of_lt h.2⟩
theorem takeR_less (n : Nat) : Less (takeR n) := fun s => by
  unfold takeR
  split
  · exact .inl rfl
  · exact .inr ⟨rfl, by simp⟩
theorem fixedR_less (s : Rs) : fixedR s = failS ∨ ((fixedR s).bad = s.bad ∧ (fixedR s).rest.length ≤ s.rest.length) := by
  unfold fixedR
  split
  · exact takeR_less 3 s
  · exact .inl rfl
/-- Behind a fault nothing is left: a fault stays. -/
theorem numR_fail : (numR failS).2 = failS := rfl
theorem cntR_fail : cntR failS = (0, failS) := rfl
theorem strR_fail : (strR failS).2 = failS := rfl
theorem lstR_fail {α : Type} (it : Rs → α × Rs) : (lstR it failS).2 = failS := rfl
theorem Less.seq {α β : Type} {f : Rs → α × Rs} {g : Rs → β × Rs} {s : Rs} (hf : (f s).2 = failS ∨ ((f s).2.bad = s.bad ∧ (f s).2.rest.length ≤ s.rest.length)) (hg : Less g) (h0 : (g failS).2 = failS) : (g (f s).2).2 = failS ∨ ((g (f s).2).2.bad = s.bad ∧ (g (f s).2).2.rest.length ≤ s.rest.length) := by
  rcases hf with h | ⟨h1, h2⟩
  · left; rw [h, h0]
  · rcases hg (f s).2 with h | ⟨h3, h4⟩
    · exact .inl h
    · exact .inr ⟨h3.trans h1, Nat.le_trans h4 h2⟩
theorem eats_seq {α β : Type} {f : Rs → α × Rs} {g : Rs → β × Rs} {s : Rs} (hf : (f s).2 = failS ∨ ((f s).2.bad = s.bad ∧ (f s).2.rest.length < s.rest.length)) (hg : Less g) (h0 : (g failS).2 = failS) : (g (f s).2).2 = failS ∨ ((g (f s).2).2.bad = s.bad ∧ (g (f s).2).2.rest.length < s.rest.length) := by
  rcases hf with h | ⟨h1, h2⟩
  · left; rw [h, h0]
  · rcases hg (f s).2 with h | ⟨h3, h4⟩
    · exact .inl h
    · exact .inr ⟨h3.trans h1, by omega⟩
theorem loopR_less {α : Type} {it : Rs → α × Rs} (h : Less it) : ∀ n, Less (loopR it n)
  | 0, s => .inr ⟨rfl, Nat.le_refl _⟩
  | n + 1, s => by
    unfold loopR
    by_cases hb : s.bad
    · rw [if_pos hb]; exact .inr ⟨rfl, Nat.le_refl _⟩
    · rw [if_neg hb]
      exact Less.seq (g := loopR it n) (h s) (loopR_less h n) (by cases n <;> rfl)
theorem strR_eats : Eats strR := fun s => eats_seq (f := cntR) (g := takeR (cntR s).1) (cntR_eats s) (takeR_less _) (by unfold takeR; split <;> first | rfl | (simp [failS] at *))
theorem lstR_eats {α : Type} {it : Rs → α × Rs} (h : Less it) : Eats (lstR it) := fun s => eats_seq (f := cntR) (g := loopR it (cntR s).1) (cntR_eats s) (loopR_less h _) (by cases (cntR s).1 <;> rfl)
theorem intsR_eats : Eats intsR := lstR_eats numR_eats.less
theorem insR_eats : Eats insR := fun s => eats_seq (f := fun s => numR (numR s).2) (g := numR) (eats_seq (f := numR) (g := numR) (numR_eats s) numR_eats.less rfl) numR_eats.less rfl
theorem insR_fail : (insR failS).2 = failS := rfl
theorem intsR_fail : (intsR failS).2 = failS := rfl
theorem fdR_snd (s : Rs) : (fdR s).2 = (lstR insR (intsR (intsR (intsR (numR s).2).2).2).2).2 := by simp only [fdR]
theorem fdR_eats : Eats fdR := fun s => by
  have h1 := eats_seq (f := numR) (g := intsR) (numR_eats s) intsR_eats.less intsR_fail
  have h2 := eats_seq (f := fun s => intsR (numR s).2) (g := intsR) h1 intsR_eats.less intsR_fail
  have h3 := eats_seq (f := fun s => intsR (intsR (numR s).2).2) (g := intsR) h2 intsR_eats.less intsR_fail
  have h4 := eats_seq (f := fun s => intsR (intsR (intsR (numR s).2).2).2) (g := lstR insR) h3 (lstR_eats insR_eats.less).less (lstR_fail _)
  rw [fdR_snd]
  exact h4
theorem fdR_fail : (fdR failS).2 = failS := rfl
end Go.Proofs.Ytnkdlbiicfnmcaa
