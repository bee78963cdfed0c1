/- The queue of numbers that wait, a bit each: plain; the lowest bit. -/
import Derived.Test.YtkdojpnihinpbaaDoorVfNb
import Derived.Shelf.Spec.TrailingZeros
namespace Go.Proofs.YtkdojpnihinpbaaDoor
open Go.RowKit
/-- The table of the lowest bits lies. -/
def Tb (w : World) : Prop := ∀ j, j < 64 → w.cell? ⟨0, j, none⟩ = some (.int .u8 (Lib.deBruijn64tab.getD j 0))
theorem Tb.keep {w w' : World} (h : Tb w) (hk : w'.heap[0]? = w.heap[0]?) : Tb w' := fun j hj => by
  rw [World.cell?_of_block (a := ⟨0, j, none⟩) hk]
  exact h j hj
theorem tz64_core (x k idx : Nat) (w : World) (hx0 : ((x : Int) == 0) = false)
    (key : IntKind.u64.wrap (bits BinOp.and IntKind.u64 (x : Int) (IntKind.u64.wrap (-(x : Int))) * 285870213051353865) / 288230376151711744 = (idx : Int))
    (hi : idx < 64) (hk : k < 64) (hcell : w.cell? ⟨0, idx, none⟩ = some (.int .u8 k)) : Calls Tryd.prog 78 #[.int .u64 x] w fun e w' => e = .returned (.int .i64 k) ∧ w' = w := by
  go_enter Tryd.func78, Tryd.ntmps78
  go_wp2_with (simp only [key])
  go_ret
  exact ⟨rfl, rfl⟩
theorem tz64_any (x : Nat) (hx : x < 18446744073709551616) (h0 : x ≠ 0) (w : World) (T : Tb w) : Calls Tryd.prog 78 #[.int .u64 x] w fun e w' => e = .returned (.int .i64 (Lib.ctz 64 x)) ∧ w' = w := by
  obtain ⟨hlow, hk⟩ := Lib.lowest_bit 64 x h0 hx
  obtain ⟨hi, htab⟩ := Lib.deBruijn64_at _ hk
  refine tz64_core x (Lib.ctz 64 x) _ w (by simp; omega) (tz64_key x _ hx h0 hlow) hi hk ?_
  have hc := T _ hi
  rw [htab] at hc
  exact hc
/-- A word has the bits of those that wait. -/
def WdR (x q : Nat) (wt : List Bool) : Prop := x < 18446744073709551616 ∧ ∀ b, b < 64 → x.testBit b = (wt[64 * q + b]?).getD false
theorem getD_set_same {l : List Bool} {n : Nat} {v : Bool} (h : n < l.length) : ((l.set n v)[n]?).getD false = v := by simp [h]
theorem getD_set_other {l : List Bool} {n m : Nat} {v : Bool} (h : n ≠ m) : ((l.set n v)[m]?).getD false = (l[m]?).getD false := by simp [List.getElem?_set_ne h]
theorem wd_other {x q n : Nat} {wt : List Bool} {v : Bool} (h : WdR x q wt) (hn : n / 64 ≠ q) : WdR x q (wt.set n v) := ⟨h.1, fun b hb => by rw [getD_set_other (by omega)]; exact h.2 b hb⟩
theorem wd_set {x q n : Nat} {wt : List Bool} (h : WdR x q wt) (hl : n < wt.length) (hn : n / 64 = q) : WdR (x ||| 2 ^ (n % 64)) q (wt.set n true) := by
  have hp : 2 ^ (n % 64) < 2 ^ 64 := Nat.pow_lt_pow_right (by decide) (Nat.mod_lt _ (by decide))
  refine ⟨Nat.or_lt_two_pow (n := 64) h.1 hp, fun b hb => ?_⟩
  rw [Nat.testBit_or, Nat.testBit_two_pow]
  by_cases hb2 : n % 64 = b
  · have he : 64 * q + b = n := by omega
    rw [he, getD_set_same hl]
    simp [hb2]
  · rw [getD_set_other (by omega), h.2 b hb]
    simp [hb2]
/-- The lowest bit of a word. -/
theorem ctz_form {x : Nat} (h0 : x ≠ 0) (h : x < 18446744073709551616) : ∃ m, x = 2 ^ Lib.ctz 64 x * (2 * m + 1) ∧ Lib.ctz 64 x < 64 := by
  obtain ⟨m, h1, h2⟩ := Lib.ctzFrom_spec 64 x (by omega) h
  have e : Lib.ctz 64 x = Lib.ctzFrom 64 x := by simp [Lib.ctz, h0]
  rw [e]
  exact ⟨m, h1, h2⟩
theorem bit_low {t m b : Nat} (h : b < t) : (2 ^ t * (2 * m + 1)).testBit b = false := by
  rw [Nat.mul_comm, Nat.testBit_mul_two_pow]
  simp; omega
theorem bit_at (t m : Nat) : (2 ^ t * (2 * m + 1)).testBit t = true := by
  rw [Nat.mul_comm, Nat.testBit_mul_two_pow]
  simp
/-- With its lowest bit gone. -/
theorem bit_clr (t m b : Nat) : ((2 ^ t * (2 * m + 1)) &&& (2 ^ t * (2 * m + 1) - 1)).testBit b = ((2 ^ t * (2 * m + 1)).testBit b && decide (b ≠ t)) := by
  have e : 2 ^ t * (2 * m + 1) - 1 = 2 ^ t * (2 * m) + (2 ^ t - 1) := by
    have : 0 < 2 ^ t := Nat.two_pow_pos t
    rw [Nat.mul_add, Nat.mul_one]
    omega
  rw [Nat.testBit_and]
  by_cases hb : b < t
  · rw [bit_low hb]
    simp
  · by_cases hb2 : b = t
    · subst hb2
      rw [bit_at, e, Nat.testBit_two_pow_mul_add _ (by have := Nat.two_pow_pos b; omega)]
      simp
    · have h1 : (2 ^ t * (2 * m + 1) - 1).testBit b = (2 ^ t * (2 * m + 1)).testBit b := by
        rw [e, Nat.testBit_two_pow_mul_add _ (by have := Nat.two_pow_pos t; omega), if_neg hb, show (2 ^ t * (2 * m + 1)).testBit b = (2 * m + 1).testBit (b - t) by rw [Nat.mul_comm, Nat.testBit_mul_two_pow]; simp; omega]
        obtain ⟨c, rfl⟩ : ∃ c, b = t + (c + 1) := ⟨b - t - 1, by omega⟩
        rw [show t + (c + 1) - t = c + 1 by omega, Nat.testBit_succ, Nat.testBit_succ, show 2 * m / 2 = m by omega, show (2 * m + 1) / 2 = m by omega]
      rw [h1]
      simp [hb2]
theorem wd_low {x q : Nat} {wt : List Bool} (h : WdR x q wt) (h0 : x ≠ 0) : Lib.ctz 64 x < 64 ∧ (wt[64 * q + Lib.ctz 64 x]?).getD false = true ∧ ∀ b, b < Lib.ctz 64 x → (wt[64 * q + b]?).getD false = false := by
  obtain ⟨m, h1, h2⟩ := ctz_form h0 h.1
  refine ⟨h2, ?_, fun b hb => ?_⟩
  · rw [← h.2 _ h2]
    conv => lhs; arg 1; rw [h1]
    exact bit_at _ _
  · rw [← h.2 _ (by omega)]
    conv => lhs; arg 1; rw [h1]
    exact bit_low hb
theorem wd_clr {x q : Nat} {wt : List Bool} (h : WdR x q wt) (h0 : x ≠ 0) : WdR (x &&& (x - 1)) q (wt.set (64 * q + Lib.ctz 64 x) false) := by
  obtain ⟨m, h1, h2⟩ := ctz_form h0 h.1
  obtain ⟨_, h4, _⟩ := wd_low h h0
  generalize Lib.ctz 64 x = t at *
  refine ⟨Nat.lt_of_le_of_lt Nat.and_le_left h.1, fun b hb => ?_⟩
  rw [h1, bit_clr, ← h1, h.2 b hb]
  by_cases hb2 : b = t
  · subst hb2
    have hl : 64 * q + b < wt.length := by
      rcases Nat.lt_or_ge (64 * q + b) wt.length with hl | hl
      · exact hl
      · rw [List.getElem?_eq_none hl] at h4; cases h4
    rw [getD_set_same hl]
    simp
  · rw [getD_set_other (by omega)]
    simp [hb2]
theorem wd_none {q : Nat} {wt : List Bool} (h : WdR 0 q wt) (b : Nat) (hb : b < 64) : (wt[64 * q + b]?).getD false = false := by
  rw [← h.2 b hb, Nat.zero_testBit]
theorem least_some : ∀ {l : List Bool} {n : Nat}, (l[n]?).getD false = true → (∀ m, m < n → (l[m]?).getD false = false) → leastP l = some n
  | [], n, h, _ => by simp at h
  | true :: r, n, h, h2 => by
    rcases n with _ | n
    · rfl
    · have := h2 0 (by omega)
      simp at this
  | false :: r, n, h, h2 => by
    rcases n with _ | n
    · simp at h
    · have h3 : leastP r = some n := least_some (by simpa using h) (fun m hm => by simpa using h2 (m + 1) (by omega))
      simp [leastP, h3]
theorem least_none : ∀ {l : List Bool}, (∀ m : Nat, (l[m]?).getD false = false) → leastP l = none
  | [], _ => rfl
  | true :: r, h => by have := h 0; simp at this
  | false :: r, h => by
    have h3 : leastP r = none := least_none (fun m => by simpa using h (m + 1))
    simp [leastP, h3]
theorem least_inv : ∀ {l : List Bool} {n : Nat}, leastP l = some n → (l[n]?).getD false = true
  | [], n, h => by simp [leastP] at h
  | true :: r, n, h => by
    simp only [leastP, Option.some.injEq] at h
    subst h
    simp
  | false :: r, n, h => by
    simp only [leastP, Option.map_eq_some_iff] at h
    obtain ⟨a, h1, rfl⟩ := h
    have := least_inv h1
    simpa using this
/-- The queue lies: its words. -/
def QuAt (w : World) (b n : Nat) (wt : List Bool) : Prop := wt.length = n ∧ ∃ ws : List Nat, ws.length = n / 64 + 1 ∧ w.heap[b]? = some (.cells ((ws.map (fun x : Nat => Value.int .u64 x)).toArray) 129 (0, 0)) ∧ ∀ q x, ws[q]? = some x → WdR x q wt
abbrev qv (b n : Nat) : Value := .slice (some ⟨b, 0, none⟩) (n / 64 + 1) (n / 64 + 1)
end Go.Proofs.YtkdojpnihinpbaaDoor
