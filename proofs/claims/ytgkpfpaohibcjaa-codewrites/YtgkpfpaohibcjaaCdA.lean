/- The writer: going, folded, number, count. -/
import Derived.Test.YtgkpfpaohibcjaaCdW
import Derived.Laws.Bits64
import Derived.Laws.Bits64b
import Derived.Laws.DeepNot64
namespace Go.Proofs.Ytgkpfpaohibcjaa
open Go.RowKit
theorem xor_ones {x : Nat} (h : x < 18446744073709551616) : (18446744073709551615 ^^^ x) = 18446744073709551615 - x := by
  apply Nat.eq_of_testBit_eq
  intro i
  rw [Nat.testBit_xor, show (18446744073709551615 : Nat) = 2 ^ 64 - 1 by rfl, Nat.testBit_two_pow_sub_one, show 2 ^ 64 - 1 - x = 2 ^ 64 - (x + 1) by omega, Nat.testBit_two_pow_sub_succ (by simpa using h)]
  by_cases hi : i < 64
  · simp [hi]
  · have : x.testBit i = false := Nat.testBit_lt_two_pow (Nat.lt_of_lt_of_le (by simpa using h) (Nat.pow_le_pow_right (by omega) (by omega : 64 ≤ i)))
    simp [hi, this]
theorem not_u64 {x : Nat} (h : x < 18446744073709551616) : bits .xor .u64 IntKind.u64.max (x : Int) = ((18446744073709551615 - x : Nat) : Int) := by
  have := bits_xor_u64_nat 18446744073709551615 x (by omega) h
  rw [xor_ones h] at this
  exact this
theorem or_128 : ∀ a : Fin 256, bits .or .u8 (a.val : Int) 128 = ((a.val % 128 + 128 : Nat) : Int) := by decide +kernel
theorem zig_fold {n : Int} (h1 : -9223372036854775808 ≤ n) (h : n < 0) : bits .xor .u64 IntKind.u64.max (IntKind.u64.wrap (IntKind.u64.wrap n * 2)) = (-2 * n - 1 : Int) := by
  have e : IntKind.u64.wrap (IntKind.u64.wrap n * 2) = ((2 * n + 18446744073709551616).toNat : Nat) := by
    simp only [IntKind.wrap]
    go_arith
  rw [e, not_u64 (by omega)]
  omega
section
variable {X : Wx} {w w' : World} {out : By}
theorem going_any (L : Wl X w out) : Calls Try.prog 17 #[X.p] w fun e w' => e = .returned (.bool (decide (out.length ≤ MB))) ∧ w' = w := by
  have c0 := L.c0
  obtain ⟨a, c, hv⟩ := row_form L.row
  rw [hv] at c0
  have hd : decide ((out.length : Int) ≤ 4194304) = decide (out.length ≤ MB) := by apply decide_eq_decide.mpr; unfold MB; omega
  generalize decide (out.length ≤ MB) = d at *
  clear L hv
  go_enter Try.func17, Try.ntmps17
  go_wp2
  go_ret
  exact ⟨rfl, rfl⟩
theorem zig_neg {n : Int} (h : n < 0) : (zig n : Int) = -2 * n - 1 := by unfold zig; rw [if_pos h]; omega
theorem zig_pos {n : Int} (h : ¬ n < 0) : (zig n : Int) = n * 2 := by unfold zig; rw [if_neg h]; omega
theorem folded_any (n : Int) (h1 : -9223372036854775808 ≤ n) (h2 : n ≤ 9223372036854775807) (w : World) : Calls Try.prog 64 #[.int .i64 n] w fun e w' => e = .returned (.int .u64 (zig n : Nat)) ∧ w' = w := by
  by_cases h : n < 0
  · have d1 : decide (n < 0) = true := by simpa using h
    rw [zig_neg h]
    have hz := zig_fold h1 h
    generalize hq : (-2 * n - 1 : Int) = q at *
    clear hq
    go_enter Try.func64, Try.ntmps64
    go_wp2
    go_ret
    exact ⟨rfl, rfl⟩
  · have d1 : decide (n < 0) = false := by simpa using h
    rw [zig_pos h]
    go_enter Try.func64, Try.ntmps64
    go_wp2
    go_ret
    exact ⟨rfl, rfl⟩
theorem own_put {base : Nat} {v : Value} {m : Nat} {xs : List Value} (hown : w.ownsRow base 5 1 v m xs) {b : Nat} {a : Int} (hb : w.heap[b]? = some (.cells #[.int .u8 a] 5 (0, 0))) (hm : m + 1 ≤ 8388608) (hB : base ≤ w.heap.size) (ty : TypeId) :
    ∃ g cap w', (Builtin.append_ #[28, 28] ty #[v, .slice (some ⟨b, 0, none⟩) 1 1]).run Try.prog w = .ok (.slice (some ⟨g, 0, none⟩) (m + 1) cap) w' ∧
      w'.ownsRow base 5 1 (.slice (some ⟨g, 0, none⟩) (m + 1) cap) (m + 1) (xs ++ [.int .u8 a]) ∧ w.grownBy w' v.ownBlock ∧ (v.ownBlock = some g ∨ g = w.heap.size) ∧ g < w'.heap.size := by
  have hinf := Try.info5
  cases hi : Try.prog.info? 5 with
  | none => rw [hi] at hinf; cases hinf
  | some i0 =>
    rw [hi] at hinf
    simp only [Option.map_some, Option.some.injEq, Prod.mk.injEq] at hinf
    obtain ⟨hz0, hz1, hz2⟩ := hinf
    exact run_append_lies (P := Try.prog) w 28 ty base 5 i0 _ 1 1 Try.underlying28 hi hz0 hz1 hz2 rfl (by decide) v m xs hown ⟨b, 0, none⟩ 1 1 [.int .u8 a] rfl (World.news_of_block hb)
      (by simp [Value.oneCell']) (by omega) (by simp only [maxLen]; omega) (by omega) hB _ rfl
end
end Go.Proofs.Ytgkpfpaohibcjaa
