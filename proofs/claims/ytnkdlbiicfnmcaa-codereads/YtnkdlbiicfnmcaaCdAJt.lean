/- The writer: going, folded, number, count. -/
import Derived.Test.YtnkdlbiicfnmcaaCdW
import Derived.Laws.Bits64
import Derived.Laws.Bits64b
import Derived.Laws.DeepNot64
namespace Go.Proofs.Ytnkdlbiicfnmcaa
open Go.RowKit
theorem xor_ones {x : Nat} (h : x < 18446744073709551616) : (18446744073709551615 ^^^ x) = 18446744073709551615 - x := by
  apply Nat.eq_of_testBit_eq
  intro i
  rw [Nat.testBit_xor, show (18446744073709551615 : Nat) = 2 ^ 64 - 1 by rfl, Nat.testBit_two_pow_sub_one, show 2 ^ 64 - 1 - x = 2 ^ 64 - (x + 1) by omega, Nat.testBit_two_pow_sub_succ (by simpa using h)]
  by_cases hi : i < 64
  · simp [hi]
  · have : x.testBit i = false := Nat.testBit_lt_two_pow (Nat.lt_of_lt_of_le (by simpa using h) (Nat.pow_le_pow_right (by omega) (by omega : 64 ≤ i)))
    simp [hi, this]
theorem not_u64 {x : Nat} (h : x < 18446744073709551616) : bits .xor .u64 IntKind.u64.max (x : Int) = ((18446744073709551615 - x : Nat) : Int) := by
  have := bits_xor_u64_nat 18446744073709551615 x (by omega) h
  rw [xor_ones h] at this
  exact this
theorem or_128 : ∀ a : Fin 256, bits .or .u8 (a.val : Int) 128 = ((a.val % 128 + 128 : Nat) : Int) := by decide +kernel
theorem zig_fold {n : Int} (h1 : -9223372036854775808 ≤ n) (h : n < 0) : bits .xor .u64 IntKind.u64.max (IntKind.u64.wrap (IntKind.u64.wrap n * 2)) = (-2 * n - 1 : Int) := by
  have e : IntKind.u64.wrap (IntKind.u64.wrap n * 2) = ((2 * n + 18446744073709551616).toNat : Nat) := by
    simp only [IntKind.wrap]
    go_arith
  rw [e, not_u64 (by omega)]
  omega
section
variable {X : Wx} {w w' : World} {out : By}
theorem going_any (L : Wl X w out) : Calls Try.prog 17 #[X.p] w fun e w' => e = .returned (.bool (decide (out.length ≤ MB))) ∧ w' = w := by
  have c0 := L.c0
  obtain ⟨a, c, hv⟩ := row_form L.row
  rw [hv] at c0
  have hd : decide ((out.length : Int) ≤ 4194304) = decide (out.length ≤ MB) := by apply decide_eq_decide.mpr; unfold MB; omega
  generalize decide (out.length ≤ MB) = d at *
  clear L hv
  go_enter Try.func17, Try.ntmps17
  go_wp2
  go_ret
  exact ⟨rfl, rfl⟩
theorem zig_neg {n : Int} (h : n < 0) : (zig n : Int) = -2 * n - 1 := by unfold zig; rw [if_pos h]; omega
theorem zig_pos {n : Int} (h : ¬ n < 0) : (zig n : Int) = n * 2 := by unfold zig; rw [if_neg h]; omega
theorem folded_any (n : Int) (h1 : -9223372036854775808 ≤ n) (h2 : n ≤ 9223372036854775807) (w : World) : Calls Try.prog 64 #[.int .i64 n] w fun e w' => e = .returned (.int .u64 (zig n : Nat)) ∧ w' = w := by
  by_cases h : n < 0
  · have d1 : decide (n < 0) = true := by simpa using h
    rw [zig_neg h]
    have hz := zig_fold h1 h
    generalize hq : (-2 * n - 1 : Int) = q at *
    clear hq
    go_enter Try.func64, Try.ntmps64
    go_wp2
    go_ret
    exact ⟨rfl, rfl⟩
  · have d1 : decide (n < 0) = false := by simpa using h
    rw [zig_pos h]
    go_enter Try.func64, Try.ntmps64
    go_wp2
    go_ret
    exact ⟨rfl, rfl⟩
theorem own_put {base : Nat} {v : Value} {m : Nat} {xs : List Value} (hown : w.ownsRow base 5 1 v m xs) {b : Nat} {a : Int} (hb : w.heap[b]? = some (.cells #[.int .u8 a] 5 (0, 0))) (hm : m + 1 ≤ 8388608) (hB : base ≤ w.heap.size) (ty : TypeId) :
    ∃ g cap w', (Builtin.append_ #[28, 28] ty #[v, .slice (some ⟨b, 0, none⟩) 1 1]).run Try.prog w = .ok (.slice (some ⟨g, 0, none⟩) (m + 1) cap) w' ∧
      w'.ownsRow base 5 1 (.slice (some ⟨g, 0, none⟩) (m + 1) cap) (m + 1) (xs ++ [.int .u8 a]) ∧ w.grownBy w' v.ownBlock ∧ (v.ownBlock = some g ∨ g = w.heap.size) ∧ g < w'.heap.size := by
  have hinf := Try.info5
  cases hi : Try.prog.info? 5 with
  | none => rw [hi] at hinf; cases hinf
  | some i0 =>
    rw [hi] at hinf
    simp only [Option.map_some, Option.some.injEq, Prod.mk.injEq] at hinf
    obtain ⟨hz0, hz1, hz2⟩ := hinf
    exact run_append_lies (P := Try.prog) w 28 ty base 5 i0 _ 1 1 Try.underlying28 hi hz0 hz1 hz2 rfl (by decide) v m xs hown ⟨b, 0, none⟩ 1 1 [.int .u8 a] rfl (World.news_of_block hb)
      (by simp [Value.oneCell']) (by omega) (by simp only [maxLen]; omega) (by omega) hB _ rfl
end
end Go.Proofs.Ytnkdlbiicfnmcaa

namespace Go.Proofs.Ytnkdlbiicfnmcaa
open Go.RowKit
section
variable {X : Wx} {w w' : World} {out : By}
/-- One byte more. -/
theorem Wl.app (L : Wl X w out) (c : UInt8) {n : Int} (hc : n = (c.toNat : Int)) (hm : out.length ≤ 8000000) (ty : TypeId) :
    ∃ g cap w2, (Builtin.append_ #[28, 28] ty #[X.v, .slice (some ⟨w.heap.size, 0, none⟩) 1 1]).run Try.prog (w.alloc (.cells #[.int .u8 n] 5)) = .ok (.slice (some ⟨g, 0, none⟩) (out.length + 1) cap) w2 ∧
      w2.cell? ⟨X.A, 0, none⟩ = some X.v ∧ w2.frozen? ⟨X.A, 0, none⟩ = false ∧ X.A < w2.heap.size ∧
      Wl { X with v := .slice (some ⟨g, 0, none⟩) (out.length + 1) cap } (w2.setCell ⟨X.A, 0, none⟩ (.slice (some ⟨g, 0, none⟩) (out.length + 1) cap)) (out ++ [c]) ∧ Stp X { X with v := .slice (some ⟨g, 0, none⟩) (out.length + 1) cap } w (w2.setCell ⟨X.A, 0, none⟩ (.slice (some ⟨g, 0, none⟩) (out.length + 1) cap)) := by
  have L1 := L.alloc (.cells #[.int .u8 n] 5)
  obtain ⟨g, cap, w2, hrun, hown, hgrow, hat, hlt⟩ := own_put L1.row (b := w.heap.size) (a := n) (heap_new _ _ rfl) (by omega) L1.hB ty
  have hnA : X.v.ownBlock ≠ some X.A := fun e => by
    rcases L.row.2 with ⟨h3, _⟩ | ⟨g, cap, cur, h3, _, h5, _⟩
    · rw [h3] at e; cases e
    · rw [h3] at e; cases e; have h6 := L.blk; rw [h5] at h6; simp at h6
  have hb : w2.heap[X.A]? = some (.cells #[X.v] 44 (0, 0)) := by rw [hgrow.block X.A L1.lt (fun e => hnA e.symm)]; exact L1.blk
  have hrow : w2.ownsRow X.B 5 1 (.slice (some ⟨g, 0, none⟩) (out.length + 1) cap) (out ++ [c]).length (Lib.byteCells (out ++ [c])) := by
    rw [List.length_append, Lib.byteCells, List.map_append]
    subst hc
    exact hown
  have hw := L1.put hrow hgrow (hat.elim (fun h => .inl h.symm) (fun h => .inr fun q hq => by simp [Value.ownBlock] at hq; omega))
  refine ⟨g, cap, w2, hrun, by simp [World.cell?, hb], by simp [World.frozen?, hb], lt_of_block hb, hw.1, ?_⟩
  exact (Stp.of_below ((Below.refl _ _).alloc (Nat.le_refl _) _)).trans hw.2
theorem byte_hi (z : Nat) : bits .or .u8 (IntKind.u8.wrap (z : Int)) 128 = ((UInt8.ofNat (z % 128 + 128)).toNat : Int) := by
  have h := or_128 ⟨z % 256, Nat.mod_lt _ (by omega)⟩
  have e : IntKind.u8.wrap (z : Int) = ((z % 256 : Nat) : Int) := by go_arith
  rw [e]
  refine h.trans ?_
  rw [UInt8.toNat_ofNat']
  show (((z % 256) % 128 + 128 : Nat) : Int) = _
  omega
theorem byte_lo {z : Nat} (h : z < 128) : (z : Int) = ((UInt8.ofNat z).toNat : Int) := by rw [UInt8.toNat_ofNat']; omega
theorem zig_lt {n : Int} (h1 : -9223372036854775808 ≤ n) (h2 : n ≤ 9223372036854775807) : zig n < 18446744073709551616 := by unfold zig; split <;> omega
/-- The loop by sevens: what is written, and what is left of the number. -/
def NumR (X : Wx) (w1 : World) (out : By) (z0 : Nat) (a : Value) (wr : World) : Prop := ∃ (f z : Nat) (Y : Wx) (o2 : By), a = .int .u64 z ∧ z < 128 ^ (f + 1) ∧ z < 18446744073709551616 ∧ f ≤ 9 ∧ o2.length + f = out.length + 9 ∧ o2 ++ sv f z = out ++ sv 9 z0 ∧ Wl Y wr o2 ∧ Stp X Y w1 wr
set_option maxHeartbeats 1000000 in
theorem number_any (L : Wl X w out) {q : Addr} {n : Int} (hq : w.cell? q = some (.int .i64 n)) (h1 : -9223372036854775808 ≤ n) (h2 : n ≤ 9223372036854775807) (hm : out.length ≤ 7000000) :
    Calls Try.prog 62 #[X.p, .pointer (some q)] w fun e w' => e = .returned (.tuple #[]) ∧ ∃ X', Wl X' w' (numW out n) ∧ Stp X X' w w' := by
  have hF := folded_any n h1 h2 w
  have hzl := zig_lt h1 h2
  have hN : numW out n = out ++ sv 9 (zig n) := rfl
  have HN := hide hN
  clear hN
  generalize zig n = z0 at *
  have LH := hide L
  clear L
  go_enter Try.func62, Try.ntmps62
  go_wp2_with fail
  refine hF.mono ?_
  rintro e w1 ⟨rfl, rfl⟩
  go_wp2
  go_loopw [4] (fun a wr => NumR X w1 out z0 a wr) (fun a _ => (intOf a).toNat)
  case atStart => exact ⟨9, z0, X, out, rfl, Nat.lt_trans hzl (by decide), hzl, Nat.le_refl _, rfl, rfl, LH.out, Stp.refl _ _⟩
  case round =>
    obtain ⟨f, z, Y, o2, rfl, hz, hz2, hf, hl, ho, LY, SY⟩ := hrel
    have hA := SY.A
    have c0 := LY.c0
    obtain ⟨sa, sc, hv⟩ := row_form LY.row
    rw [hA] at c0
    have HO := hide ho
    have HZ := hide hz
    clear ho hz
    by_cases hlt : z < 128
    · have d1 : decide (128 ≤ z) = false := by simp; omega
      have d2 : decide ((128 : Int) ≤ (z : Int)) = false := by simp; omega
      obtain ⟨g, cap, w2, hrun, k0, k1, k2, LZ, SZ⟩ := LY.app (UInt8.ofNat z) (byte_lo hlt) (by omega) 28
      rw [hA] at k0 k1 k2
      have HL := hide LZ
      have HS := hide SZ
      clear LZ SZ
      have HYS := hide SY
      rw [hv] at c0 hrun k0
      have HA := hide hA
      clear LY SY hA hv hl hf hz2 hzl
      have HR := hide hrun
      clear hrun
      go_wp2_with (at_builtin; refine wpList_append_eq rfl _ _ 28 28 rfl rfl rfl HR.out ?_)
      go_wp2
      go_returns
      refine ⟨rfl, _, ?_, by rw [← HA.out]; exact HYS.out.trans HS.out⟩
      have e : o2 ++ [UInt8.ofNat z] = out ++ sv 9 z0 := by
        rw [← HO.out]
        cases f with
        | zero => rfl
        | succ f => simp [sv, hlt]
      rw [HN.out, ← e, ← HA.out]
      exact HL.out
    · have d1 : decide (128 ≤ z) = true := by simp; omega
      have d2 : decide ((128 : Int) ≤ (z : Int)) = true := by simp; omega
      obtain ⟨g, cap, w2, hrun, k0, k1, k2, LZ, SZ⟩ := LY.app (UInt8.ofNat (z % 128 + 128)) (byte_hi z) (by omega) 28
      rw [hA] at k0 k1 k2
      have HL := hide LZ
      have HS := hide SZ
      clear LZ SZ
      have HYS := hide SY
      rw [hv] at c0 hrun k0
      have HA := hide hA
      have HF := hide hf
      have HLn := hide hl
      have HZ2 := hide hz2
      clear LY SY hA hv hl hf hz2 hzl
      have HR := hide hrun
      clear hrun
      go_wp2_with (at_builtin; refine wpList_append_eq rfl _ _ 28 28 rfl rfl rfl HR.out ?_)
      go_wp2
      go_roundw
      case rel =>
        obtain ⟨f, rfl⟩ : ∃ f', f = f' + 1 := by
          cases f with
          | zero => have := HZ.out; omega
          | succ f => exact ⟨f, rfl⟩
        refine ⟨f, z / 128, _, o2 ++ [UInt8.ofNat (z % 128 + 128)], ?_, ?_, ?_, ?_, ?_, ?_, by rw [← HA.out]; exact HL.out, by rw [← HA.out]; exact HYS.out.trans HS.out⟩
        · simp
        · have := HZ.out
          rw [Nat.pow_succ] at this
          omega
        · have := HZ2.out; omega
        · have := HF.out; omega
        · have := HLn.out
          simp only [List.length_append, List.length_singleton]
          omega
        · rw [← HO.out]
          simp [sv, hlt]
      case measure => simp [intOf]; omega
end
end Go.Proofs.Ytnkdlbiicfnmcaa
