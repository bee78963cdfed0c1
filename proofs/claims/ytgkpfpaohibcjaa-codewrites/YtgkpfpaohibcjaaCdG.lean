/- The document's number and list. -/
import Derived.Test.YtgkpfpaohibcjaaCdR3
namespace Go.Proofs.Ytgkpfpaohibcjaa
open Go.RowKit
/-- Bytes in a row of their own, from block B on. -/
abbrev Ow (B : Nat) (w : World) (v : Value) (out : By) : Prop := w.ownsRow B 5 1 v out.length (Lib.byteCells out)
/-- What a call that writes leaves as it was. -/
def Wk (B : Nat) (w w' : World) : Prop := Below B w w' ∧ SmX [5] w w'
theorem Wk.refl (B : Nat) (w : World) : Wk B w w := ⟨Below.refl _ _, fun _ _ _ _ _ _ => rfl⟩
theorem Wk.trans {B : Nat} {a b c : World} (h : Wk B a b) (g : Wk B b c) : Wk B a c := ⟨h.1.trans g.1, h.2.trans g.2⟩
theorem Wk.of_below {B : Nat} {w w' : World} (h : Below w.heap.size w w') (hB : B ≤ w.heap.size) : Wk B w w' := ⟨h.mono hB, SmX.of_below h⟩
section
variable {B : Nat} {w w' : World} {v : Value} {out : By}
theorem Ow.app (R : Ow B w v out) (c : UInt8) {n : Int} (hc : n = (c.toNat : Int)) (hm : out.length ≤ 100000000000000) (hB : B ≤ w.heap.size) :
    ∃ g cap w2, (Builtin.append_ #[28, 28] 28 #[v, .slice (some ⟨w.heap.size, 0, none⟩) 1 1]).run Try.prog (w.alloc (.cells #[.int .u8 n] 5)) = .ok (.slice (some ⟨g, 0, none⟩) (out.length + 1) cap) w2 ∧ Ow B w2 (.slice (some ⟨g, 0, none⟩) (out.length + 1) cap) (out ++ [c]) ∧ Wk B w w2 := by
  have hinf := Try.info5
  cases hi : Try.prog.info? 5 with
  | none => rw [hi] at hinf; cases hinf
  | some i0 =>
    rw [hi] at hinf
    simp only [Option.map_some, Option.some.injEq, Prod.mk.injEq] at hinf
    obtain ⟨hz0, hz1, hz2⟩ := hinf
    have R1 := R.alloc (.cells #[.int .u8 n] 5)
    obtain ⟨g, cap, w2, hrun, hown, hgrow, hat, hlt⟩ := run_append_lies (P := Try.prog) (w.alloc (.cells #[.int .u8 n] 5)) 28 28 B 5 i0 _ 1 1 Try.underlying28 hi hz0 hz1 hz2 rfl (by decide) v out.length _ R1 ⟨w.heap.size, 0, none⟩ 1 1 [.int .u8 n] rfl (World.news_of_block (heap_new _ _ rfl))
      (by simp [Value.oneCell']) (by omega) (by simp only [maxLen]; omega) (by omega) (by simp; omega) _ rfl
    refine ⟨g, cap, w2, hrun, ?_, ?_, ?_⟩
    · subst hc
      show w2.ownsRow B 5 1 _ (out ++ [c]).length (Lib.byteCells (out ++ [c]))
      rw [List.length_append, Lib.byteCells, List.map_append]
      exact hown
    · exact Below.grown ((Below.refl _ _).alloc hB _) hgrow (by simp; omega) (fun q hq => (R.lt q hq).1)
    · intro j d t f hj ht
      have hjl := lt_of_block hj
      rw [hgrow.block j (by simp; omega) (fun e => ?_), Below.heap_alloc _ _ _ hjl]
      rcases R.2 with ⟨h1, _⟩ | ⟨q, _, cur, h1, _, h3, _⟩
      · rw [h1] at e; cases e
      · rw [h1] at e
        cases e
        rw [h3] at hj
        cases hj
        exact ht (by simp)
theorem Ow.keep (R : Ow B w v out) (h : Below w.heap.size w w') : Ow B w' v out := ownsRow_keep R fun q hq => h.block q (R.lt q hq).2
theorem wdiv {z : Nat} (h : z < 18446744073709551616) : IntKind.u64.wrap ((z : Int) / 128) = ((z / 128 : Nat) : Int) := by
  have h1 : (z : Int) < 18446744073709551616 := by omega
  clear h
  go_arith
def NuR (B : Nat) (w1 : World) (out : By) (z0 : Nat) (ov a : Value) (wr : World) : Prop := ∃ (f z : Nat) (o2 : By), a = .int .u64 z ∧ z < 128 ^ (f + 1) ∧ z < 18446744073709551616 ∧ f ≤ 9 ∧ o2.length + f = out.length + 9 ∧ o2 ++ sv f z = out ++ sv 9 z0 ∧ Ow B wr ov o2 ∧ Wk B w1 wr ∧ B ≤ wr.heap.size
set_option maxRecDepth 100000 in
set_option maxHeartbeats 1000000 in
theorem gnumber_any (R : Ow B w v out) (hB : B ≤ w.heap.size) {n : Int} (h1 : -9223372036854775808 ≤ n) (h2 : n ≤ 9223372036854775807) (hm : out.length ≤ 90000000000000) :
    Calls Try.prog 18 #[v, .int .i64 n] w fun e w' => ∃ v', e = .returned v' ∧ Ow B w' v' (out ++ numE n) ∧ Wk B w w' := by
  have hzl := zig_lt h1 h2
  obtain ⟨a0, cap0, hv⟩ := row_form R
  subst hv
  have HR := hide R
  have HB := hide hB
  have HM := hide hm
  have HE := hide (show numE n = sv 9 (zig n) from rfl)
  have HZL := hide hzl
  clear R hB hm hzl
  by_cases hn : n < 0
  · have d0 : decide (n < 0) = true := by simpa using hn
    have HN := hide hn
    go_enter Try.func18, Try.ntmps18
    go_wp2
    go_loopw [0, 5] (fun o a wr => NuR B w out (zig n) o a wr) (fun _ a _ => (intOf a).toNat)
    case atStart => exact ⟨9, zig n, out, congrArg (Value.int .u64) (by rw [zig_neg (by have := HN.out; omega)]; first | rfl | omega | go_arith), Nat.lt_trans HZL.out (by decide), HZL.out, Nat.le_refl _, rfl, rfl, HR.out, Wk.refl _ _, HB.out⟩
    case round =>
      obtain ⟨f, z, o2, rfl, hz, hz2, hf, hl, ho, RY, SY, hBr⟩ := hrel
      obtain ⟨sa, sc, hv⟩ := row_form RY
      subst hv
      have HO := hide ho
      have HZ := hide hz
      have HS := hide SY
      have HZ2 := hide hz2
      have HF := hide hf
      have HLn := hide hl
      have hol : o2.length ≤ 100000000000000 := by have := HM.out; omega
      by_cases hlt : z < 128
      · have d1 : decide (127 < z) = false := by simp; omega
        have d2 : decide ((127 : Int) < (z : Int)) = false := by simp; omega
        obtain ⟨g, cap, w2, hrun, R2, K2⟩ := RY.app (UInt8.ofNat z) (byte_lo hlt) hol hBr
        have HR2 := hide R2
        have HK2 := hide K2
        have HRUN := hide hrun
        clear R2 K2 hrun RY SY ho hz hz2 hf hl hBr hol
        generalize hol2 : o2.length = ol at *
        have HOL := hide hol2
        clear hol2
        go_wp2_with (at_builtin; refine wpList_append_eq rfl _ _ 28 28 rfl rfl rfl HRUN.out ?_)
        go_wp2
        go_ret
        have e : o2 ++ [UInt8.ofNat z] = out ++ numE n := by
          rw [HE.out, ← HO.out]
          cases f with
          | zero => rfl
          | succ f => simp [sv, hlt]
        have h2 := HR2.out
        rw [e] at h2
        exact ⟨_, rfl, h2, HS.out.trans HK2.out⟩
      · have d1 : decide (127 < z) = true := by simp; omega
        have d2 : decide ((127 : Int) < (z : Int)) = true := by simp; omega
        have hby : (z : Int) % 128 + 128 = (((UInt8.ofNat (z % 128 + 128)).toNat : Nat) : Int) := by rw [UInt8.toNat_ofNat']; omega
        obtain ⟨g, cap, w2, hrun, R2, K2⟩ := RY.app (UInt8.ofNat (z % 128 + 128)) hby hol hBr
        have HR2 := hide R2
        have HK2 := hide K2
        have HRUN := hide hrun
        have HBr := hide (Nat.le_trans hBr (K2.1.size))
        clear R2 K2 hrun RY SY ho hz hz2 hf hl hBr hol hby
        generalize hol2 : o2.length = ol at *
        have HOL := hide hol2
        clear hol2
        go_wp2_with (at_builtin; refine wpList_append_eq rfl _ _ 28 28 rfl rfl rfl HRUN.out ?_)
        go_wp2
        go_roundw
        case rel =>
          obtain ⟨f, rfl⟩ : ∃ f', f = f' + 1 := by
            cases f with
            | zero => have := HZ.out; omega
            | succ f => exact ⟨f, rfl⟩
          refine ⟨f, z / 128, o2 ++ [UInt8.ofNat (z % 128 + 128)], ?_, ?_, ?_, ?_, ?_, ?_, HR2.out, HS.out.trans HK2.out, by have := HBr.out; omega⟩
          · exact congrArg (Value.int .u64) (wdiv HZ2.out)
          · have := HZ.out
            rw [Nat.pow_succ] at this
            omega
          · have := HZ2.out; omega
          · have := HF.out; omega
          · have := HLn.out
            simp only [List.length_append, List.length_singleton]
            have := HOL.out
            omega
          · rw [← HO.out]
            simp [sv, hlt]
        case measure =>
          rw [wdiv HZ2.out]
          simp [intOf]
          omega
  · have d0 : decide (n < 0) = false := by simpa using hn
    have HN := hide hn
    go_enter Try.func18, Try.ntmps18
    go_wp2
    go_loopw [0, 5] (fun o a wr => NuR B w out (zig n) o a wr) (fun _ a _ => (intOf a).toNat)
    case atStart => exact ⟨9, zig n, out, congrArg (Value.int .u64) (by rw [zig_pos (by have := HN.out; omega)]), Nat.lt_trans HZL.out (by decide), HZL.out, Nat.le_refl _, rfl, rfl, HR.out, Wk.refl _ _, HB.out⟩
    case round =>
      obtain ⟨f, z, o2, rfl, hz, hz2, hf, hl, ho, RY, SY, hBr⟩ := hrel
      obtain ⟨sa, sc, hv⟩ := row_form RY
      subst hv
      have HO := hide ho
      have HZ := hide hz
      have HS := hide SY
      have HZ2 := hide hz2
      have HF := hide hf
      have HLn := hide hl
      have hol : o2.length ≤ 100000000000000 := by have := HM.out; omega
      by_cases hlt : z < 128
      · have d1 : decide (127 < z) = false := by simp; omega
        have d2 : decide ((127 : Int) < (z : Int)) = false := by simp; omega
        obtain ⟨g, cap, w2, hrun, R2, K2⟩ := RY.app (UInt8.ofNat z) (byte_lo hlt) hol hBr
        have HR2 := hide R2
        have HK2 := hide K2
        have HRUN := hide hrun
        clear R2 K2 hrun RY SY ho hz hz2 hf hl hBr hol
        generalize hol2 : o2.length = ol at *
        have HOL := hide hol2
        clear hol2
        go_wp2_with (at_builtin; refine wpList_append_eq rfl _ _ 28 28 rfl rfl rfl HRUN.out ?_)
        go_wp2
        go_ret
        have e : o2 ++ [UInt8.ofNat z] = out ++ numE n := by
          rw [HE.out, ← HO.out]
          cases f with
          | zero => rfl
          | succ f => simp [sv, hlt]
        have h2 := HR2.out
        rw [e] at h2
        exact ⟨_, rfl, h2, HS.out.trans HK2.out⟩
      · have d1 : decide (127 < z) = true := by simp; omega
        have d2 : decide ((127 : Int) < (z : Int)) = true := by simp; omega
        have hby : (z : Int) % 128 + 128 = (((UInt8.ofNat (z % 128 + 128)).toNat : Nat) : Int) := by rw [UInt8.toNat_ofNat']; omega
        obtain ⟨g, cap, w2, hrun, R2, K2⟩ := RY.app (UInt8.ofNat (z % 128 + 128)) hby hol hBr
        have HR2 := hide R2
        have HK2 := hide K2
        have HRUN := hide hrun
        have HBr := hide (Nat.le_trans hBr (K2.1.size))
        clear R2 K2 hrun RY SY ho hz hz2 hf hl hBr hol hby
        generalize hol2 : o2.length = ol at *
        have HOL := hide hol2
        clear hol2
        go_wp2_with (at_builtin; refine wpList_append_eq rfl _ _ 28 28 rfl rfl rfl HRUN.out ?_)
        go_wp2
        go_roundw
        case rel =>
          obtain ⟨f, rfl⟩ : ∃ f', f = f' + 1 := by
            cases f with
            | zero => have := HZ.out; omega
            | succ f => exact ⟨f, rfl⟩
          refine ⟨f, z / 128, o2 ++ [UInt8.ofNat (z % 128 + 128)], ?_, ?_, ?_, ?_, ?_, ?_, HR2.out, HS.out.trans HK2.out, by have := HBr.out; omega⟩
          · exact congrArg (Value.int .u64) (wdiv HZ2.out)
          · have := HZ.out
            rw [Nat.pow_succ] at this
            omega
          · have := HZ2.out; omega
          · have := HF.out; omega
          · have := HLn.out
            simp only [List.length_append, List.length_singleton]
            have := HOL.out
            omega
          · rw [← HO.out]
            simp [sv, hlt]
        case measure =>
          rw [wdiv HZ2.out]
          simp [intOf]
          omega
end
end Go.Proofs.Ytgkpfpaohibcjaa
