/- slices.Repeat of one number. -/
import Derived.Test.YtaejhppfcmeopaaLxD
import Derived.Shelf.Bits.Mul64
import Derived.Laws.CopyOwn
namespace Go.Proofs.Ytaejhppfcmeopaa
open Go.RowKit Go.Lib

theorem run_intsM (w : World) (n : Nat) (hn : n ≤ 100000) : (Instr.makeSlice 34 (.int .i64 n) (.int .i64 n)).run Try.prog w = .ok (.slice (some ⟨w.heap.size, 0, none⟩) n n) (w.alloc (.cells (reps n (.int .i64 0)) 3)) := by
  obtain ⟨i0, hi, hz0, hz1, hz2⟩ := info_parts Try.info3
  have hmk := run_make (P := Try.prog) w 34 3 i0 (.int .i64 0) Try.underlying34 hi hz0 .i64 .i64 n n (by omega) (Int.le_refl _) (by rw [hz2]; omega) (by omega)
  rw [hz1] at hmk
  simp only [Int.toNat_natCast, Nat.mul_one] at hmk
  rw [show (Value.int .i64 0).cells = #[Value.int .i64 0] from rfl, made_one] at hmk
  exact hmk
set_option maxHeartbeats 1000000 in
theorem mul64_any (x y : Nat) (hx : x < 18446744073709551616) (hy : y < 18446744073709551616) (w : World) :
    Calls Try.prog 56 #[.int .u64 x, .int .u64 y] w fun e w' => e = .returned (.tuple #[.int .u64 ((x * y / 18446744073709551616 : Nat) : Int), .int .u64 ((x * y % 18446744073709551616 : Nat) : Int)]) ∧ w = w' := by
  obtain ⟨bd, bt, bw, hhi⟩ := Lib.mul64_hi x y hx hy
  have ba := Lib.half_mul_le (a := x / 4294967296) (b := y / 4294967296) (by omega) (by omega)
  have bb := Lib.half_mul_le (a := x / 4294967296) (b := y % 4294967296) (by omega) (by omega)
  have bc := Lib.half_mul_le (a := x % 4294967296) (b := y / 4294967296) (by omega) (by omega)
  have ba' : x / 4294967296 * (y / 4294967296) < 18446744073709551616 := by omega
  have bb' : x / 4294967296 * (y % 4294967296) < 18446744073709551616 := by omega
  have bc' : x % 4294967296 * (y / 4294967296) < 18446744073709551616 := by omega
  have bh1 : x / 4294967296 * (y / 4294967296) + (x / 4294967296 * (y % 4294967296) + x % 4294967296 * (y % 4294967296) / 4294967296) / 4294967296 < 18446744073709551616 := by omega
  have bh : x / 4294967296 * (y / 4294967296) + (x / 4294967296 * (y % 4294967296) + x % 4294967296 * (y % 4294967296) / 4294967296) / 4294967296 + ((x / 4294967296 * (y % 4294967296) + x % 4294967296 * (y % 4294967296) / 4294967296) % 4294967296 + x % 4294967296 * (y / 4294967296)) / 4294967296 < 18446744073709551616 := by omega
  go_enter Try.func56, Try.ntmps56
  go_wp2
  simp only [Mul64.maskN x hx, Mul64.maskN y hy, Mul64.divN, Mul64.mulN, Mul64.addN, Mul64.wrapN _ bd, Mul64.wrapN _ bb', Mul64.wrapN _ bt, Mul64.maskN _ bt, Mul64.wrapN _ bc', Mul64.wrapN _ bw, Mul64.wrapN _ ba', Mul64.wrapN _ bh1, Mul64.wrapN _ bh, Mul64.wrapM (x * y)]
  rw [hhi]
  go_ret2
  exact ⟨rfl, rfl⟩
theorem mul_any (x y : Nat) (hx : x < 18446744073709551616) (hy : y < 18446744073709551616) (w : World) :
    Calls Try.prog 53 #[.int .u64 x, .int .u64 y] w fun e w' => e = .returned (.tuple #[.int .u64 ((x * y / 18446744073709551616 : Nat) : Int), .int .u64 ((x * y % 18446744073709551616 : Nat) : Int)]) ∧ w = w' := by
  go_enter Try.func53, Try.ntmps53
  go_wp2_with (go_at_call 56; refine (mul64_any x y hx hy _).mono ?_; rintro e w' ⟨rfl, rfl⟩)
  go_ret2
  exact ⟨rfl, rfl⟩
/-- The first k of a new row are x. -/
structure Rp (w wr : World) (n k : Nat) (x : Int) : Prop where
  blk : ∃ arr, wr.heap[w.heap.size]? = some (.cells arr 3 (0, 0)) ∧ arr.size = n ∧ ∀ i, i < k → arr[i]? = some (.int .i64 x)
  bel : Below w.heap.size w wr
  le : 1 ≤ k ∧ k ≤ n
/-- A copy whose run is known, at the list of a plain region's operations. -/
theorem wpList_copy_eq {P : Program} {w : World} {ops : Array Oper} {rest : List Oper} {o : Oper} {a : Act} {Q : Exit → Act → World → Prop} (hgd : o.guard = none) (s x : Operand) (t : TypeId)
    (ho : o.op = .call { callee := .builtin .copy, args := #[s, x], argTypes := #[t, t] }) {v1 v2 v : Value} {w' : World} (hs : a.eval s = v1) (hx : a.eval x = v2) (hr : (Builtin.copy_ #[t, t] o.type #[v1, v2]).run P w = .ok v w')
    (h : wpList P ops Q rest (a.put o.dst v) w') : wpList P ops Q (o :: rest) a w := by
  refine wpList_plain hgd fun _ hK => ?_
  unfold Oper.wp execOp
  simp only [ho, resolve, invoke, builtin, Sem.run_bind, Sem.run_pure, Result.andThen_ok, List.map_toArray, List.map_cons, List.map_nil, hs, hx, hr]
  exact hK _ _ h
/-- A copy whose run is known, at a step of a region that draws its order. -/
theorem step_copy_eq {P : Program} {w : World} {ops : Array Oper} {o : Oper} {a : Act} {K : Act → World → Prop} {Q : Exit → Act → World → Prop} {E : Prop} (hgd : o.guard = none) (s x : Operand) (t : TypeId)
    (ho : o.op = .call { callee := .builtin .copy, args := #[s, x], argTypes := #[t, t] }) {v1 v2 v : Value} {w' : World} (hs : a.eval s = v1) (hx : a.eval x = v2) (hr : (Builtin.copy_ #[t, t] o.type #[v1, v2]).run P w = .ok v w')
    (h : K (a.put o.dst v) w') : if Region.wanted o (yielded ops a.tmps) = true then Oper.wp P o a w K Q else E := by
  have hw : Region.wanted o (yielded ops a.tmps) = true := by simp [Region.wanted, hgd]
  rw [if_pos hw]
  unfold Oper.wp execOp
  simp only [ho, resolve, invoke, builtin, Sem.run_bind, Sem.run_pure, Result.andThen_ok, List.map_toArray, List.map_cons, List.map_nil, hs, hx, hr]
  exact h
theorem Rp.more {w wr : World} {n k : Nat} {x : Int} (R : Rp w wr n k x) :
    ∃ arr, (Builtin.copy_ #[34, 34] 3 #[.slice (some ⟨w.heap.size, k, none⟩) (n - k) (n - k), .slice (some ⟨w.heap.size, 0, none⟩) k n]).run Try.prog wr = .ok (.int .i64 (min k (n - k) : Nat)) (wr.setRow w.heap.size arr) ∧ (k < n → Rp w (wr.setRow w.heap.size arr) n (k + min k (n - k)) x) := by
  obtain ⟨arr, h1, h2, h3⟩ := R.blk
  obtain ⟨l1, l2⟩ := R.le
  have hc := run_copy_row (P := Try.prog) wr 34 34 3 3 w.heap.size k (n - k) (n - k) ⟨w.heap.size, 0, none⟩ k n arr 3 (List.replicate (min k (n - k)) (.int .i64 x)) Try.underlying34 (by kernel_rfl) h1 (by simp) (fun j v hj => ?_) (by simp; omega) (fun v hv => by rw [List.eq_of_mem_replicate hv]; rfl)
  · rw [List.length_replicate] at hc
    refine ⟨_, hc, fun hk => ⟨⟨_, setRow_heap wr w.heap.size arr _ _ _ h1, ?_, fun i hi => ?_⟩, below_setRow R.bel (Nat.le_refl _) _, by omega⟩⟩
    · simp; omega
    · rw [List.getElem?_toArray]
      rcases Nat.lt_or_ge i k with hik | hik
      · rw [List.append_assoc, List.getElem?_append_left (by simp; omega), List.getElem?_take, if_pos hik]
        simpa using h3 i hik
      · rw [List.append_assoc, List.getElem?_append_right (by simp; omega), List.getElem?_append_left (by simp; omega), List.getElem?_replicate, if_pos (by simp; omega)]
  · rw [List.getElem?_replicate] at hj
    split at hj
    · cases hj
      rw [show (⟨w.heap.size, 0, none⟩ : Addr).add j = ⟨w.heap.size, j, none⟩ by cases j <;> simp [Addr.add]]
      exact cell_of h1 (h3 j (by omega))
    · cases hj
theorem Rp.drew {w wr : World} {n k : Nat} {x : Int} (R : Rp w wr n k x) : Rp w wr.drew n k x := ⟨R.blk, below_drewN R.bel 1, R.le⟩
theorem Rp.start {w W1 : World} {n b cp : Nat} {x : Int} (h0 : w.cell? ⟨b, 0, none⟩ = some (.int .i64 x)) (hn : 1 ≤ n) (hW : w.alloc (.cells (reps n (.int .i64 0)) 3) = W1) :
    ∃ arr, (Builtin.copy_ #[34, 34] 3 #[.slice (some ⟨w.heap.size, 0, none⟩) n n, .slice (some ⟨b, 0, none⟩) 1 cp]).run Try.prog W1 = .ok (.int .i64 1) (W1.setRow w.heap.size arr) ∧ Rp w (W1.setRow w.heap.size arr) n 1 x := by
  have hb : b < w.heap.size := World.block_lt_of_cell? w _ h0
  have hnb : W1.heap[w.heap.size]? = some (.cells (reps n (.int .i64 0)) 3 (0, 0)) := by rw [← hW]; exact heap_new _ _ rfl
  have hbl : Below w.heap.size w W1 := by rw [← hW]; exact (Below.refl _ _).alloc (Nat.le_refl _) _
  have hc := run_copy_row (P := Try.prog) W1 34 34 3 3 w.heap.size 0 n n ⟨b, 0, none⟩ 1 cp (reps n (.int .i64 0)) 3 [.int .i64 x] Try.underlying34 (by kernel_rfl) hnb (by show 1 = min 1 n; omega) (fun j v hj => ?_) (by rw [reps_size]; simpa using hn) (fun v hv => by simp at hv; rw [hv]; rfl)
  · refine ⟨_, hc, ⟨_, setRow_heap W1 w.heap.size _ _ _ _ hnb, ?_, fun i hi => ?_⟩, below_setRow hbl (Nat.le_refl _) _, by omega⟩
    · have := reps_size n (.int .i64 0)
      simp [this]; omega
    · obtain rfl : i = 0 := by omega
      rw [List.getElem?_toArray]; rfl
  · cases j with
    | zero => simp at hj; subst hj; rw [show (⟨b, 0, none⟩ : Addr).add 0 = ⟨b, 0, none⟩ by simp [Addr.add], hbl.cell (p := ⟨b, 0, none⟩) hb]; exact h0
    | succ j => simp at hj
set_option maxHeartbeats 1000000 in
theorem repeat_any {w : World} {n b cp : Nat} {x : Int} (h0 : w.cell? ⟨b, 0, none⟩ = some (.int .i64 x)) (hn : 1 ≤ n) (hn2 : n ≤ 1000) :
    Calls Try.prog 45 #[.slice (some ⟨b, 0, none⟩) 1 cp, .int .i64 n] w fun e w' => e = .returned (.slice (some ⟨w.heap.size, 0, none⟩) n n) ∧ Rp w w' n n x := by
  obtain ⟨W1, hW1⟩ : ∃ W1, w.alloc (.cells (reps n (.int .i64 0)) 3) = W1 := ⟨_, rfl⟩
  obtain ⟨arr, hrun, R0⟩ := Rp.start (cp := cp) h0 hn hW1
  have hmul := mul_any 1 n (by omega) (by omega) w
  rw [show 1 * n / 18446744073709551616 = 0 by omega, show 1 * n % 18446744073709551616 = n by omega] at hmul
  have hmk := run_intsM w n (by omega)
  have HR := hide R0
  have HRUN := hide hrun
  have b1 : (n : Int) ≤ 1000 := by omega
  have b2 : 1 ≤ (n : Int) := by omega
  have b3 : decide ((n : Int) < 0) = false := by simp
  clear R0 hrun
  go_enter Try.func45, Try.ntmps45
  have b6 : decide (9223372036854775807 < (n : Int)) = false := by simp; omega
  go_wp2_with fail
  refine hmul.mono ?_
  rintro e w2 ⟨rfl, rfl⟩
  have hrun := HRUN.out
  go_wp2
  generalize W1.setRow w.heap.size arr = W2 at HR ⊢
  clear hmul hmk HRUN
  go_loopw [8] (fun k wr => ∃ j : Nat, k = .int .i64 j ∧ Hid (Rp w wr n j x)) (fun k _ => n - (RowKit.intOf k).toNat)
  case atStart => exact ⟨1, rfl, HR⟩
  case round =>
    obtain ⟨k, rfl, HK⟩ := hrel
    obtain ⟨l1, l2⟩ := HK.out.le
    by_cases hlt : k < n
    · obtain ⟨ar, hrun, hnext⟩ := HK.out.drew.more
      have HN := hide (hnext hlt)
      have b4 : (k : Int) < (n : Int) := by omega
      have b5 : (k : Int) ≤ (n : Int) := by omega
      have b7 : IntKind.i64.wrap ((k : Int) + ((min k (n - k) : Nat) : Int)) = (k : Int) + ((min k (n - k) : Nat) : Int) := by rw [IntKind.wrap_i64]; omega
      clear hnext
      have hc1 : 1 ≤ min k (n - k) := by omega
      generalize min k (n - k) = c at *
      go_wp2_with fail
      have b8 : ¬ n = k := by omega
      go_region_law fail
      all_goals
        go_simp
        refine ⟨⟨_, _, _, _, _, _, _, _, _, _, _, _, _, _, ?rel, rfl⟩, ?measure⟩
        case rel => exact ⟨k + c, by go_num, HN⟩
        case measure => simp [RowKit.intOf]; omega
    · obtain rfl : k = n := by omega
      go_wp2
      go_ret
      exact ⟨rfl, HK.out⟩
end Go.Proofs.Ytaejhppfcmeopaa
