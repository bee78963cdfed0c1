/- Of each variable those that read it, and those that write it: variablesOf. -/
import Derived.Test.YtaejhppfcmeopaaLvH
namespace Go.Proofs.Ytaejhppfcmeopaa
open Go.RowKit
abbrev z16 : Array Value := #[.int .u64 0, .int .u64 0, .int .u64 0, .int .u64 0, .int .u64 0, .int .u64 0, .int .u64 0, .int .u64 0, .int .u64 0, .int .u64 0, .int .u64 0, .int .u64 0, .int .u64 0, .int .u64 0, .int .u64 0, .int .u64 0]
theorem info_var : (Try.prog.info? 68).map (fun i => (i.zero, i.size, i.bytes)) = some (some (.agg z16), 16, 128) := by kernel_rfl
theorem made16 {n i : Nat} (h : i < n) : (madeCells z16 n)[i]? = some (.int .u64 0) := by
  have h8 : i % 16 < 16 := Nat.mod_lt _ (by decide)
  have : (madeCells z16 n)[i]? = some (z16[i % 16]!) := by simp [madeCells, h]
  rw [this]
  match i % 16, h8 with
  | 0, _ => rfl | 1, _ => rfl | 2, _ => rfl | 3, _ => rfl | 4, _ => rfl | 5, _ => rfl | 6, _ => rfl | 7, _ => rfl | 8, _ => rfl | 9, _ => rfl | 10, _ => rfl | 11, _ => rfl | 12, _ => rfl | 13, _ => rfl | 14, _ => rfl | 15, _ => rfl | k + 16, h => exact absurd h (by omega)
theorem run_vars (w : World) (n : Nat) (hn : n ≤ 10000) : (Instr.makeSlice 60 (.int .i64 n) (.int .i64 n)).run Try.prog w = .ok (.slice (some ⟨w.heap.size, 0, none⟩) n n) (w.alloc (.cells (madeCells z16 (n * 16)) 68)) := by
  obtain ⟨i0, hi, hz0, hz1, hz2⟩ := info_parts info_var
  have hmk := run_make (P := Try.prog) w 60 68 i0 (.agg z16) Try.underlying60 hi hz0 .i64 .i64 n n (by omega) (Int.le_refl _) (by rw [hz2]; omega) (by omega)
  rw [hz1] at hmk
  simp only [Int.toNat_natCast] at hmk
  exact hmk
/-- The variables' sets that are being made: E those that read, F those that write. -/
structure Vm (w0 w : World) (gb n : Nat) (E F : List (Nat × Nat)) : Prop where
  blk : ∃ arr, w.heap[gb]? = some (.cells arr 68 (0, 0)) ∧ arr.size = n * 16 ∧ (∀ t k, t < n → k < 8 → arr[t * 16 + k]? = some (.int .u64 (wd (ed E t) k))) ∧ ∀ t k, t < n → k < 8 → arr[t * 16 + 8 + k]? = some (.int .u64 (wd (ed F t) k))
  bel : Below w0.heap.size w0 w
  lo : w0.heap.size ≤ gb
section
variable {w0 w w' : World} {gb n : Nat} {E F : List (Nat × Nat)}
theorem Vm.lt (M : Vm w0 w gb n E F) : gb < w.heap.size := by
  obtain ⟨arr, h, _⟩ := M.blk
  exact lt_of_block h
theorem Vm.new (w : World) (n : Nat) : Vm w (w.alloc (.cells (madeCells z16 (n * 16)) 68)) w.heap.size n [] [] := by
  refine ⟨⟨_, heap_new _ _ rfl, size_madeCells _ _, fun t k ht hk => ?_, fun t k ht hk => ?_⟩, (Below.refl _ _).alloc (Nat.le_refl _) _, Nat.le_refl _⟩
  · rw [ed_nil, wd_zero, made16 (by omega)]
    rfl
  · rw [ed_nil, wd_zero, made16 (by omega)]
    rfl
theorem Vm.under (M : Vm w0 w gb n E F) (h : Below w.heap.size w w') : Vm w0 w' gb n E F := by
  obtain ⟨arr, h1, h2, h3⟩ := M.blk
  exact ⟨⟨arr, (h.block _ (lt_of_block h1)).trans h1, h2, h3⟩, M.bel.trans (h.mono M.bel.size), M.lo⟩
theorem Vm.at1 (M : Vm w0 w gb n E F) {t : Nat} (ht : t < n) : SetAt w gb (t * 16) (ed E t) := fun k hk => by
  obtain ⟨arr, h1, h2, h3, h4⟩ := M.blk
  exact cell_of h1 (h3 t k ht hk)
theorem Vm.at2 (M : Vm w0 w gb n E F) {t : Nat} (ht : t < n) : SetAt w gb (t * 16 + 8) (ed F t) := fun k hk => by
  obtain ⟨arr, h1, h2, h3, h4⟩ := M.blk
  exact cell_of h1 (h4 t k ht hk)
theorem Vm.fz (M : Vm w0 w gb n E F) (o : Nat) : w.frozen? ⟨gb, o, none⟩ = false := by
  obtain ⟨arr, h1, _⟩ := M.blk
  exact fz_of _ h1
theorem Vm.add1 (M : Vm w0 w gb n E F) {t s : Nat} (ht : t < n) (hs : s < 512) : Vm w0 (w.setCell ⟨gb, t * 16 + s / 64, none⟩ (.int .u64 (wd (ed E t ||| 2 ^ s) (s / 64) : Nat))).drew gb n (E ++ [(t, s)]) F := by
  obtain ⟨arr, h1, h2, h3, h4⟩ := M.blk
  refine ⟨⟨_, heap_setCell_same _ _ _ _ h1, by simpa using h2, fun t' k ht' hk => ?_, fun t' k ht' hk => ?_⟩, (M.bel.setCell M.lo _).drew, M.lo⟩
  · rw [Array.getElem?_setIfInBounds]
    by_cases e : t' = t
    · subst e
      rw [ed_same _ _ _ hs]
      by_cases e2 : s / 64 = k
      · subst e2
        rw [if_pos rfl, if_pos (by omega)]
      · rw [if_neg (by omega), wd_add_other _ (fun h => e2 h.symm)]
        exact h3 t' k ht' hk
    · rw [if_neg (by omega), ed_other _ _ e]
      exact h3 t' k ht' hk
  · rw [Array.getElem?_setIfInBounds, if_neg (by omega)]
    exact h4 t' k ht' hk
theorem Vm.add2 (M : Vm w0 w gb n E F) {t s : Nat} (ht : t < n) (hs : s < 512) : Vm w0 (w.setCell ⟨gb, t * 16 + 8 + s / 64, none⟩ (.int .u64 (wd (ed F t ||| 2 ^ s) (s / 64) : Nat))).drew gb n E (F ++ [(t, s)]) := by
  obtain ⟨arr, h1, h2, h3, h4⟩ := M.blk
  refine ⟨⟨_, heap_setCell_same _ _ _ _ h1, by simpa using h2, fun t' k ht' hk => ?_, fun t' k ht' hk => ?_⟩, (M.bel.setCell M.lo _).drew, M.lo⟩
  · rw [Array.getElem?_setIfInBounds, if_neg (by omega)]
    exact h3 t' k ht' hk
  · rw [Array.getElem?_setIfInBounds]
    by_cases e : t' = t
    · subst e
      rw [ed_same _ _ _ hs]
      by_cases e2 : s / 64 = k
      · subst e2
        rw [if_pos rfl, if_pos (by omega)]
      · rw [if_neg (by omega), wd_add_other _ (fun h => e2 h.symm)]
        exact h4 t' k ht' hk
    · rw [if_neg (by omega), ed_other _ _ e]
      exact h4 t' k ht' hk
theorem Vm.call1 (M : Vm w0 w gb n E F) {t s : Nat} (ht : t < n) (hs : s < 512) : Calls Try.prog 42 #[.pointer (some ⟨gb, t * 16, none⟩), .int .i64 s] w fun e w' => (∃ v, e = .returned v) ∧ Vm w0 w' gb n (E ++ [(t, s)]) F ∧ Kp (fun k => k = gb) w w' := by
  refine (add_any (M.at1 ht) (M.fz _) hs).mono ?_
  rintro e w1 ⟨h1, rfl⟩
  exact ⟨h1, M.add1 ht hs, (Kp.setCell _ _ _).drew⟩
theorem Vm.call2 (M : Vm w0 w gb n E F) {t s : Nat} (ht : t < n) (hs : s < 512) : Calls Try.prog 42 #[.pointer (some ⟨gb, t * 16 + 8, none⟩), .int .i64 s] w fun e w' => (∃ v, e = .returned v) ∧ Vm w0 w' gb n E (F ++ [(t, s)]) ∧ Kp (fun k => k = gb) w w' := by
  refine (add_any (M.at2 ht) (M.fz _) hs).mono ?_
  rintro e w1 ⟨h1, rfl⟩
  exact ⟨h1, M.add2 ht hs, (Kp.setCell _ _ _).drew⟩
/-- The variables' sets lie. -/
structure VarA (w : World) (gv K : Nat) (bs : List Blk) : Prop where
  gl : gv < w.heap.size
  us : ∀ v, v < K → SetAt w gv (v * 16) (usm bs v)
  ds : ∀ v, v < K → SetAt w gv (v * 16 + 8) (dfm bs v)
theorem VarA.below {gv K : Nat} {bs : List Blk} (V : VarA w gv K bs) (h : Below w.heap.size w w') : VarA w' gv K bs :=
  ⟨Nat.lt_of_lt_of_le V.gl h.size, fun v hv k hk => by rw [keep_cell h V.gl]; exact V.us v hv k hk, fun v hv k hk => by rw [keep_cell h V.gl]; exact V.ds v hv k hk⟩
set_option maxHeartbeats 4000000 in
theorem variablesOf_any {v : Value} {bs : List Blk} {K : Nat} (S : Snd bs K) (R : BlksAt w v bs) : Calls Try.prog 35 #[v, .int .i64 K] w fun e w' => e = .returned (.slice (some ⟨w.heap.size, 0, none⟩) K K) ∧ VarA w' w.heap.size K bs ∧ Below w.heap.size w w' := by
  obtain ⟨ao, cap, rfl, h2⟩ := R
  have hl := S.l
  have hv := S.v
  have hr := run_vars w K (by omega)
  have M0 := Vm.new w K
  generalize hW0 : w.alloc (.cells (madeCells z16 (K * 16)) 68) = W0 at *
  have H2 := hide h2
  have HS := hide S
  clear h2 S hW0
  generalize hn : bs.length = n at *
  have HN := hide hn
  have HM0 := hide M0
  have hn2 : (n : Int) ≤ 512 := by omega
  have hk2 : (K : Int) ≤ 4096 := by omega
  clear hn M0
  go_enter Try.func35, Try.ntmps35
  go_wp2
  go_loopw [6, 7, 9, 11, 16] (fun _ _ _ _ i wr => ∃ j : Nat, j ≤ n ∧ i = .int .i64 j ∧ Hid (Vm w wr w.heap.size K (eG mT (·.u) bs j) (eG mT (·.d) bs j))) (fun _ _ _ _ i _ => n - (intOf i).toNat)
  case atStart => exact ⟨0, Nat.zero_le _, rfl, HM0.out⟩
  case round =>
    obtain ⟨j, hj, rfl, HM⟩ := hrel
    obtain ⟨W1, rfl⟩ : ∃ W1, W1 = wr := ⟨wr, rfl⟩
    by_cases hlt : j < n
    · obtain ⟨b, hb⟩ : ∃ b, bs[j]? = some b := ⟨bs[j]'(by rw [HN.out]; exact hlt), by simp⟩
      obtain ⟨g, o, vu, vd, vn, rfl, hg, c0, c1, c2, IU, ID, IN⟩ := H2.out j b hb
      rw [← HM.out.bel.cell (p := ⟨g, o + j * 3, none⟩) hg] at c0
      rw [← HM.out.bel.cell (p := ⟨g, o + j * 3 + 1, none⟩) hg] at c1
      rw [← HM.out.bel.cell (p := ⟨g, o + j * 3 + 2, none⟩) hg] at c2
      obtain ⟨an, cn, rfl⟩ := IN.slice
      obtain ⟨au, cu, rfl⟩ := IU.slice
      obtain ⟨ad, cd, rfl⟩ := ID.slice
      have HIu := hide IU
      have HId := hide ID
      have hmu := IU.len
      have hmd := ID.len
      have HB := hide hb
      have hg2 := Nat.lt_of_lt_of_le hg HM.out.bel.size
      have bj : (j : Int) < (n : Int) := by omega
      generalize b.n.length = mn at *
      generalize hlu : b.u.length = mu at *
      generalize hld : b.d.length = md at *
      have HLu := hide hlu
      have HLd := hide hld
      have hmu2 : (mu : Int) ≤ 9223372036854775807 := by omega
      have hmd2 : (md : Int) ≤ 9223372036854775807 := by omega
      clear IN IU ID hb hlu hld hg
      have HA := hide (And.intro ((Below.refl W1.heap.size W1).alloc (Nat.le_refl _) (.cells #[.slice au mu cu, .slice ad md cd, .slice an mn cn] 41)) (heap_new W1 (.cells #[.slice au mu cu, .slice ad md cd, .slice an mn cn] 41) rfl))
      go_wp2
      clear c0 c1 c2
      go_loopw [9, 24] (fun _ i wq => ∃ q : Nat, q ≤ mu ∧ i = .int .i64 q ∧ Hid (Vm w wq w.heap.size K (eG mT (·.u) bs j ++ (b.u.take q).map fun x => mT x.toNat j) (eG mT (·.d) bs j) ∧ wq.heap[W1.heap.size]? = some (.cells #[.slice au mu cu, .slice ad md cd, .slice an mn cn] 41 (0, 0)))) (fun _ i _ => mu - (intOf i).toNat)
      case atStart => exact ⟨0, Nat.zero_le _, rfl, by simp only [List.take_zero, List.map_nil, List.append_nil]; exact ⟨HM.out.under HA.out.1, HA.out.2⟩⟩
      case round =>
        obtain ⟨q, hq, rfl, HQ⟩ := hrel
        obtain ⟨W2, rfl⟩ : ∃ W2, W2 = wr := ⟨wr, rfl⟩
        by_cases hql : q < mu
        · obtain ⟨x, hx⟩ : ∃ x, b.u[q]? = some x := ⟨b.u[q]'(by rw [HLu.out]; exact hql), by simp⟩
          obtain ⟨y, rfl, hy⟩ := HS.out.u j b HB.out x (List.mem_of_getElem? hx)
          obtain ⟨gx, ox, rfl, hgx, cx⟩ := IntsAt.cell HIu.out hx
          rw [← HQ.out.1.bel.cell (p := ⟨gx, ox + q, none⟩) hgx] at cx
          have hgx2 := Nat.lt_of_lt_of_le hgx HQ.out.1.bel.size
          have by1 : (y : Int) < (K : Int) := by omega
          have bq : (q : Int) < (mu : Int) := by omega
          have hc := Vm.call1 HQ.out.1 (t := y) (s := j) hy (by omega)
          have HKP : Hid ((eG mT (·.u) bs j ++ (b.u.take q).map fun x => mT x.toNat j) ++ [(y, j)] = eG mT (·.u) bs j ++ (b.u.take (q + 1)).map fun x => mT x.toNat j) := hide (by rw [List.take_add_one, hx]; simp [mT])
          have HBX := hide HQ.out.2
          have HNE : Hid (W1.heap.size ≠ w.heap.size) := hide (fun h => by have h1 := HM.out.lt; omega)
          clear HQ hx hgx
          go_wp2_with (go_at_call 42; refine hc.mono ?_; rintro e w2 ⟨⟨v2, rfl⟩, M2, hk2⟩)
          go_roundw
          case rel => exact ⟨q + 1, by omega, by go_num, by rw [← HKP.out]; exact M2, (hk2.block _ (lt_of_block HBX.out) HNE.out).trans HBX.out⟩
          case measure => simp [intOf]; omega
        · obtain rfl : q = mu := by omega
          have HQ1 : Hid (Vm w W2 w.heap.size K (eG mT (·.u) bs (j + 1)) (eG mT (·.d) bs j)) := hide (by have h := HQ.out.1; rw [← HLu.out, List.take_length, ← eG_next (m := mT) (f := (·.u)) HB.out] at h; exact h)
          have cd1 := cell_of (o := 1) HQ.out.2 rfl
          have lbx := lt_of_block HQ.out.2
          clear HQ
          go_wp2
          clear cd1 lbx
          go_loopw [11, 38] (fun _ i wp => ∃ p : Nat, p ≤ md ∧ i = .int .i64 p ∧ Hid (Vm w wp w.heap.size K (eG mT (·.u) bs (j + 1)) (eG mT (·.d) bs j ++ (b.d.take p).map fun x => mT x.toNat j))) (fun _ i _ => md - (intOf i).toNat)
          case atStart => exact ⟨0, Nat.zero_le _, rfl, by simp only [List.take_zero, List.map_nil, List.append_nil]; exact HQ1.out⟩
          case round =>
            obtain ⟨p, hp, rfl, HQ⟩ := hrel
            by_cases hpl : p < md
            · obtain ⟨x, hx⟩ : ∃ x, b.d[p]? = some x := ⟨b.d[p]'(by rw [HLd.out]; exact hpl), by simp⟩
              obtain ⟨y, rfl, hy⟩ := HS.out.d j b HB.out x (List.mem_of_getElem? hx)
              obtain ⟨gx, ox, rfl, hgx, cx⟩ := IntsAt.cell HId.out hx
              rw [← HQ.out.bel.cell (p := ⟨gx, ox + p, none⟩) hgx] at cx
              have hgx2 := Nat.lt_of_lt_of_le hgx HQ.out.bel.size
              have by1 : (y : Int) < (K : Int) := by omega
              have bq : (p : Int) < (md : Int) := by omega
              have hc := Vm.call2 HQ.out (t := y) (s := j) hy (by omega)
              have HKP : Hid ((eG mT (·.d) bs j ++ (b.d.take p).map fun x => mT x.toNat j) ++ [(y, j)] = eG mT (·.d) bs j ++ (b.d.take (p + 1)).map fun x => mT x.toNat j) := hide (by rw [List.take_add_one, hx]; simp [mT])
              clear HQ hx hgx
              go_wp2_with (go_at_call 42; refine hc.mono ?_; rintro e w2 ⟨⟨v2, rfl⟩, M2, hk2⟩)
              go_roundw
              case rel => exact ⟨p + 1, by omega, by go_num, by rw [← HKP.out]; exact M2⟩
              case measure => simp [intOf]; omega
            · obtain rfl : p = md := by omega
              have HP1 : Hid (Vm w wr w.heap.size K (eG mT (·.u) bs (j + 1)) (eG mT (·.d) bs (j + 1))) := hide (by have h := HQ.out; rw [← HLd.out, List.take_length, ← eG_next (m := mT) (f := (·.d)) HB.out] at h; exact h)
              clear HQ
              go_wp2
              go_roundw
              case rel => exact ⟨j + 1, by omega, by go_num, HP1.out⟩
              case measure => simp [intOf]; omega
    · obtain rfl : j = n := by omega
      have HR : Hid (VarA W1 w.heap.size K bs) := hide (by
        have M := HM.out
        rw [← HN.out] at M
        exact ⟨M.lt, fun v hv => by rw [← ed_use HS.out v]; exact M.at1 hv, fun v hv => by rw [← ed_def HS.out v]; exact M.at2 hv⟩)
      have HBB := hide HM.out.bel
      clear HM
      go_wp2
      go_ret
      exact ⟨rfl, HR.out, HBB.out⟩
end
end Go.Proofs.Ytaejhppfcmeopaa
