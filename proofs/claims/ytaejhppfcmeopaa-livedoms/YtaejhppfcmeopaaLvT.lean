/- What keeps blocks from being sound: fault. -/
import Derived.Test.YtaejhppfcmeopaaLvH
namespace Go.Proofs.Ytaejhppfcmeopaa
open Go.RowKit
theorem any_take_succ {α : Type} {l : List α} {q : α → Bool} {k : Nat} {a : α} (h : l[k]? = some a) : (l.take (k + 1)).any q = ((l.take k).any q || q a) := by
  rw [List.take_add_one, h]; simp
theorem any_of_take {α : Type} {l : List α} {q : α → Bool} {k : Nat} (h : (l.take k).any q = true) : l.any q = true := by
  rw [List.any_eq_true] at h ⊢
  obtain ⟨x, hx, hx2⟩ := h
  exact ⟨x, List.mem_of_mem_take hx, hx2⟩
section
variable {w : World}
theorem out1_any {vb : Nat} {k : Int} (x : Int) (hb : w.cell? ⟨vb, 0, none⟩ = some (.int .i64 k)) : Calls Try.prog 29 #[.int .i64 x, .pointer (some ⟨vb, 0, none⟩)] w fun e w' => e = .returned (.bool (outI k x)) ∧ Below w.heap.size w w' := by
  by_cases h : x < 0
  · go_enter Try.func29, Try.ntmps29
    go_wp2
    go_ret
    exact ⟨ret_bool (by simp [outI, h]), Below.refl _ _⟩
  · have h' : decide (x < 0) = false := by simpa using h
    go_enter Try.func29, Try.ntmps29
    go_wp2
    go_ret
    exact ⟨ret_bool (by simp [outI, h']), Below.refl _ _⟩
theorem out2_any {vb : Nat} {n cp : Nat} {ab : Option Addr} (x : Int) (hb : w.cell? ⟨vb, 0, none⟩ = some (.slice ab n cp)) : Calls Try.prog 30 #[.int .i64 x, .pointer (some ⟨vb, 0, none⟩)] w fun e w' => e = .returned (.bool (outI n x)) ∧ Below w.heap.size w w' := by
  by_cases h : x < 0
  · go_enter Try.func30, Try.ntmps30
    go_wp2
    go_ret
    exact ⟨ret_bool (by simp [outI, h]), Below.refl _ _⟩
  · have h' : decide (x < 0) = false := by simpa using h
    go_enter Try.func30, Try.ntmps30
    go_wp2
    go_ret
    exact ⟨ret_bool (by simp [outI, h']), Below.refl _ _⟩
set_option maxHeartbeats 1000000 in
theorem contI1_any {v : Value} {l : List Int} {vb : Nat} {k : Int} (R : IntsAt w v l) (hb : w.cell? ⟨vb, 0, none⟩ = some (.int .i64 k)) (hbl : vb < w.heap.size) : Calls Try.prog 32 #[v, .func (.func 29) #[] #[.pointer (some ⟨vb, 0, none⟩)]] w fun e w' => e = .returned (.bool (l.any (outI k))) ∧ Below w.heap.size w w' := by
  have hi : Calls Try.prog 47 #[v, .func (.func 29) #[] #[.pointer (some ⟨vb, 0, none⟩)]] w fun e w' => (∃ i : Int, e = .returned (.int .i64 i) ∧ Hid (decide (0 ≤ i) = l.any (outI k))) ∧ Below w.heap.size w w' := by
    have hlen := R.len
    have HR := hide R
    obtain ⟨ao, cap, rfl⟩ := R.slice
    have HBB := hide hb
    clear hb
    generalize hn : l.length = m at *
    have HN := hide hn
    have hm2 : (m : Int) ≤ 9223372036854775807 := by omega
    clear hn R
    go_enter Try.func47, Try.ntmps47
    go_wp2
    go_loopw [5, 8] (fun _ i wr => ∃ j : Nat, j ≤ m ∧ i = .int .i64 j ∧ Hid (Below w.heap.size w wr ∧ (l.take j).any (outI k) = false)) (fun _ i _ => m - (intOf i).toNat)
    case atStart => exact ⟨0, Nat.zero_le _, rfl, Below.refl _ _, rfl⟩
    case round =>
      obtain ⟨j, hj, rfl, HJ⟩ := hrel
      by_cases hlt : j < m
      · obtain ⟨x, hx⟩ : ∃ x, l[j]? = some x := ⟨l[j]'(by rw [HN.out]; exact hlt), by simp⟩
        obtain ⟨g, o, rfl, hg, c0⟩ := HR.out.cell hx
        rw [← HJ.out.1.cell (p := ⟨g, o + j, none⟩) hg] at c0
        have hg2 := Nat.lt_of_lt_of_le hg HJ.out.1.size
        have hts := any_take_succ (q := outI k) hx
        rw [HJ.out.2, Bool.false_or] at hts
        have HB := hide HJ.out.1
        have HTS := hide hts
        have hc := out1_any (w := wr) x (by rw [HB.out.cell (p := ⟨vb, 0, none⟩) hbl]; exact HBB.out)
        have bj : (j : Int) < (m : Int) := by omega
        clear hx hts HJ
        cases hq : outI k x with
        | true =>
          rw [hq] at hc HTS
          go_wp2_with (go_at_call 29; refine hc.mono ?_; rintro e w2 ⟨rfl, hb2⟩)
          go_ret
          refine ⟨⟨_, rfl, ?_⟩, HB.out.trans (hb2.mono HB.out.size)⟩
          have h1 := any_of_take HTS.out
          exact hide (by rw [h1]; simp)
        | false =>
          rw [hq] at hc HTS
          go_wp2_with (go_at_call 29; refine hc.mono ?_; rintro e w2 ⟨rfl, hb2⟩)
          go_roundw
          case rel => exact ⟨j + 1, by omega, by go_num, HB.out.trans (hb2.mono HB.out.size), HTS.out⟩
          case measure => simp [intOf]; omega
      · obtain rfl : j = m := by omega
        go_wp2
        go_ret
        refine ⟨⟨_, rfl, ?_⟩, HJ.out.1⟩
        have h1 := HJ.out.2
        rw [List.take_of_length_le (by rw [HN.out]; exact Nat.le_refl _)] at h1
        exact hide (by rw [h1]; rfl)
  obtain ⟨ao, cap, rfl⟩ := R.slice
  go_enter Try.func32, Try.ntmps32
  go_wp2_with fail
  refine hi.mono ?_
  rintro e w2 ⟨⟨i, rfl, HI⟩, hb⟩
  go_wp2
  go_ret
  exact ⟨ret_bool (by rw [← HI.out]), hb⟩
set_option maxHeartbeats 1000000 in
theorem contI2_any {v : Value} {l : List Int} {vb : Nat} {n cp : Nat} {ab : Option Addr} (R : IntsAt w v l) (hb : w.cell? ⟨vb, 0, none⟩ = some (.slice ab n cp)) (hbl : vb < w.heap.size) : Calls Try.prog 32 #[v, .func (.func 30) #[] #[.pointer (some ⟨vb, 0, none⟩)]] w fun e w' => e = .returned (.bool (l.any (outI n))) ∧ Below w.heap.size w w' := by
  have hi : Calls Try.prog 47 #[v, .func (.func 30) #[] #[.pointer (some ⟨vb, 0, none⟩)]] w fun e w' => (∃ i : Int, e = .returned (.int .i64 i) ∧ Hid (decide (0 ≤ i) = l.any (outI n))) ∧ Below w.heap.size w w' := by
    have hlen := R.len
    have HR := hide R
    obtain ⟨ao, cap, rfl⟩ := R.slice
    have HBB := hide hb
    clear hb
    generalize hn : l.length = m at *
    have HN := hide hn
    have hm2 : (m : Int) ≤ 9223372036854775807 := by omega
    clear hn R
    go_enter Try.func47, Try.ntmps47
    go_wp2
    go_loopw [5, 8] (fun _ i wr => ∃ j : Nat, j ≤ m ∧ i = .int .i64 j ∧ Hid (Below w.heap.size w wr ∧ (l.take j).any (outI n) = false)) (fun _ i _ => m - (intOf i).toNat)
    case atStart => exact ⟨0, Nat.zero_le _, rfl, Below.refl _ _, rfl⟩
    case round =>
      obtain ⟨j, hj, rfl, HJ⟩ := hrel
      by_cases hlt : j < m
      · obtain ⟨x, hx⟩ : ∃ x, l[j]? = some x := ⟨l[j]'(by rw [HN.out]; exact hlt), by simp⟩
        obtain ⟨g, o, rfl, hg, c0⟩ := HR.out.cell hx
        rw [← HJ.out.1.cell (p := ⟨g, o + j, none⟩) hg] at c0
        have hg2 := Nat.lt_of_lt_of_le hg HJ.out.1.size
        have hts := any_take_succ (q := outI n) hx
        rw [HJ.out.2, Bool.false_or] at hts
        have HB := hide HJ.out.1
        have HTS := hide hts
        have hc := out2_any (w := wr) x (by rw [HB.out.cell (p := ⟨vb, 0, none⟩) hbl]; exact HBB.out)
        have bj : (j : Int) < (m : Int) := by omega
        clear hx hts HJ
        cases hq : outI n x with
        | true =>
          rw [hq] at hc HTS
          go_wp2_with (go_at_call 30; refine hc.mono ?_; rintro e w2 ⟨rfl, hb2⟩)
          go_ret
          refine ⟨⟨_, rfl, ?_⟩, HB.out.trans (hb2.mono HB.out.size)⟩
          have h1 := any_of_take HTS.out
          exact hide (by rw [h1]; simp)
        | false =>
          rw [hq] at hc HTS
          go_wp2_with (go_at_call 30; refine hc.mono ?_; rintro e w2 ⟨rfl, hb2⟩)
          go_roundw
          case rel => exact ⟨j + 1, by omega, by go_num, HB.out.trans (hb2.mono HB.out.size), HTS.out⟩
          case measure => simp [intOf]; omega
      · obtain rfl : j = m := by omega
        go_wp2
        go_ret
        refine ⟨⟨_, rfl, ?_⟩, HJ.out.1⟩
        have h1 := HJ.out.2
        rw [List.take_of_length_le (by rw [HN.out]; exact Nat.le_refl _)] at h1
        exact hide (by rw [h1]; rfl)
  obtain ⟨ao, cap, rfl⟩ := R.slice
  go_enter Try.func32, Try.ntmps32
  go_wp2_with fail
  refine hi.mono ?_
  rintro e w2 ⟨⟨i, rfl, HI⟩, hb⟩
  go_wp2
  go_ret
  exact ⟨ret_bool (by rw [← HI.out]), hb⟩
/-- What wrong has at hand: noVar and noBlock in boxes, and what they hold. -/
structure Wr (w : World) (p5 p6 vb bb n cp : Nat) (ab : Option Addr) (k : Int) : Prop where
  a : w.heap[p5]? = some (.cells #[.func (.func 29) #[] #[.pointer (some ⟨vb, 0, none⟩)]] 53 (0, 0))
  b : w.heap[p6]? = some (.cells #[.func (.func 30) #[] #[.pointer (some ⟨bb, 0, none⟩)]] 53 (0, 0))
  c : w.heap[vb]? = some (.cells #[.int .i64 k] 3 (0, 0))
  d : w.heap[bb]? = some (.cells #[.slice ab n cp] 22 (0, 0))
theorem Wr.below {w' : World} {p5 p6 vb bb n cp : Nat} {ab : Option Addr} {k : Int} (W : Wr w p5 p6 vb bb n cp ab k) (h : Below w.heap.size w w') : Wr w' p5 p6 vb bb n cp ab k :=
  ⟨(h.block _ (lt_of_block W.a)).trans W.a, (h.block _ (lt_of_block W.b)).trans W.b, (h.block _ (lt_of_block W.c)).trans W.c, (h.block _ (lt_of_block W.d)).trans W.d⟩
set_option maxHeartbeats 2000000 in
theorem wrong_any {p5 p6 vb bb n cp : Nat} {ab : Option Addr} {k : Int} (W : Wr w p5 p6 vb bb n cp ab k) {vu vd vn : Value} {b : Blk} (IU : IntsAt w vu b.u) (ID : IntsAt w vd b.d) (IN : IntsAt w vn b.n) :
    Calls Try.prog 31 #[.agg #[vu, vd, vn], .pointer (some ⟨p5, 0, none⟩), .pointer (some ⟨p6, 0, none⟩)] w fun e w' => e = .returned (.bool (badB k n b)) ∧ Below w.heap.size w w' := by
  obtain ⟨au, cu, rfl⟩ := IU.slice
  obtain ⟨ad, cd, rfl⟩ := ID.slice
  obtain ⟨an, cn, rfl⟩ := IN.slice
  have hb0 := (Below.refl w.heap.size w).alloc (Nat.le_refl _) (.cells #[.slice au b.u.length cu, .slice ad b.d.length cd, .slice an b.n.length cn] 41)
  have e0 := heap_new w (.cells #[.slice au b.u.length cu, .slice ad b.d.length cd, .slice an b.n.length cn] 41) rfl
  have HU := hide (IU.below hb0)
  have HD := hide (ID.below hb0)
  have HNN := hide (IN.below hb0)
  have HW := hide (W.below hb0)
  have HB0 := hide hb0
  have HE := hide e0
  clear IU ID IN W hb0 e0
  obtain ⟨W0, hW0⟩ : ∃ W0, w.alloc (.cells #[.slice au b.u.length cu, .slice ad b.d.length cd, .slice an b.n.length cn] 41) = W0 := ⟨_, rfl⟩
  rw [hW0] at HU HD HNN HW HB0 HE
  have hc1 := contI1_any HU.out (cell_of HW.out.c rfl) (lt_of_block HW.out.c)
  have hc2 := fun (w2 : World) (h : Below W0.heap.size W0 w2) => contI1_any (HD.out.below h) (cell_of (HW.out.below h).c rfl) (lt_of_block (HW.out.below h).c)
  have hc3 := fun (w2 : World) (h : Below W0.heap.size W0 w2) => contI2_any (HNN.out.below h) (cell_of (HW.out.below h).d rfl) (lt_of_block (HW.out.below h).d)
  have HC2 := hide hc2
  have HC3 := hide hc3
  clear hc2 hc3
  have k0 := cell_of (o := 0) HE.out rfl
  have k1 := cell_of (o := 1) HE.out rfl
  have k2 := cell_of (o := 2) HE.out rfl
  have k5 := cell_of (o := 0) HW.out.a rfl
  have k6 := cell_of (o := 0) HW.out.b rfl
  have HKB : Hid (∀ w2, Below W0.heap.size W0 w2 → w2.cell? ⟨w.heap.size, 1, none⟩ = some (.slice ad b.d.length cd) ∧ w2.cell? ⟨w.heap.size, 2, none⟩ = some (.slice an b.n.length cn) ∧ w2.cell? ⟨p5, 0, none⟩ = some (.func (.func 29) #[] #[.pointer (some ⟨vb, 0, none⟩)]) ∧ w2.cell? ⟨p6, 0, none⟩ = some (.func (.func 30) #[] #[.pointer (some ⟨bb, 0, none⟩)])) := hide (fun w2 h => by
    have e := (h.block _ (lt_of_block HE.out)).trans HE.out
    exact ⟨cell_of e rfl, cell_of e rfl, cell_of (HW.out.below h).a rfl, cell_of (HW.out.below h).b rfl⟩)
  cases h1 : b.u.any (outI k) with
  | true =>
    rw [h1] at hc1
    go_enter Try.func31, Try.ntmps31
    go_wp2_with (go_at_call 32; refine hc1.mono ?_; rintro e w2 ⟨rfl, hb2⟩)
    go_ret
    exact ⟨ret_bool (by simp [badB, h1]), HB0.out.trans (hb2.mono HB0.out.size)⟩
  | false =>
    rw [h1] at hc1
    cases h2 : b.d.any (outI k) with
    | true =>
      rw [h2] at HC2
      go_enter Try.func31, Try.ntmps31
      go_wp2_with (first
        | (have kk := hb2; clear kk; go_at_call 32; refine (HC2.out w2 hb2).mono ?_; rintro e w3 ⟨rfl, hb3⟩)
        | (go_at_call 32; refine hc1.mono ?_; rintro e w2 ⟨rfl, hb2⟩; obtain ⟨k1, k2, k5, k6⟩ := HKB.out w2 hb2; clear hc1))
      go_ret
      exact ⟨ret_bool (by simp [badB, h1, h2]), HB0.out.trans ((hb2.trans (hb3.mono hb2.size)).mono HB0.out.size)⟩
    | false =>
      rw [h2] at HC2
      go_enter Try.func31, Try.ntmps31
      go_wp2_with (first
        | (have kk := hb3; clear kk; go_at_call 32; refine (HC3.out w3 (hb2.trans (hb3.mono hb2.size))).mono ?_; rintro e w4 ⟨rfl, hb4⟩)
        | (have kk := hb2; clear kk; go_at_call 32; refine (HC2.out w2 hb2).mono ?_; rintro e w3 ⟨rfl, hb3⟩; obtain ⟨k1, k2, k5, k6⟩ := HKB.out w3 (hb2.trans (hb3.mono hb2.size)))
        | (go_at_call 32; refine hc1.mono ?_; rintro e w2 ⟨rfl, hb2⟩; obtain ⟨k1, k2, k5, k6⟩ := HKB.out w2 hb2; clear hc1))
      go_ret
      have hb5 := hb2.trans (hb3.mono hb2.size)
      exact ⟨ret_bool (by simp [badB, h1, h2]), HB0.out.trans ((hb5.trans (hb4.mono hb5.size)).mono HB0.out.size)⟩
end
end Go.Proofs.Ytaejhppfcmeopaa
