/- What keeps a graph from being sound: the program's fault. -/
import Derived.Test.YtlbildodjnjniaaEsA
namespace Go.Proofs.Ytlbildodjnjniaa
open Go.RowKit

section
variable {w : World}
set_option maxHeartbeats 1000000 in
theorem bad2 (f : Fl) {ao : Option Addr} {n cap bb : Nat} (hb : w.cell? ⟨bb, 0, none⟩ = some (.slice ao n cap)) (hl : bb < w.heap.size) : Calls Try.prog 23 #[.agg #[.int .i64 f.to, .int .i64 f.fr, .int .i64 f.rf], .pointer (some ⟨bb, 0, none⟩)] w fun e w' => e = .returned (.bool (badF n f)) ∧ Below w.heap.size w w' := by
  have hA : ∀ b : Bool, (f.to == -1) = true → (!((f.to == -1) || b)) = false := fun b h => by simp [h]
  cases h1 : (f.to == -1) with
  | true =>
    cases h2 : inB f.fr n with
    | false =>
      go_enter Try.func23, Try.ntmps23
      go_wp2_with (go_at_call 18; refine (within_any _ _).mono ?_; rintro e w' ⟨rfl, rfl⟩)
      go_ret
      exact ⟨ret_bool (by simp [badF, h1, h2]), (Below.refl _ _).alloc (Nat.le_refl _) _⟩
    | true =>
      by_cases h3 : f.rf < -1
      · go_enter Try.func23, Try.ntmps23
        go_wp2_with (go_at_call 18; refine (within_any _ _).mono ?_; rintro e w' ⟨rfl, rfl⟩)
        go_ret
        exact ⟨ret_bool (by simp [badF, h1, h2, h3]), (Below.refl _ _).alloc (Nat.le_refl _) _⟩
      · have h3' : decide (f.rf < -1) = false := by simpa using h3
        go_enter Try.func23, Try.ntmps23
        go_wp2_with (go_at_call 18; refine (within_any _ _).mono ?_; rintro e w' ⟨rfl, rfl⟩)
        go_ret
        exact ⟨ret_bool (by simp [badF, h1, h2, h3']), (Below.refl _ _).alloc (Nat.le_refl _) _⟩
  | false =>
    cases h0 : inB f.to n with
    | false =>
      go_enter Try.func23, Try.ntmps23
      go_wp2_with (go_at_call 18; refine (within_any _ _).mono ?_; rintro e w' ⟨rfl, rfl⟩)
      go_ret
      exact ⟨ret_bool (by simp [badF, h1, h0]), (Below.refl _ _).alloc (Nat.le_refl _) _⟩
    | true =>
      cases h2 : inB f.fr n with
      | false =>
        go_enter Try.func23, Try.ntmps23
        go_wp2_with (go_at_call 18; refine (within_any _ _).mono ?_; rintro e w' ⟨rfl, rfl⟩)
        go_ret
        exact ⟨ret_bool (by simp [badF, h1, h0, h2]), (Below.refl _ _).alloc (Nat.le_refl _) _⟩
      | true =>
        by_cases h3 : f.rf < -1
        · go_enter Try.func23, Try.ntmps23
          go_wp2_with (go_at_call 18; refine (within_any _ _).mono ?_; rintro e w' ⟨rfl, rfl⟩)
          go_ret
          exact ⟨ret_bool (by simp [badF, h1, h0, h2, h3]), (Below.refl _ _).alloc (Nat.le_refl _) _⟩
        · have h3' : decide (f.rf < -1) = false := by simpa using h3
          go_enter Try.func23, Try.ntmps23
          go_wp2_with (go_at_call 18; refine (within_any _ _).mono ?_; rintro e w' ⟨rfl, rfl⟩)
          go_ret
          exact ⟨ret_bool (by simp [badF, h1, h0, h2, h3']), (Below.refl _ _).alloc (Nat.le_refl _) _⟩
theorem any_take_succ {α : Type} {l : List α} {q : α → Bool} {k : Nat} {a : α} (h : l[k]? = some a) : (l.take (k + 1)).any q = ((l.take k).any q || q a) := by
  rw [List.take_add_one, h]; simp
set_option maxHeartbeats 1000000 in
theorem containsP_any {v : Value} {l : List Pt} (R : PtsAt w v l) (hl : l.length ≤ 512) : Calls Try.prog 24 #[v, .func (.func 22) #[] #[]] w fun e w' => e = .returned (.bool (l.any badP)) ∧ Below w.heap.size w w' := by
  have hi : Calls Try.prog 30 #[v, .func (.func 22) #[] #[]] w fun e w' => (∃ i : Int, e = .returned (.int .i64 i) ∧ Hid (decide (0 ≤ i) = l.any badP)) ∧ Below w.heap.size w w' := by
    obtain ⟨ao, cap, rfl, h2⟩ := R
    have H2 := hide h2
    clear h2
    generalize hn : l.length = n at *
    have HN := hide hn
    clear hn
    go_enter Try.func30, Try.ntmps30
    go_wp2
    go_loopw [5, 8] (fun _ i wr => ∃ j : Nat, j ≤ n ∧ i = .int .i64 j ∧ Hid (Below w.heap.size w wr ∧ (l.take j).any badP = false)) (fun _ i _ => n - (intOf i).toNat)
    case atStart => exact ⟨0, Nat.zero_le _, rfl, Below.refl _ _, rfl⟩
    case round =>
      obtain ⟨j, hj, rfl, HJ⟩ := hrel
      by_cases hlt : j < n
      · obtain ⟨p, hp⟩ : ∃ p, l[j]? = some p := ⟨l[j]'(by rw [HN.out]; exact hlt), by simp⟩
        obtain ⟨g, o, rfl, hg, c0, c1⟩ := H2.out j p hp
        rw [← HJ.out.1.cell (p := ⟨g, o + j * 2, none⟩) hg] at c0
        rw [← HJ.out.1.cell (p := ⟨g, o + j * 2 + 1, none⟩) hg] at c1
        have hts := any_take_succ (q := badP) hp
        rw [HJ.out.2, Bool.false_or] at hts
        have HB := hide HJ.out.1
        have HTS := hide hts
        have hc := bad1 (w := wr) p
        have bj : (j : Int) < (n : Int) := by omega
        clear hp hts HJ
        cases hb : badP p with
        | true =>
          rw [hb] at hc HTS
          go_wp2_with (go_at_call 22; refine hc.mono ?_; rintro e w2 ⟨rfl, hb2⟩)
          go_ret
          refine ⟨⟨_, rfl, ?_⟩, HB.out.trans (hb2.mono HB.out.size)⟩
          have : l.any badP = true := by
            have h1 := HTS.out
            rw [List.any_eq_true] at h1 ⊢
            obtain ⟨x, hx, hx2⟩ := h1
            exact ⟨x, List.mem_of_mem_take hx, hx2⟩
          exact hide (by rw [this]; simp)
        | false =>
          rw [hb] at hc HTS
          go_wp2_with (go_at_call 22; refine hc.mono ?_; rintro e w2 ⟨rfl, hb2⟩)
          go_roundw
          case rel => exact ⟨j + 1, by omega, by go_num, HB.out.trans (hb2.mono HB.out.size), HTS.out⟩
          case measure => simp [intOf]; omega
      · obtain rfl : j = n := by omega
        go_wp2
        go_ret
        refine ⟨⟨_, rfl, ?_⟩, HJ.out.1⟩
        have h1 := HJ.out.2
        rw [List.take_of_length_le (by rw [HN.out]; exact Nat.le_refl _)] at h1
        exact hide (by rw [h1]; rfl)
  go_enter Try.func24, Try.ntmps24
  go_wp2_with fail
  refine hi.mono ?_
  rintro e w2 ⟨⟨i, rfl, HI⟩, hb⟩
  go_wp2
  go_ret
  exact ⟨ret_bool (by rw [← HI.out]), hb⟩
set_option maxHeartbeats 1000000 in
theorem containsF_any {v : Value} {l : List Fl} {n cp bb : Nat} {ab : Option Addr} (R : FlsAt w v l) (hl : l.length ≤ 20000) (hbb : w.cell? ⟨bb, 0, none⟩ = some (.slice ab n cp)) (hbl : bb < w.heap.size) : Calls Try.prog 25 #[v, .func (.func 23) #[] #[.pointer (some ⟨bb, 0, none⟩)]] w fun e w' => e = .returned (.bool (l.any (badF n))) ∧ Below w.heap.size w w' := by
  have hi : Calls Try.prog 31 #[v, .func (.func 23) #[] #[.pointer (some ⟨bb, 0, none⟩)]] w fun e w' => (∃ i : Int, e = .returned (.int .i64 i) ∧ Hid (decide (0 ≤ i) = l.any (badF n))) ∧ Below w.heap.size w w' := by
    obtain ⟨ao, cap, rfl, h2⟩ := R
    have H2 := hide h2
    have HBB := hide hbb
    clear h2 hbb
    generalize hm : l.length = m at *
    have HN := hide hm
    clear hm
    go_enter Try.func31, Try.ntmps31
    go_wp2
    go_loopw [5, 8] (fun _ i wr => ∃ j : Nat, j ≤ m ∧ i = .int .i64 j ∧ Hid (Below w.heap.size w wr ∧ (l.take j).any (badF n) = false)) (fun _ i _ => m - (intOf i).toNat)
    case atStart => exact ⟨0, Nat.zero_le _, rfl, Below.refl _ _, rfl⟩
    case round =>
      obtain ⟨j, hj, rfl, HJ⟩ := hrel
      by_cases hlt : j < m
      · obtain ⟨p, hp⟩ : ∃ p, l[j]? = some p := ⟨l[j]'(by rw [HN.out]; exact hlt), by simp⟩
        obtain ⟨g, o, rfl, hg, c0, c1, c2⟩ := H2.out j p hp
        rw [← HJ.out.1.cell (p := ⟨g, o + j * 3, none⟩) hg] at c0
        rw [← HJ.out.1.cell (p := ⟨g, o + j * 3 + 1, none⟩) hg] at c1
        rw [← HJ.out.1.cell (p := ⟨g, o + j * 3 + 2, none⟩) hg] at c2
        have hts := any_take_succ (q := badF n) hp
        rw [HJ.out.2, Bool.false_or] at hts
        have HB := hide HJ.out.1
        have HTS := hide hts
        have hc := bad2 (w := wr) p (n := n) (cap := cp) (ao := ab) (bb := bb) (by rw [HB.out.cell (p := ⟨bb, 0, none⟩) hbl]; exact HBB.out) (Nat.lt_of_lt_of_le hbl HB.out.size)
        have bj : (j : Int) < (m : Int) := by omega
        clear hp hts HJ
        cases hb : badF n p with
        | true =>
          rw [hb] at hc HTS
          go_wp2_with (go_at_call 23; refine hc.mono ?_; rintro e w2 ⟨rfl, hb2⟩)
          go_ret
          refine ⟨⟨_, rfl, ?_⟩, HB.out.trans (hb2.mono HB.out.size)⟩
          have : l.any (badF n) = true := by
            have h1 := HTS.out
            rw [List.any_eq_true] at h1 ⊢
            obtain ⟨x, hx, hx2⟩ := h1
            exact ⟨x, List.mem_of_mem_take hx, hx2⟩
          exact hide (by rw [this]; simp)
        | false =>
          rw [hb] at hc HTS
          go_wp2_with (go_at_call 23; refine hc.mono ?_; rintro e w2 ⟨rfl, hb2⟩)
          go_roundw
          case rel => exact ⟨j + 1, by omega, by go_num, HB.out.trans (hb2.mono HB.out.size), HTS.out⟩
          case measure => simp [intOf]; omega
      · obtain rfl : j = m := by omega
        go_wp2
        go_ret
        refine ⟨⟨_, rfl, ?_⟩, HJ.out.1⟩
        have h1 := HJ.out.2
        rw [List.take_of_length_le (by rw [HN.out]; exact Nat.le_refl _)] at h1
        exact hide (by rw [h1]; rfl)
  go_enter Try.func25, Try.ntmps25
  go_wp2_with fail
  refine hi.mono ?_
  rintro e w2 ⟨⟨i, rfl, HI⟩, hb⟩
  go_wp2
  go_ret
  exact ⟨ret_bool (by rw [← HI.out]), hb⟩
end
end Go.Proofs.Ytlbildodjnjniaa
