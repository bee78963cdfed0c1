/- Ranges in memory; what keeps them from being sound: the program's fault, and the document's Check. -/
import Derived.Test.YtmkeahfdbmfajaaSxD
namespace Go.Proofs.Ytmkeahfdbmfajaa
open Go.RowKit
/-- A range. -/
structure Rg where
  fr : Int
  en : Int
/-- Ranges that lie somewhere. -/
def RgsAt (w : World) (v : Value) (l : List Rg) : Prop :=
  l.length ≤ 9223372036854775807 ∧ ∃ ao cap, v = .slice ao l.length cap ∧ ∀ (j : Nat) (p : Rg), l[j]? = some p → ∃ g o, ao = some ⟨g, o, none⟩ ∧ g < w.heap.size ∧ w.cell? ⟨g, o + j * 2, none⟩ = some (.int .i64 p.fr) ∧ w.cell? ⟨g, o + j * 2 + 1, none⟩ = some (.int .i64 p.en)
/-- A range that is not sound. -/
def badR (p : Rg) : Bool := decide (p.fr < 0) || decide (p.en ≤ p.fr)
/-- What is wrong with ranges. -/
def fltP (l : List Rg) : Int := if 20000 < l.length then 4 else if l.any badR then 2 else 0
theorem any_take_succ {α : Type} {l : List α} {q : α → Bool} {k : Nat} {a : α} (h : l[k]? = some a) : (l.take (k + 1)).any q = ((l.take k).any q || q a) := by
  rw [List.take_add_one, h]; simp
theorem any_of_take {α : Type} {l : List α} {q : α → Bool} {k : Nat} (h : (l.take k).any q = true) : l.any q = true := by
  rw [List.any_eq_true] at h ⊢
  obtain ⟨x, hx, hx2⟩ := h
  exact ⟨x, List.mem_of_mem_take hx, hx2⟩
theorem fltP_ok {l : List Rg} (h : fltP l = 0) : l.length ≤ 20000 ∧ l.any badR = false := by
  unfold fltP at h
  split at h
  · cases h
  · split at h
    · cases h
    · rename_i h1 h2; exact ⟨by omega, by simpa using h2⟩
theorem fltP_cases (l : List Rg) : (fltP l = 0 ∧ l.length ≤ 20000 ∧ l.any badR = false) ∨ fltP l = 2 ∨ fltP l = 4 := by
  unfold fltP
  split
  · exact .inr (.inr rfl)
  · split
    · exact .inr (.inl rfl)
    · rename_i h1 h2; exact .inl ⟨rfl, by omega, by simpa using h2⟩
theorem snd_of {l : List Rg} (h : l.any badR = false) : ∀ p ∈ l, 0 ≤ p.fr ∧ p.fr < p.en := fun p hp => by
  rw [List.any_eq_false] at h
  have := h p hp
  unfold badR at this
  simp only [Bool.or_eq_true, decide_eq_true_eq] at this
  omega
section
variable {w w' : World} {v : Value} {l : List Rg}
theorem RgsAt.below (R : RgsAt w v l) (hb : Below w.heap.size w w') : RgsAt w' v l := by
  obtain ⟨h0, ao, cap, h1, h2⟩ := R
  refine ⟨h0, ao, cap, h1, fun j x hx => ?_⟩
  obtain ⟨g, o, h4, h5, h6, h7⟩ := h2 j x hx
  exact ⟨g, o, h4, Nat.lt_of_lt_of_le h5 hb.size, by rw [keep_cell hb h5]; exact h6, by rw [keep_cell hb h5]; exact h7⟩
theorem RgsAt.slice (R : RgsAt w v l) : ∃ ao cap, v = .slice ao l.length cap := by obtain ⟨_, ao, cap, h, _⟩ := R; exact ⟨ao, cap, h⟩
theorem RgsAt.len (R : RgsAt w v l) : l.length ≤ 9223372036854775807 := R.1
theorem RgsAt.cell {ao : Option Addr} {n cap : Nat} (R : RgsAt w (.slice ao n cap) l) {j : Nat} {p : Rg} (h : l[j]? = some p) : ∃ g o, ao = some ⟨g, o, none⟩ ∧ g < w.heap.size ∧ w.cell? ⟨g, o + j * 2, none⟩ = some (.int .i64 p.fr) ∧ w.cell? ⟨g, o + j * 2 + 1, none⟩ = some (.int .i64 p.en) := by
  obtain ⟨_, a, c, h1, h2⟩ := R
  cases h1
  exact h2 j p h
set_option maxHeartbeats 1000000 in
theorem wrong_any (p : Rg) : Calls Try.prog 21 #[.agg #[.int .i64 p.fr, .int .i64 p.en]] w fun e w' => e = .returned (.bool (badR p)) ∧ Below w.heap.size w w' := by
  by_cases h1 : p.fr < 0
  · have e : badR p = true := by simp [badR, h1]
    rw [e]
    go_enter Try.func21, Try.ntmps21
    go_wp2
    go_ret
    exact ⟨rfl, (Below.refl _ _).alloc (Nat.le_refl _) _⟩
  · have h1' : decide (p.fr < 0) = false := by simpa using h1
    have e : badR p = decide (p.en ≤ p.fr) := by simp [badR, h1']
    rw [e]
    go_enter Try.func21, Try.ntmps21
    go_wp2
    go_ret
    exact ⟨rfl, (Below.refl _ _).alloc (Nat.le_refl _) _⟩
set_option maxHeartbeats 1000000 in
theorem contR_any (R : RgsAt w v l) : Calls Try.prog 22 #[v, .func (.func 21) #[] #[]] w fun e w' => e = .returned (.bool (l.any badR)) ∧ Below w.heap.size w w' := by
  have hi : Calls Try.prog 32 #[v, .func (.func 21) #[] #[]] w fun e w' => (∃ i : Int, e = .returned (.int .i64 i) ∧ Hid (decide (0 ≤ i) = l.any badR)) ∧ Below w.heap.size w w' := by
    have hlen := R.len
    have HR := hide R
    obtain ⟨ao, cap, rfl⟩ := R.slice
    clear R
    generalize hm : l.length = m at *
    have HN := hide hm
    have hm2 : (m : Int) ≤ 9223372036854775807 := by omega
    clear hm
    go_enter Try.func32, Try.ntmps32
    go_wp2
    go_loopw [5, 8] (fun _ i wr => ∃ j : Nat, j ≤ m ∧ i = .int .i64 j ∧ Hid (Below w.heap.size w wr ∧ (l.take j).any badR = false)) (fun _ i _ => m - (intOf i).toNat)
    case atStart => exact ⟨0, Nat.zero_le _, rfl, Below.refl _ _, rfl⟩
    case round =>
      obtain ⟨j, hj, rfl, HJ⟩ := hrel
      by_cases hlt : j < m
      · obtain ⟨p, hp⟩ : ∃ p, l[j]? = some p := ⟨l[j]'(by rw [HN.out]; exact hlt), by simp⟩
        obtain ⟨g, o, rfl, hg, c0, c1⟩ := HR.out.cell hp
        rw [← HJ.out.1.cell (p := ⟨g, o + j * 2, none⟩) hg] at c0
        rw [← HJ.out.1.cell (p := ⟨g, o + j * 2 + 1, none⟩) hg] at c1
        have hts := any_take_succ (q := badR) hp
        rw [HJ.out.2, Bool.false_or] at hts
        have HB := hide HJ.out.1
        have HTS := hide hts
        have hc := wrong_any (w := wr) p
        have bj : (j : Int) < (m : Int) := by omega
        clear hp hts HJ
        cases hb : badR p with
        | true =>
          rw [hb] at hc HTS
          go_wp2_with (go_at_call 21; refine hc.mono ?_; rintro e w2 ⟨rfl, hb2⟩)
          go_ret
          refine ⟨⟨_, rfl, ?_⟩, HB.out.trans (hb2.mono HB.out.size)⟩
          exact hide (by rw [any_of_take HTS.out]; simp)
        | false =>
          rw [hb] at hc HTS
          go_wp2_with (go_at_call 21; refine hc.mono ?_; rintro e w2 ⟨rfl, hb2⟩)
          go_roundw
          case rel => exact ⟨j + 1, by omega, by go_num, HB.out.trans (hb2.mono HB.out.size), HTS.out⟩
          case measure => simp [intOf]; omega
      · obtain rfl : j = m := by omega
        go_wp2
        go_ret
        refine ⟨⟨_, rfl, ?_⟩, HJ.out.1⟩
        have h1 := HJ.out.2
        rw [List.take_of_length_le (by rw [HN.out]; exact Nat.le_refl _)] at h1
        exact hide (by rw [h1]; rfl)
  go_enter Try.func22, Try.ntmps22
  go_wp2_with fail
  refine hi.mono ?_
  rintro e w2 ⟨⟨i, rfl, HI⟩, hb⟩
  go_wp2
  go_ret
  exact ⟨ret_bool (by rw [← HI.out]), hb⟩
set_option maxHeartbeats 1000000 in
theorem fault_any (R : RgsAt w v l) : Calls Try.prog 14 #[v] w fun e w' => e = .returned (.int .i64 (fltP l)) ∧ Below w.heap.size w w' := by
  have hc := contR_any R
  obtain ⟨ao, cap, rfl⟩ := R.slice
  have hlen := R.len
  by_cases h1 : 20000 < l.length
  · have hf : Hid (fltP l = 4) := hide (by unfold fltP; rw [if_pos h1])
    generalize l.length = n at *
    have h1' : (20000 : Int) < (n : Int) := by omega
    clear hc R
    go_enter Try.func14, Try.ntmps14
    go_wp2
    go_ret
    exact ⟨by rw [hf.out]; rfl, Below.refl _ _⟩
  · cases hb : l.any badR with
    | true =>
      rw [hb] at hc
      have hf : Hid (fltP l = 2) := hide (by unfold fltP; rw [if_neg h1, if_pos hb])
      generalize l.length = n at *
      have h1' : decide ((20000 : Int) < (n : Int)) = false := by simp; omega
      clear R
      go_enter Try.func14, Try.ntmps14
      go_wp2_with (go_at_call 22; refine hc.mono ?_; rintro e w2 ⟨rfl, hb2⟩)
      go_ret
      exact ⟨by rw [hf.out]; rfl, hb2⟩
    | false =>
      rw [hb] at hc
      have hf : Hid (fltP l = 0) := hide (by unfold fltP; rw [if_neg h1, if_neg (by rw [hb]; simp)])
      generalize l.length = n at *
      have h1' : decide ((20000 : Int) < (n : Int)) = false := by simp; omega
      clear R
      go_enter Try.func14, Try.ntmps14
      go_wp2_with (go_at_call 22; refine hc.mono ?_; rintro e w2 ⟨rfl, hb2⟩)
      go_ret
      exact ⟨by rw [hf.out]; rfl, hb2⟩
set_option maxHeartbeats 1000000 in
theorem rcheck_any (R : RgsAt w v l) : Calls Try.prog 9 #[v] w fun e w' => e = .returned (.int .i64 (fltP l)) ∧ Below w.heap.size w w' := by
  have HR := hide R
  obtain ⟨ao, cap, rfl⟩ := R.slice
  have hlen := R.len
  obtain ⟨n, hn⟩ : ∃ n, l.length = n := ⟨_, rfl⟩
  have HN := hide hn
  rw [hn] at hlen HR ⊢
  clear hn R
  by_cases h1 : 20000 < n
  · have hf : Hid (fltP l = 4) := hide (by unfold fltP; rw [if_pos (by rw [HN.out]; exact h1)])
    have h1' : (20000 : Int) < (n : Int) := by omega
    go_enter Try.func9, Try.ntmps9
    go_wp2
    go_ret
    exact ⟨by rw [hf.out]; rfl, Below.refl _ _⟩
  · have h1' : decide ((20000 : Int) < (n : Int)) = false := by simp; omega
    have hf : Hid (fltP l = if l.any badR then 2 else 0) := hide (by unfold fltP; rw [if_neg (by rw [HN.out]; exact h1)])
    have hn2 : (n : Int) ≤ 20000 := by omega
    go_enter Try.func9, Try.ntmps9
    go_wp2
    go_loopw [3] (fun i wr => ∃ j q : Nat, j ≤ n ∧ i = .int .i64 j ∧ wr = w.drewN q ∧ Hid ((l.take j).any badR = false)) (fun i _ => n - (intOf i).toNat)
    case atStart => exact ⟨0, 0, Nat.zero_le _, rfl, rfl, rfl⟩
    case round =>
      obtain ⟨j, q, hj, rfl, rfl, HJ⟩ := hrel
      by_cases hlt : j < n
      · obtain ⟨p, hp⟩ : ∃ p, l[j]? = some p := ⟨l[j]'(by rw [HN.out]; exact hlt), by simp⟩
        obtain ⟨g, o, rfl, hg, c0, c1⟩ := HR.out.cell hp
        have hts := any_take_succ (q := badR) hp
        rw [HJ.out, Bool.false_or] at hts
        have HTS := hide hts
        have bj : (j : Int) < (n : Int) := by omega
        clear hp hts HJ
        by_cases q1 : p.fr < 0
        · have hbad : badR p = true := by simp [badR, q1]
          rw [hbad] at HTS
          clear hbad
          go_wp2
          go_quiet (fail)
          go_wp2
          go_ret
          exact ⟨by rw [hf.out, any_of_take HTS.out]; rfl, by rw [World.drewN_drewN]; exact below_drewN (Below.refl _ _) _⟩
        · have q1' : decide (p.fr < 0) = false := by simpa using q1
          by_cases q2 : p.en ≤ p.fr
          · have hbad : badR p = true := by simp [badR, q2]
            rw [hbad] at HTS
            clear hbad
            go_wp2
            go_quiet (fail)
            go_wp2
            go_ret
            exact ⟨by rw [hf.out, any_of_take HTS.out]; rfl, by rw [World.drewN_drewN]; exact below_drewN (Below.refl _ _) _⟩
          · have q2' : decide (p.en ≤ p.fr) = false := by simpa using q2
            have hbad : badR p = false := by simp [badR, q1', q2']
            rw [hbad] at HTS
            clear hbad
            go_wp2
            go_quiet (fail)
            go_wp2
            go_roundw
            case rel => exact ⟨j + 1, q + nq, by omega, by go_num, rfl, HTS⟩
            case measure => simp [intOf]; omega
      · obtain rfl : j = n := by omega
        have h1 := HJ.out
        rw [List.take_of_length_le (by rw [HN.out]; exact Nat.le_refl _)] at h1
        have HF := hide h1
        clear h1
        go_wp2
        go_ret
        exact ⟨by rw [hf.out, HF.out]; rfl, below_drewN (Below.refl _ _) _⟩
end
end Go.Proofs.Ytmkeahfdbmfajaa
