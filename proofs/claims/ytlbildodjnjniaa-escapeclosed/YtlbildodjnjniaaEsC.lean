/- fault: whether a graph is sound. -/
import Derived.Test.YtlbildodjnjniaaEsB
namespace Go.Proofs.Ytlbildodjnjniaa
open Go.RowKit

def faultN (ps : List Pt) (fs : List Fl) : Int :=
  bif decide (512 < ps.length) || decide (20000 < fs.length) then 4 else bif ps.any badP || fs.any (badF ps.length) then 2 else 0
structure Good (ps : List Pt) (fs : List Fl) : Prop where
  pl : ps.length ≤ 512
  fl : fs.length ≤ 20000
  dep : ∀ p ∈ ps, 0 ≤ p.d ∧ p.d ≤ 512
  snd : Snd ps.length fs
theorem badF_iff (n : Nat) (f : Fl) : badF n f = false ↔ -1 ≤ f.to ∧ f.to < n ∧ 0 ≤ f.fr ∧ f.fr < n ∧ -1 ≤ f.rf ∧ f.rf ≤ 100 := by
  have e : badF n f = true ↔ ¬ (-1 ≤ f.to ∧ f.to < n ∧ 0 ≤ f.fr ∧ f.fr < n ∧ -1 ≤ f.rf ∧ f.rf ≤ 100) := by
    unfold badF inB
    simp only [Bool.or_eq_true, Bool.not_eq_true', Bool.or_eq_false_iff, Bool.and_eq_false_iff, decide_eq_true_eq, decide_eq_false_iff_not, beq_eq_false_iff_ne]
    omega
  constructor
  · intro h
    apply Classical.byContradiction
    intro hn
    rw [e.2 hn] at h; cases h
  · intro h
    cases hb : badF n f with
    | false => rfl
    | true => exact absurd h (e.1 hb)
theorem badP_iff (p : Pt) : badP p = false ↔ 0 ≤ p.d ∧ p.d ≤ 512 := by
  unfold badP
  rw [Bool.or_eq_false_iff, decide_eq_false_iff_not, decide_eq_false_iff_not]
  omega
theorem fault_ok {ps : List Pt} {fs : List Fl} : faultN ps fs = 0 ↔ Good ps fs := by
  unfold faultN
  constructor
  · intro h
    cases h1 : (decide (512 < ps.length) || decide (20000 < fs.length)) with
    | true => rw [h1] at h; cases h
    | false =>
      rw [h1] at h
      cases h2 : (ps.any badP || fs.any (badF ps.length)) with
      | true => rw [h2] at h; cases h
      | false =>
        rw [Bool.or_eq_false_iff, decide_eq_false_iff_not, decide_eq_false_iff_not] at h1
        rw [Bool.or_eq_false_iff, List.any_eq_false, List.any_eq_false] at h2
        refine ⟨by omega, by omega, fun p hp => (badP_iff p).1 ?_, fun f hf => (badF_iff _ f).1 ?_⟩
        · have := h2.1 p hp; simpa using this
        · have := h2.2 f hf; simpa using this
  · rintro ⟨h1, h2, h3, h4⟩
    have e1 : (decide (512 < ps.length) || decide (20000 < fs.length)) = false := by
      rw [Bool.or_eq_false_iff, decide_eq_false_iff_not, decide_eq_false_iff_not]; omega
    have e2 : (ps.any badP || fs.any (badF ps.length)) = false := by
      rw [Bool.or_eq_false_iff, List.any_eq_false, List.any_eq_false]
      exact ⟨fun p hp => by rw [(badP_iff p).2 (h3 p hp)]; simp, fun f hf => by rw [(badF_iff _ f).2 (h4 f hf)]; simp⟩
    rw [e1, e2]; rfl
set_option maxHeartbeats 1000000 in
theorem fault_any {w : World} {vp vf : Value} {ps : List Pt} {fs : List Fl} (R : PtsAt w vp ps) (F : FlsAt w vf fs) : Calls Try.prog 17 #[vp, vf] w fun e w' => e = .returned (.int .i64 (faultN ps fs)) ∧ Below w.heap.size w w' := by
  by_cases h1 : 512 < ps.length
  · obtain ⟨ao, cap, rfl, _⟩ := R
    obtain ⟨bo, cbp, rfl, _⟩ := F
    have e : faultN ps fs = 4 := by unfold faultN; rw [decide_eq_true h1]; rfl
    have h1' : decide (512 < (ps.length : Int)) = true := by simp; omega
    rw [e]
    clear e
    generalize ps.length = n at *
    generalize fs.length = m at *
    go_enter Try.func17, Try.ntmps17
    go_wp2
    go_ret
    exact ⟨rfl, (Below.refl _ _).alloc (Nat.le_refl _) _⟩
  · by_cases h2 : 20000 < fs.length
    · obtain ⟨ao, cap, rfl, _⟩ := R
      obtain ⟨bo, cbp, rfl, _⟩ := F
      have e : faultN ps fs = 4 := by unfold faultN; rw [decide_eq_true h2, Bool.or_true]; rfl
      have h1' : decide (512 < (ps.length : Int)) = false := by simp; omega
      have h2' : decide (20000 < (fs.length : Int)) = true := by simp; omega
      rw [e]
      clear e
      generalize ps.length = n at *
      generalize fs.length = m at *
      go_enter Try.func17, Try.ntmps17
      go_wp2
      go_ret
      exact ⟨rfl, (Below.refl _ _).alloc (Nat.le_refl _) _⟩
    · have e0 : faultN ps fs = bif ps.any badP || fs.any (badF ps.length) then 2 else 0 := by unfold faultN; rw [decide_eq_false h1, decide_eq_false h2]; rfl
      have R1 := R.below ((Below.refl _ w).alloc (Nat.le_refl _) (.cells #[vp] 22))
      have F1 := F.below ((Below.refl _ w).alloc (Nat.le_refl _) (.cells #[vp] 22))
      have hcP := containsP_any R1 (by omega)
      obtain ⟨ao, cap, rfl, _⟩ := R
      have hbx : (w.alloc (.cells #[.slice ao ps.length cap] 22)).cell? ⟨w.heap.size, 0, none⟩ = some (.slice ao ps.length cap) := cell_of (heap_new _ _ rfl) rfl
      have HBX := hide hbx
      have h1' : decide (512 < (ps.length : Int)) = false := by simp; omega
      have h2' : decide (20000 < (fs.length : Int)) = false := by simp; omega
      cases hp : ps.any badP with
      | true =>
        rw [hp] at e0 hcP
        have e : faultN ps fs = 2 := e0
        obtain ⟨bo, cbp, rfl, _⟩ := F
        rw [e]
        clear e e0 R1 F1
        generalize ps.length = n at *
        generalize fs.length = m at *
        go_enter Try.func17, Try.ntmps17
        go_wp2_with (go_at_call 24; refine hcP.mono ?_; rintro e w2 ⟨rfl, hb2⟩)
        go_ret
        exact ⟨rfl, ((Below.refl _ w).alloc (Nat.le_refl _) _).trans (hb2.mono (by simp))⟩
      | false =>
        rw [hp, Bool.false_or] at e0
        rw [hp] at hcP
        obtain ⟨W1, hW1⟩ : ∃ W1, w.alloc (.cells #[.slice ao ps.length cap] 22) = W1 := ⟨_, rfl⟩
        have z1 : W1.heap.size = w.heap.size + 1 := by rw [← hW1]; simp
        have hcF : ∀ w2, Below W1.heap.size W1 w2 → Calls Try.prog 25 #[vf, .func (.func 23) #[] #[.pointer (some ⟨w.heap.size, 0, none⟩)]] w2 fun e w' => e = .returned (.bool (fs.any (badF ps.length))) ∧ Below w2.heap.size w2 w' := fun w2 hb =>
          containsF_any (F1.below (by rw [hW1]; exact hb)) (by omega) (by rw [hb.cell (p := ⟨w.heap.size, 0, none⟩) (by rw [z1]; exact Nat.lt_succ_self _), ← hW1]; exact HBX.out) (by have := hb.size; omega)
        have HCF := hide hcF
        have HB1 := hide (show Below w.heap.size w W1 by rw [← hW1]; exact (Below.refl _ w).alloc (Nat.le_refl _) _)
        rw [hW1] at hcP
        obtain ⟨bo, cbp, rfl, _⟩ := F
        have HW1 := hide hW1
        rw [e0]
        clear hcF e0 R1 F1 hbx HBX hW1
        cases hf : fs.any (badF ps.length) with
        | true =>
          rw [hf] at HCF
          show Calls _ _ _ _ fun e w' => e = .returned (.int .i64 2) ∧ _
          generalize ps.length = n at *
          generalize fs.length = m at *
          go_enter Try.func17, Try.ntmps17
          go_wp2_with fail
          rw [HW1.out]
          refine hcP.mono ?_
          rintro e w2 ⟨rfl, hb2⟩
          have h2 := HCF.out w2 hb2
          have hb3 := hide (HB1.out.trans (hb2.mono HB1.out.size))
          clear hb2
          go_wp2_with (go_at_call 25; refine h2.mono ?_; rintro e w3 ⟨rfl, hb4⟩)
          go_ret
          exact ⟨rfl, hb3.out.trans (hb4.mono hb3.out.size)⟩
        | false =>
          rw [hf] at HCF
          show Calls _ _ _ _ fun e w' => e = .returned (.int .i64 0) ∧ _
          generalize ps.length = n at *
          generalize fs.length = m at *
          go_enter Try.func17, Try.ntmps17
          go_wp2_with fail
          rw [HW1.out]
          refine hcP.mono ?_
          rintro e w2 ⟨rfl, hb2⟩
          have h2 := HCF.out w2 hb2
          have hb3 := hide (HB1.out.trans (hb2.mono HB1.out.size))
          clear hb2
          go_wp2_with (go_at_call 25; refine h2.mono ?_; rintro e w3 ⟨rfl, hb4⟩)
          go_ret
          exact ⟨rfl, hb3.out.trans (hb4.mono hb3.out.size)⟩
end Go.Proofs.Ytlbildodjnjniaa
