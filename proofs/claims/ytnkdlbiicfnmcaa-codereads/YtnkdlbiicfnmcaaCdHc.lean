/- The document's reader: count. -/
import Derived.Test.YtnkdlbiicfnmcaaCdH
namespace Go.Proofs.Ytnkdlbiicfnmcaa
open Go.RowKit
section
variable {B A : Nat} {w w' : World} {s : Rs}
/-- What count answers: a count that is within what is left, or a fault. -/
def DcO (B A : Nat) (w : World) (s : Rs) (e : Ending) (w' : World) : Prop := ∃ (n : Nat) (s' : Rs), e = .returned (.int .i64 n) ∧ Rd B A w' s' ∧ Fr A w w' ∧ s'.rest.length ≤ s.rest.length ∧
  ((s'.bad = false ∧ s.bad = false ∧ cntR s = (n, s') ∧ n ≤ s'.rest.length) ∨ (s'.bad = true ∧ n = 0 ∧ (s.bad = true ∨ (cntR s).2 = failS ∨ ((cntR s).2.bad = false ∧ (cntR s).2.rest.length < (cntR s).1))))
theorem Agn.less {x : Int} {s' : Rs} (h : Agn numR s x s') : s'.rest.length ≤ s.rest.length := by
  rcases h with ⟨h1, _, h3⟩ | ⟨_, h, _⟩
  · rcases numR_eats s with h4 | h4
    · rw [h3] at h4
      simp only at h4
      rw [h4] at h1
      cases h1
    · rw [h3] at h4
      simp only at h4
      omega
  · exact h
set_option maxRecDepth 100000 in
set_option maxHeartbeats 1000000 in
theorem dcount_any (L : Rd B A w s) (hl : s.rest.length ≤ MB) : Calls Try.prog 29 #[.pointer (some ⟨A, 0, none⟩)] w fun e w' => DcO B A w s e w' := by
  have C1 := hide (dnum_any L hl)
  have HL := hide hl
  clear L hl
  go_enter Try.func29, Try.ntmps29
  go_wp2_with fail
  refine C1.out.mono ?_
  rintro e w1 ⟨x, s1, rfl, L1, G1, F1, hx⟩
  have hle := G1.less
  have HG := hide G1
  have HF := hide F1
  have HL1 := hide L1
  have HX := hide hx
  have HLe := hide hle
  obtain ⟨_, v, h2, ao, cap, hv, _⟩ := L1
  subst hv
  have c0 : w1.cell? ⟨A, 0, none⟩ = some (.slice ao s1.rest.length cap) := cell_of h2 rfl
  have c1 : w1.cell? ⟨A, 1, none⟩ = some (.bool s1.bad) := cell_of h2 rfl
  have f1 : w1.frozen? ⟨A, 1, none⟩ = false := by simp [World.frozen?, h2]
  have hlt := lt_of_block h2
  have HS := hide (HL1.out.set1 true)
  have hc1' : (w1.setCell ⟨A, 1, none⟩ (.bool true)).cell? ⟨A, 1, none⟩ = some (.bool true) := cell_of (heap_setCell_same w1 A 1 (.bool true) h2) (by simp)
  have HCN := hide (show cntR s = if (numR s).1 < 0 then (0, failS) else ((numR s).1.toNat, (numR s).2) from rfl)
  clear h2 G1 F1 hx hle C1
  by_cases hneg : x < 0
  · have d1 : decide (x < 0) = true := by simpa using hneg
    have HN := hide hneg
    clear hneg
    obtain ⟨W2, hW2⟩ : ∃ W2, w1.setCell ⟨A, 1, none⟩ (.bool true) = W2 := ⟨_, rfl⟩
    rw [hW2] at HS hc1'
    generalize hn1 : s1.rest.length = n1 at *
    have HN1 := hide hn1
    clear hn1
    go_wp2
    go_ret
    refine ⟨0, ⟨s1.rest, true⟩, rfl, HS.out.1, HF.out.trans HS.out.2, by rw [HN1.out]; exact HLe.out, .inr ⟨rfl, rfl, ?_⟩⟩
    rcases HG.out with ⟨h1, h2, h3⟩ | ⟨_, _, h3⟩
    · right; left
      rw [HCN.out, h3, if_pos HN.out]
    · rcases h3 with h3 | h3
      · exact .inl h3
      · right; left
        rw [HCN.out]
        split
        · rfl
        · exact h3
  · have d1 : decide (x < 0) = false := by simpa using hneg
    have HN := hide hneg
    by_cases hbig : (s1.rest.length : Int) < x
    · have d2 : decide ((s1.rest.length : Int) < x) = true := by simpa using hbig
      have HBg := hide hbig
      clear hneg hbig
      obtain ⟨W2, hW2⟩ : ∃ W2, w1.setCell ⟨A, 1, none⟩ (.bool true) = W2 := ⟨_, rfl⟩
      rw [hW2] at HS hc1'
      generalize hn1 : s1.rest.length = n1 at *
      have HN1 := hide hn1
      clear hn1
      go_wp2
      go_ret
      refine ⟨0, ⟨s1.rest, true⟩, rfl, HS.out.1, HF.out.trans HS.out.2, by rw [HN1.out]; exact HLe.out, .inr ⟨rfl, rfl, ?_⟩⟩
      rcases HG.out with ⟨h1, h2, h3⟩ | ⟨_, _, h3⟩
      · right; right
        have h4 := HN.out
        have h5 := HBg.out
        have h6 := HN1.out
        rw [HCN.out, h3]
        simp only []
        rw [if_neg (by omega)]
        exact ⟨h1, by simp only []; omega⟩
      · rcases h3 with h3 | h3
        · exact .inl h3
        · right; left
          rw [HCN.out]
          split
          · rfl
          · exact h3
    · have d2 : decide ((s1.rest.length : Int) < x) = false := by simpa using hbig
      have HBg := hide hbig
      clear hneg hbig
      obtain ⟨xn, hxn⟩ : ∃ xn : Nat, x = xn := ⟨x.toNat, by have := HN.out; omega⟩
      have HXN := hide hxn
      generalize hn1 : s1.rest.length = n1 at *
      have HN1 := hide hn1
      clear hn1 hxn
      cases hb : s1.bad with
      | true =>
        rw [hb] at c1
        have HB := hide hb
        clear hb
        go_wp2
        go_ret
        refine ⟨0, s1, rfl, HL1.out, HF.out, by rw [HN1.out]; exact HLe.out, .inr ⟨HB.out, rfl, ?_⟩⟩
        rcases HG.out with ⟨h1, _, _⟩ | ⟨_, _, h3⟩
        · rw [HB.out] at h1; cases h1
        · rcases h3 with h3 | h3
          · exact .inl h3
          · right; left
            rw [HCN.out]
            split
            · rfl
            · exact h3
      | false =>
        rw [hb] at c1
        have HB := hide hb
        clear hb
        go_wp2
        go_ret
        refine ⟨xn, s1, congrArg (fun q => Ending.returned (Value.int .i64 q)) HXN.out, HL1.out, HF.out, by rw [HN1.out]; exact HLe.out, .inl ⟨HB.out, ?_⟩⟩
        rcases HG.out with ⟨h1, h2, h3⟩ | ⟨h1, _, _⟩
        · refine ⟨h2, ?_, ?_⟩
          · have h4 := HN.out
            have h5 := HXN.out
            rw [HCN.out, h3]
            simp only []
            rw [if_neg (by omega), h5]
            simp
          · have h5 := HXN.out
            have h6 := HBg.out
            have h7 := HN1.out
            omega
        · rw [HB.out] at h1; cases h1
end
end Go.Proofs.Ytnkdlbiicfnmcaa
