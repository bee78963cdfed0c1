/- Sorted texts without those that stand twice. -/
import Derived.Test.YtbejkphekfbfnaaGreatDcS
import Derived.Lib.SlicesCompact
namespace Go.Proofs.YtbejkphekfbfnaaGreat
open Go.RowKit

theorem keeps_len (d : Array (List UInt8)) : ∀ m, (Lib.compactUpTo d m).length ≤ m ∧ ((Lib.compactUpTo d m).length = m ↔ ∀ j, j < m → Lib.keeps d j = true)
  | 0 => by simp [Lib.compactUpTo]
  | m + 1 => by
    obtain ⟨h1, h2⟩ := keeps_len d m
    rw [Lib.compactUpTo_succ, List.length_append]
    cases hk : Lib.keeps d m with
    | true =>
      rw [if_pos rfl]
      refine ⟨by simp; omega, ⟨fun h j hj => ?_, fun h => ?_⟩⟩
      · rcases Nat.lt_or_ge j m with h3 | h3
        · exact h2.1 (by simp at h; omega) j h3
        · have : j = m := by omega
          subst this; exact hk
      · have := h2.2 fun j hj => h j (by omega)
        simp; omega
    | false =>
      rw [if_neg (by simp)]
      refine ⟨by simp; omega, ⟨fun h => by simp at h; omega, fun h => ?_⟩⟩
      have := h m (by omega)
      rw [hk] at this; cases this
theorem bytes_trans (a b c : List UInt8) : decide (a ≤ b) = true → decide (b ≤ c) = true → decide (a ≤ c) = true := by
  simp only [decide_eq_true_eq]
  exact List.le_trans
theorem bytes_total (a b : List UInt8) : (decide (a ≤ b) || decide (b ≤ a)) = true := by
  simp only [Bool.or_eq_true, decide_eq_true_eq]
  exact List.le_total a b
/-- Sorted texts are all kept just if none stands twice. -/
theorem compact_sorted (l : List (List UInt8)) : ((Lib.compact (l.mergeSort fun x y => decide (x ≤ y))).length = l.length) ↔ l.Nodup := by
  have hp := List.mergeSort_perm l (fun x y => decide (x ≤ y))
  have hs := List.pairwise_mergeSort bytes_trans bytes_total l
  generalize l.mergeSort (fun x y => decide (x ≤ y)) = m at *
  rw [← hp.nodup_iff, ← hp.length_eq]
  unfold Lib.compact
  rw [(keeps_len m.toArray m.length).2]
  constructor
  · intro h
    rw [List.Nodup, List.pairwise_iff_getElem]
    intro i j hi hj hij e
    have h1 := h j hj
    unfold Lib.keeps at h1
    have h2 := of_decide_eq_true h1
    rcases h2 with h2 | h2
    · omega
    apply h2
    have hj1 : j - 1 < m.length := by omega
    have ga : m.toArray[j]! = m[j] := by simp [hj]
    have gb : m.toArray[j - 1]! = m[j - 1] := by simp [hj1]
    rw [ga, gb]
    rw [List.pairwise_iff_getElem] at hs
    have hb := of_decide_eq_true (hs (j - 1) j hj1 hj (by omega))
    apply List.le_antisymm _ hb
    rcases Nat.lt_or_ge i (j - 1) with h3 | h3
    · have ha := of_decide_eq_true (hs i (j - 1) hi hj1 h3)
      rw [← e]; exact ha
    · have h4 : i = j - 1 := by omega
      subst h4
      rw [← e]; exact List.le_refl _
  · intro h j hj
    unfold Lib.keeps
    apply decide_eq_true
    rcases Nat.eq_zero_or_pos j with h0 | h0
    · exact .inl h0
    · right
      have hj1 : j - 1 < m.length := by omega
      have ga : m.toArray[j]! = m[j] := by simp [hj]
      have gb : m.toArray[j - 1]! = m[j - 1] := by simp [hj1]
      rw [ga, gb]
      rw [List.Nodup, List.pairwise_iff_getElem] at h
      exact fun e => h (j - 1) j hj1 hj (by omega) e.symm
end Go.Proofs.YtbejkphekfbfnaaGreat
