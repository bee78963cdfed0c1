/- Live. -/
import Derived.Test.YtimpmgbahgganaaArI
namespace Go.Proofs.Ytimpmgbahgganaa
open Go.RowKit Go.Maps

def liveL (ps : List Pc) : List Nat := (ps.filter fun p => decide (0 < p.n)).map (·.a)
theorem liveL_snoc {ps : List Pc} {j : Nat} {p : Pc} (h : ps[j]? = some p) : liveL (ps.take (j + 1)) = liveL (ps.take j) ++ if 0 < p.n then [p.a] else [] := by
  have : ps.take (j + 1) = ps.take j ++ [p] := by rw [List.take_add_one, h]; rfl
  rw [this]
  unfold liveL
  by_cases hn : 0 < p.n <;> simp [hn]
theorem liveL_le (ps : List Pc) (j : Nat) : (liveL (ps.take j)).length ≤ j := by
  unfold liveL
  rw [List.length_map]
  exact Nat.le_trans (List.length_filter_le _ _) (by simp; omega)
/-- One number more behind a row of one's own. -/
theorem run_app1 {W : World} {B b m : Nat} {v : Value} {xs : List Value} {a : Int} (hown : W.ownsRow B 3 1 v m xs) (hb : W.heap[b]? = some (.cells #[.int .i64 a] 3 (0, 0))) (hlen : m < 1000000000) (hB : B ≤ W.heap.size) :
    ∃ g cap w', (Builtin.append_ #[31, 31] 31 #[v, .slice (some ⟨b, 0, none⟩) 1 1]).run Try.prog W = .ok (.slice (some ⟨g, 0, none⟩) (m + 1) cap) w' ∧
      w'.ownsRow B 3 1 (.slice (some ⟨g, 0, none⟩) (m + 1) cap) (m + 1) (xs ++ [.int .i64 a]) ∧ W.grownBy w' v.ownBlock ∧ (v.ownBlock = some g ∨ g = W.heap.size) ∧ g < w'.heap.size := by
  obtain ⟨i0, hi, hz0, hz1, hz2⟩ := info_parts Try.info3
  exact run_append_lies (P := Try.prog) W 31 31 B 3 i0 _ 1 8 Try.underlying31 hi hz0 hz1 hz2 rfl (by decide) v m xs hown ⟨b, 0, none⟩ 1 1 [.int .i64 a] rfl (World.news_of_block hb)
    (by intro u hu; simp at hu; subst hu; rfl) (by decide) (by unfold maxLen; omega) (by omega) hB _ rfl
section
variable {X : Wh} {s : As} {k : Nat} {w : World}
end
end Go.Proofs.Ytimpmgbahgganaa
