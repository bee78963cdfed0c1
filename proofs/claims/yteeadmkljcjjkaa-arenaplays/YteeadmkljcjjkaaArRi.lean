/- The document's Alloc: a piece more. -/
import Derived.Test.YteeadmkljcjjkaaArRg
namespace Go.Proofs.Yteeadmkljcjjkaa
open Go.RowKit Go.Maps

section
variable {B : Nat} {r : Rs} {vp vs : Value} {w : World}
/-- A piece more, at the line. -/
def rMore (r : Rs) (c n : Nat) : Rs := { r with ln := r.ln + c, ps := r.ps ++ [⟨r.ln, n, false, 0⟩] }
theorem RL.grow (R : RL B w r vp vs) {c : Nat} (hl : r.ln + c ≤ 65537) (hp : r.ps.length < 65536) (H : Nat) (hH : w.heap.size = H) :
    ∃ g cap w4, (Builtin.append_ #[28, 28] 28 #[vp, .slice (some ⟨H, 0, none⟩) 1 1]).run Try.prog (w.alloc (.cells #[.int .i64 r.ln, .int .i64 0, .bool false, .int .i64 0] 66)) = .ok (.slice (some ⟨g, 0, none⟩) (r.ps.length + 1) cap) w4 ∧
      RL B w4 (rMore r c 0) (.slice (some ⟨g, 0, none⟩) (r.ps.length + 1) cap) vs ∧ (w.alloc (.cells #[.int .i64 r.ln, .int .i64 0, .bool false, .int .i64 0] 66)).grownBy w4 vp.ownBlock ∧ (vp.ownBlock = some g ∨ g = H + 1) ∧ g < w4.heap.size := by
  subst hH
  obtain ⟨i0, hi, hz0, hz1, hz2⟩ := info_parts Try.info66
  have hB := R.hB
  have Ra := R.alloc (.cells #[.int .i64 r.ln, .int .i64 0, .bool false, .int .i64 0] 66)
  have hnb : (w.alloc (.cells #[.int .i64 r.ln, .int .i64 0, .bool false, .int .i64 0] 66)).heap[w.heap.size]? = some (.cells #[.int .i64 r.ln, .int .i64 0, .bool false, .int .i64 0] 66 (0, 0)) := heap_new _ _ rfl
  obtain ⟨g, cap, w4, hrun, hown, hgrow, hat, hlt⟩ := run_append_lies (P := Try.prog) (w.alloc (.cells #[.int .i64 r.ln, .int .i64 0, .bool false, .int .i64 0] 66)) 28 28 B 66 i0 _ 4 32 Try.underlying28 hi hz0 hz1 hz2 rfl (by decide) vp _ _ Ra.pcs ⟨w.heap.size, 0, none⟩ 1 1 [.int .i64 r.ln, .int .i64 0, .bool false, .int .i64 0] rfl (World.news_of_block hnb)
    (by intro u hu; simp at hu; rcases hu with rfl | rfl | rfl | rfl <;> rfl) (by decide) (by unfold maxLen; omega) (by omega) (by simp; omega) (w.heap.size + 1) (by simp)
  refine ⟨g, cap, w4, hrun, ⟨?_, ownsRow_keep R.sto fun j hj => ?_, R.bw, hl, by simp [rMore]; omega, R.bs, R.bf, ?_, ?_⟩, hgrow, hat, hlt⟩
  · have e : rcells (rMore r c 0).ps = rcells r.ps ++ [.int .i64 r.ln, .int .i64 0, .bool false, .int .i64 0] := by
      show rcells (r.ps ++ [_]) = _; rw [rcells_append]; rfl
    have e2 : (rMore r c 0).ps.length = r.ps.length + 1 := by simp [rMore]
    rw [e, e2]; exact hown
  · rw [hgrow.block j (by have := (R.sto.lt j hj).2; simp; omega) (fun e => R.apart e.symm j hj rfl), Below.heap_alloc _ _ _ (R.sto.lt j hj).2]
  · intro i p h
    have h2 : (r.ps ++ [(⟨r.ln, 0, false, 0⟩ : Rp)])[i]? = some p := h
    rw [List.getElem?_append] at h2
    split at h2
    · exact R.ba i p h2
    · have h3 := List.mem_of_getElem? h2
      simp at h3; subst h3
      have := R.bl
      exact ⟨by show r.ln ≤ _; omega, by simp, by simp⟩
  · have := hgrow.size; simp at this; omega
theorem RL.reset {g cap c n : Nat} (R : RL B w (rMore r c 0) (.slice (some ⟨g, 0, none⟩) (r.ps.length + 1) cap) vs) (hn : n ≤ 65536) :
    RL B ((((w.setCell ⟨g, r.ps.length * 4, none⟩ (.int .i64 r.ln)).setCell ⟨g, r.ps.length * 4 + 1, none⟩ (.int .i64 n)).setCell ⟨g, r.ps.length * 4 + 2, none⟩ (.bool false)).setCell ⟨g, r.ps.length * 4 + 3, none⟩ (.int .i64 0)) (rMore r c n) (.slice (some ⟨g, 0, none⟩) (r.ps.length + 1) cap) vs := by
  have h := R.repl (g := g) (cap := cap) (b := r.ps.length) (n := n) (q := ⟨r.ln, 0, false, 0⟩) (by simp [rMore]) (by simp [rMore]) hn
  have e : ({ rMore r c 0 with ps := (rMore r c 0).ps.set r.ps.length ⟨r.ln, n, false, 0⟩ } : Rs) = rMore r c n := by simp [rMore]
  rw [e] at h
  exact h
end
end Go.Proofs.Yteeadmkljcjjkaa
