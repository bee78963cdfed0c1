/- What the document's Alloc does with its copy. -/
import Derived.Test.YteeadmkljcjjkaaArRe
namespace Go.Proofs.Yteeadmkljcjjkaa
open Go.RowKit Go.Maps

theorem clr_set {st : List Int} {o t : Nat} (h : o + t < st.length) : (clr st o t).set (o + t) 0 = clr st o (t + 1) := by
  apply List.ext_getElem?
  intro i
  rw [List.getElem?_set, clr_get (by omega), clr_get (by omega), clr_length (by omega)]
  by_cases h1 : o + t = i
  · subst h1; rw [if_pos rfl, if_pos h, if_pos (by omega)]
  · rw [if_neg h1]
    by_cases h2 : o ≤ i ∧ i < o + t
    · rw [if_pos h2, if_pos (by omega)]
    · rw [if_neg h2, if_neg (by omega)]
theorem clr_zero (st : List Int) (o : Nat) : clr st o 0 = st := by simp [clr]
section
variable {B : Nat} {r : Rs} {vp vs : Value} {w : World}
theorem RL.apart (R : RL B w r vp vs) {g : Nat} (hg : vp.ownBlock = some g) : ∀ j, vs.ownBlock = some j → j ≠ g := by
  intro j hj e
  rcases R.sto.2 with ⟨h1, _⟩ | ⟨g', cap', cur, h1, _, h2, _⟩
  · rw [h1] at hj; cases hj
  · rw [h1] at hj; cases hj
    rcases R.pcs.2 with ⟨h3, _⟩ | ⟨g2, cap2, cur2, h3, _, h4, _⟩
    · rw [h3] at hg; cases hg
    · rw [h3] at hg; cases hg; rw [show g' = g2 from e, h4] at h2; simp at h2
/-- A piece is given anew. -/
theorem RL.repl (R : RL B w r vp vs) {g cap b n : Nat} {q : Rp} (hv : vp = .slice (some ⟨g, 0, none⟩) r.ps.length cap) (hq : r.ps[b]? = some q) (hn : n ≤ 65536) :
    RL B ((((w.setCell ⟨g, b * 4, none⟩ (.int .i64 q.a)).setCell ⟨g, b * 4 + 1, none⟩ (.int .i64 n)).setCell ⟨g, b * 4 + 2, none⟩ (.bool false)).setCell ⟨g, b * 4 + 3, none⟩ (.int .i64 0)) { r with ps := r.ps.set b ⟨q.a, n, false, 0⟩ } vp vs := by
  have hap := R.apart (g := g) (by rw [hv]; rfl)
  subst hv
  refine ⟨?_, ownsRow_keep R.sto fun j hj => ?_, R.bw, R.bl, by show (r.ps.set b _).length ≤ _; rw [List.length_set]; exact R.bp, R.bs, R.bf, ?_, by simp; exact R.hB⟩
  · show World.ownsRow _ B 66 4 _ (r.ps.set b _).length (rcells (r.ps.set b ⟨q.a, n, false, 0⟩))
    rw [List.length_set, rcells_set _ (get_lt hq)]
    exact row_setS (row_setS (row_setS (row_setS R.pcs _) _) _) _
  · have hne := hap j hj
    rw [Below.heap_setCell _ _ _ _ hne, Below.heap_setCell _ _ _ _ hne, Below.heap_setCell _ _ _ _ hne, Below.heap_setCell _ _ _ _ hne]
  · intro j p hp
    have hp2 : (r.ps.set b ⟨q.a, n, false, 0⟩)[j]? = some p := hp
    rw [List.getElem?_set] at hp2
    split at hp2
    · split at hp2
      · cases hp2
        obtain ⟨a, _, _⟩ := R.ba b q hq
        exact ⟨a, hn, Nat.zero_le _⟩
      · cases hp2
    · exact R.ba j p hp2
theorem four_cells (w : World) (b j o : Nat) (v1 v2 v3 v4 : Value) (h2 : j ≠ b) :
    ((((w.setCell ⟨b, o, none⟩ v1).setCell ⟨b, o + 1, none⟩ v2).setCell ⟨b, o + 2, none⟩ v3).setCell ⟨b, o + 3, none⟩ v4).heap[j]? = w.heap[j]? := by
  rw [Below.heap_setCell _ _ _ _ h2, Below.heap_setCell _ _ _ _ h2, Below.heap_setCell _ _ _ _ h2, Below.heap_setCell _ _ _ _ h2]
/-- A word of the store is emptied. -/
theorem RL.zero {a t g cap : Nat} (R : RL B w { r with st := clr r.st a t } vp vs) (hv : vs = .slice (some ⟨g, 0, none⟩) r.st.length cap) (h : a + t < r.st.length) : RL B (w.setCell ⟨g, a + t, none⟩ (.int .i64 0)) { r with st := clr r.st a (t + 1) } vp vs := by
  have h1 := R.set (m := a + t) (g := g) (cap := cap) (by rw [hv]; show _ = Value.slice _ (clr r.st a t).length _; rw [clr_length (by omega)]) 0
  have e : rSet { r with st := clr r.st a t } (a + t) 0 = { r with st := clr r.st a (t + 1) } := by
    unfold rSet
    rw [← clr_set h]
  rw [e] at h1
  exact h1
end
end Go.Proofs.Yteeadmkljcjjkaa
