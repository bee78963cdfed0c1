/- The document's arena in memory. -/
import Derived.Test.YteeadmkljcjjkaaArRm
import Derived.Test.YteeadmkljcjjkaaArV
namespace Go.Proofs.Yteeadmkljcjjkaa
open Go.RowKit Go.Maps

theorem Try.info66 : (Try.prog.info? 66).map (fun i => (i.zero, i.size, i.bytes)) = some (some (.agg #[.int .i64 0, .int .i64 0, .bool false, .int .i64 0]), 4, 32) := by kernel_rfl
def rcells : List Rp → List Value
  | [] => []
  | p :: r => .int .i64 p.a :: .int .i64 p.n :: .bool p.f :: .int .i64 p.t :: rcells r
theorem rcells_length : ∀ ps : List Rp, (rcells ps).length = ps.length * 4
  | [] => rfl
  | p :: r => by simp [rcells, rcells_length r]; omega
theorem rcells_append : ∀ ps qs : List Rp, rcells (ps ++ qs) = rcells ps ++ rcells qs
  | [], _ => rfl
  | p :: r, qs => by simp [rcells, rcells_append r qs]
theorem rcells_get : ∀ {ps : List Rp} {i : Nat} {p : Rp}, ps[i]? = some p → (rcells ps)[i * 4]? = some (.int .i64 p.a) ∧ (rcells ps)[i * 4 + 1]? = some (.int .i64 p.n) ∧ (rcells ps)[i * 4 + 2]? = some (.bool p.f) ∧ (rcells ps)[i * 4 + 3]? = some (.int .i64 p.t)
  | [], i, p, h => by simp at h
  | q :: r, 0, p, h => by simp at h; subst h; exact ⟨rfl, rfl, rfl, rfl⟩
  | q :: r, i + 1, p, h => by
    have := rcells_get (ps := r) (i := i) (p := p) (by simpa using h)
    rw [show (i + 1) * 4 = i * 4 + 1 + 1 + 1 + 1 from by omega]
    simpa [rcells, Nat.add_assoc] using this
theorem rcells_set : ∀ {ps : List Rp} {i : Nat} (q : Rp), i < ps.length → rcells (ps.set i q) = ((((rcells ps).set (i * 4) (.int .i64 q.a)).set (i * 4 + 1) (.int .i64 q.n)).set (i * 4 + 2) (.bool q.f)).set (i * 4 + 3) (.int .i64 q.t)
  | [], i, q, h => by simp at h
  | p :: r, 0, q, h => by simp [rcells]
  | p :: r, i + 1, q, h => by
    have h1 := rcells_set (ps := r) (i := i) q (by simpa using h)
    rw [show (i + 1) * 4 = i * 4 + 1 + 1 + 1 + 1 from by omega]
    simp [rcells, h1, Nat.add_assoc]
theorem rcells_one (ps : List Rp) : ∀ u ∈ rcells ps, u.oneCell' = true := by
  induction ps with
  | nil => simp [rcells]
  | cons p r ih =>
    intro u hu
    simp only [rcells, List.mem_cons] at hu
    rcases hu with rfl | rfl | rfl | rfl | hu
    · rfl
    · rfl
    · rfl
    · rfl
    · exact ih u hu
theorem ints_one (l : List Int) : ∀ u ∈ ints l, u.oneCell' = true := by
  intro u hu
  simp only [ints, List.mem_map] at hu
  obtain ⟨x, _, rfl⟩ := hu
  rfl
/-- The document's arena as a value. -/
abbrev rv (r : Rs) (vp vs : Value) : Value := .agg #[.int .i64 r.wd, .int .i64 r.ln, vp, .int .i64 r.fd, vs]
/-- The document's arena r lies in w, its lists at vp and vs, from block B on. -/
structure RL (B : Nat) (w : World) (r : Rs) (vp vs : Value) : Prop where
  pcs : w.ownsRow B 66 4 vp r.ps.length (rcells r.ps)
  sto : w.ownsRow B 3 1 vs r.st.length (ints r.st)
  bw : r.wd ≤ 65536
  bl : r.ln ≤ 65537
  bp : r.ps.length ≤ 65536
  bs : r.st.length ≤ 65537
  bf : r.fd ≤ 60000
  ba : ∀ (i : Nat) (p : Rp), r.ps[i]? = some p → p.a ≤ 65537 ∧ p.n ≤ 65536 ∧ p.t ≤ 60000
  hB : B ≤ w.heap.size
section
variable {B : Nat} {w w' : World} {r : Rs} {vp vs : Value}
theorem RL.keep (R : RL B w r vp vs) (h1 : ∀ g, vp.ownBlock = some g → w'.heap[g]? = w.heap[g]?) (h2 : ∀ g, vs.ownBlock = some g → w'.heap[g]? = w.heap[g]?) (hz : w.heap.size ≤ w'.heap.size) : RL B w' r vp vs :=
  ⟨ownsRow_keep R.pcs h1, ownsRow_keep R.sto h2, R.bw, R.bl, R.bp, R.bs, R.bf, R.ba, Nat.le_trans R.hB hz⟩
theorem RL.below (R : RL B w r vp vs) (hb : Below w.heap.size w w') : RL B w' r vp vs :=
  R.keep (fun g hg => hb.block g (R.pcs.lt g hg).2) (fun g hg => hb.block g (R.sto.lt g hg).2) hb.size
theorem RL.alloc (R : RL B w r vp vs) (o : Obj) : RL B (w.alloc o) r vp vs := R.below ((Below.refl _ _).alloc (Nat.le_refl _) _)
theorem RL.pform (R : RL B w r vp vs) : ∃ ao cap, vp = .slice ao r.ps.length cap := by
  rcases R.pcs.2 with ⟨h1, h0⟩ | ⟨g, cap, cur, h1, _⟩
  · exact ⟨none, 0, by rw [h0]; exact h1⟩
  · exact ⟨_, cap, h1⟩
theorem RL.sform (R : RL B w r vp vs) : ∃ ao cap, vs = .slice ao r.st.length cap := row_form R.sto
theorem RL.piece (R : RL B w r vp vs) {i : Nat} {p : Rp} (hp : r.ps[i]? = some p) : ∃ g cap, vp = .slice (some ⟨g, 0, none⟩) r.ps.length cap ∧ g < w.heap.size ∧ w.cell? ⟨g, i * 4, none⟩ = some (.int .i64 p.a) ∧ w.cell? ⟨g, i * 4 + 1, none⟩ = some (.int .i64 p.n) ∧ w.cell? ⟨g, i * 4 + 2, none⟩ = some (.bool p.f) ∧ w.cell? ⟨g, i * 4 + 3, none⟩ = some (.int .i64 p.t) ∧ (∀ o, w.frozen? ⟨g, o, none⟩ = false) := by
  have hi := get_lt hp
  rcases R.pcs.2 with ⟨_, h0⟩ | ⟨g, cap, cur, h1, _, h2, _, _, _, h3⟩
  · omega
  · have key : ∀ {o : Nat} {u : Value}, (rcells r.ps)[o]? = some u → w.cell? ⟨g, o, none⟩ = some u := fun {o u} h => by
      rw [← h3, List.getElem?_take] at h
      split at h
      · simpa [World.cell?, h2] using h
      · cases h
    obtain ⟨e1, e2, e3, e4⟩ := rcells_get hp
    exact ⟨g, cap, h1, lt_of_block h2, key e1, key e2, key e3, key e4, fun o => by simp [World.frozen?, h2]⟩
theorem ints_get {l : List Int} {j : Nat} {a : Int} (h : l[j]? = some a) : (ints l)[j]? = some (.int .i64 a) := by simp [ints, h]
end
end Go.Proofs.Yteeadmkljcjjkaa
