/- Solve, whatever the graph; a list of flows with one more, in whatever order its boxes are laid. -/
import Derived.Test.YtlbildodjnjniaaEsS
namespace Go.Proofs.Ytlbildodjnjniaa
open Go.RowKit

/-- What Solve answers. -/
def SolO (ps : List Pt) (fs : List Fl) (w : World) (v e : Value) : Prop :=
  (faultN ps fs ≠ 0 ∧ v = .slice none 0 0 ∧ e = .int .i64 (faultN ps fs)) ∨ (Good ps fs ∧ e = .int .i64 0 ∧ ∃ (ao : Option Addr) (cap : Nat) (E : Nat → Bool), v = .slice ao ps.length cap ∧ BoolsAt w v ((List.range ps.length).map E) ∧ ∀ x, x < ps.length → (E x = true ↔ Esc ps fs x))
section
variable {w w' : World} {vp vf : Value} {ps : List Pt} {fs : List Fl}
theorem SolO.below {v e : Value} (S : SolO ps fs w v e) (hb : Below w.heap.size w w') : SolO ps fs w' v e := by
  rcases S with h | ⟨h1, h2, ao, cap, E, h3, h4, h5⟩
  · exact .inl h
  · exact .inr ⟨h1, h2, ao, cap, E, h3, h4.below hb, h5⟩
theorem SolO.shape {v e : Value} (S : SolO ps fs w v e) : ∃ (ao : Option Addr) (n cap : Nat) (c : Int), v = .slice ao n cap ∧ e = .int .i64 c := by
  rcases S with ⟨_, h1, h2⟩ | ⟨_, h2, ao, cap, E, h3, _⟩
  · exact ⟨_, _, _, _, h1, h2⟩
  · exact ⟨_, _, _, _, h3, h2⟩
theorem solve_any (R : PtsAt w vp ps) (F : FlsAt w vf fs) : Calls Try.prog 14 #[vp, vf] w fun e w' => ∃ v c, e = .returned (.tuple #[v, c]) ∧ SolO ps fs w' v c ∧ Below w.heap.size w w' := by
  by_cases h : faultN ps fs = 0
  · refine (solve_ok R F (fault_ok.1 h)).mono ?_
    rintro e w' ⟨v, E, rfl, H, hb⟩
    obtain ⟨ao, cap, hv, _⟩ := id H.out.1
    rw [List.length_map, List.length_range] at hv
    exact ⟨v, _, rfl, .inr ⟨fault_ok.1 h, rfl, ao, cap, E, hv, H.out.1, H.out.2⟩, hb⟩
  · refine (solve_bad R F h).mono ?_
    rintro e w' ⟨rfl, hb⟩
    exact ⟨_, _, rfl, .inl ⟨h, rfl, rfl⟩, hb⟩
/-- The copy. -/
theorem chainA {w0 : World} {b : Nat} (hb : w.heap[b]? = some (.cells #[] 42 (0, 0))) (hB : w0.heap.size ≤ b) (hbel : Below w0.heap.size w0 w) (F : FlsAt w0 vf fs) (hl : fs.length ≤ 2000000) :
    ∃ a1 c1 w', (Builtin.append_ #[23, 23] 23 #[.slice (some ⟨b, 0, none⟩) 0 0, vf]).run Try.prog w = .ok (.slice a1 fs.length c1) w' ∧ w'.ownsRow w0.heap.size 42 3 (.slice a1 fs.length c1) fs.length (fcs fs) ∧ Below w0.heap.size w0 w' ∧ (∀ j, j < w.heap.size → j ≠ b → w'.heap[j]? = w.heap[j]?) := by
  obtain ⟨v, w', hr, ho, hg⟩ := copy_app hb hB (F.below hbel) hl
  obtain ⟨a1, c1, hv⟩ := row_form ho
  subst hv
  exact ⟨a1, c1, w', hr, ho, hbel.grown hg hbel.size (fun q hq => by cases hq; exact hB), fun j hj hne => hg.block j hj (fun e => hne (by cases e; rfl))⟩
/-- One more behind it. -/
theorem chainB {w0 : World} {v : Value} {f : Fl} {bm : Nat} (ho : w.ownsRow w0.heap.size 42 3 v fs.length (fcs fs)) (hbel : Below w0.heap.size w0 w) (hb : w.heap[bm]? = some (.cells #[.int .i64 f.to, .int .i64 f.fr, .int .i64 f.rf] 42 (0, 0))) (hl : fs.length ≤ 2000000) :
    ∃ g c w', (Builtin.append_ #[23, 23] 23 #[v, .slice (some ⟨bm, 0, none⟩) 1 1]).run Try.prog w = .ok (.slice (some ⟨g, 0, none⟩) (fs.length + 1) c) w' ∧ FlsAt w' (.slice (some ⟨g, 0, none⟩) (fs.length + 1) c) (fs ++ [f]) ∧ Below w0.heap.size w0 w' := by
  obtain ⟨g, c, w', hr, hown, hg⟩ := more_app (f := f) ho hbel.size hb hl
  exact ⟨g, c, w', hr, FlsAt.of_row hown, hbel.grown hg hbel.size (fun q hq => (ho.lt q hq).1)⟩
end
end Go.Proofs.Ytlbildodjnjniaa
