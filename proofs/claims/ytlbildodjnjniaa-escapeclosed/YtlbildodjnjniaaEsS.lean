/- A list of flows that is copied, and one more behind it. -/
import Derived.Test.YtlbildodjnjniaaEsP
import Derived.Deep.Upon
namespace Go.Proofs.Ytlbildodjnjniaa
open Go.RowKit

/-- Flows, one behind the other. -/
def fcs : List Fl → List Value
  | [] => []
  | f :: r => .int .i64 f.to :: .int .i64 f.fr :: .int .i64 f.rf :: fcs r
theorem fcs_length : ∀ l : List Fl, (fcs l).length = l.length * 3
  | [] => rfl
  | f :: r => by simp [fcs, fcs_length r]; omega
theorem fcs_append : ∀ l m : List Fl, fcs (l ++ m) = fcs l ++ fcs m
  | [], _ => rfl
  | f :: r, m => by simp [fcs, fcs_append r m]
theorem fcs_get : ∀ {l : List Fl} {i : Nat} {f : Fl}, l[i]? = some f → (fcs l)[i * 3]? = some (.int .i64 f.to) ∧ (fcs l)[i * 3 + 1]? = some (.int .i64 f.fr) ∧ (fcs l)[i * 3 + 2]? = some (.int .i64 f.rf)
  | [], i, f, h => by simp at h
  | q :: r, 0, f, h => by simp at h; subst h; exact ⟨rfl, rfl, rfl⟩
  | q :: r, i + 1, f, h => by
    have := fcs_get (l := r) (i := i) (f := f) (by simpa using h)
    rw [show (i + 1) * 3 = i * 3 + 1 + 1 + 1 from by omega]
    simpa [fcs] using this
theorem fcs_inv {l : List Fl} {n : Nat} {u : Value} (h : (fcs l)[n]? = some u) : ∃ f, l[n / 3]? = some f ∧ ((n % 3 = 0 ∧ u = .int .i64 f.to) ∨ (n % 3 = 1 ∧ u = .int .i64 f.fr) ∨ (n % 3 = 2 ∧ u = .int .i64 f.rf)) := by
  have hn := get_lt h
  rw [fcs_length] at hn
  obtain ⟨f, hf⟩ : ∃ f, l[n / 3]? = some f := ⟨l[n / 3]'(by omega), by simp⟩
  obtain ⟨e0, e1, e2⟩ := fcs_get hf
  refine ⟨f, hf, ?_⟩
  rcases (show n % 3 = 0 ∨ n % 3 = 1 ∨ n % 3 = 2 by omega) with hm | hm | hm
  · rw [show n / 3 * 3 = n by omega, h] at e0; cases e0; exact .inl ⟨hm, rfl⟩
  · rw [show n / 3 * 3 + 1 = n by omega, h] at e1; cases e1; exact .inr (.inl ⟨hm, rfl⟩)
  · rw [show n / 3 * 3 + 2 = n by omega, h] at e2; cases e2; exact .inr (.inr ⟨hm, rfl⟩)
theorem fcs_one (l : List Fl) : ∀ u ∈ fcs l, u.oneCell' = true := fun u hu => by
  obtain ⟨n, hn⟩ := List.getElem?_of_mem hu
  obtain ⟨f, _, h | h | h⟩ := fcs_inv hn <;> (rw [h.2]; rfl)
theorem Try.info42 : (Try.prog.info? 42).map (fun i => (i.zero, i.size, i.bytes)) = some (some (.agg #[.int .i64 0, .int .i64 0, .int .i64 0]), 3, 24) := by kernel_rfl
theorem FlsAt.of_row {w : World} {B : Nat} {v : Value} {l : List Fl} (h : w.ownsRow B 42 3 v l.length (fcs l)) : FlsAt w v l := by
  obtain ⟨ao, cap, hv⟩ := row_form h
  refine ⟨ao, cap, hv, fun j f hj => ?_⟩
  have hj' := get_lt hj
  obtain ⟨e0, e1, e2⟩ := fcs_get hj
  rcases h.2 with ⟨_, h0⟩ | ⟨g, cap, cur, h1, _, h2, _, _, _, h3⟩
  · omega
  · rw [hv] at h1; cases h1
    rw [← h3, List.getElem?_take, if_pos (by omega)] at e0 e1 e2
    exact ⟨g, 0, rfl, lt_of_block h2, by rw [Nat.zero_add]; simpa [World.cell?, h2] using e0, by rw [Nat.zero_add]; simpa [World.cell?, h2] using e1, by rw [Nat.zero_add]; simpa [World.cell?, h2] using e2⟩
section
variable {w : World} {B b : Nat} {vf : Value} {fs : List Fl}
theorem empty_row (hb : w.heap[b]? = some (.cells #[] 42 (0, 0))) (hB : B ≤ b) : w.ownsRow B 42 3 (.slice (some ⟨b, 0, none⟩) 0 0) 0 [] :=
  ⟨rfl, .inr ⟨b, 0, #[], rfl, hB, hb, Nat.le_refl _, by decide, by simp, by simp⟩⟩
theorem copy_app (hb : w.heap[b]? = some (.cells #[] 42 (0, 0))) (hB : B ≤ b) (F : FlsAt w vf fs) (hl : fs.length ≤ 2000000) :
    ∃ v' w', (Builtin.append_ #[23, 23] 23 #[.slice (some ⟨b, 0, none⟩) 0 0, vf]).run Try.prog w = .ok v' w' ∧ w'.ownsRow B 42 3 v' fs.length (fcs fs) ∧ w.grownBy w' (some b) := by
  obtain ⟨i0, hi, hz0, hz1, hz2⟩ := info_parts Try.info42
  have hown := empty_row hb hB
  have hlt := lt_of_block hb
  obtain ⟨ao, cap, rfl, hcell⟩ := F
  cases fs with
  | nil =>
    refine ⟨_, w, ?_, hown, ⟨rfl, rfl, rfl, Nat.le_refl _, fun _ _ _ => rfl⟩⟩
    cases ao with
    | none => exact run_append_nothing (P := Try.prog) w 23 23 23 42 i0 Try.underlying23 hi (some ⟨b, 0, none⟩) 0 0 (Nat.le_refl _) _ (Src.ofNil w Try.underlying23 cap)
    | some a => exact run_append_nothing (P := Try.prog) w 23 23 23 42 i0 Try.underlying23 hi (some ⟨b, 0, none⟩) 0 0 (Nat.le_refl _) _ (Src.ofSlice w Try.underlying23 a 0 cap [] (by simp) (fun j u h => by simp at h) (fun u h => by simp at h))
  | cons f0 r =>
    obtain ⟨g, o, hao, hg, _⟩ := hcell 0 f0 rfl
    subst hao
    have hnews : ∀ (j : Nat) (u : Value), (fcs (f0 :: r))[j]? = some u → w.cell? ((⟨g, o, none⟩ : Addr).add j) = some u := fun j u hu => by
      obtain ⟨f, hf, h⟩ := fcs_inv hu
      obtain ⟨g', o', e, _, c0, c1, c2⟩ := hcell _ f hf
      cases e
      rw [show (⟨g, o, none⟩ : Addr).add j = ⟨g, o + j, none⟩ by cases j <;> simp [Addr.add]]
      rcases h with ⟨h1, rfl⟩ | ⟨h1, rfl⟩ | ⟨h1, rfl⟩
      · rw [← c0]; congr 2; omega
      · rw [← c1]; congr 2; omega
      · rw [← c2]; congr 2; omega
    obtain ⟨v', w', hr, ho, hgr, _⟩ := run_append_own_at (P := Try.prog) w B 23 23 42 i0 _ 3 24 Try.underlying23 hi hz0 hz1 hz2 rfl (by decide) _ 0 [] hown ⟨g, o, none⟩ (f0 :: r).length cap (fcs (f0 :: r)) (fcs_length _) hnews (fcs_one _) (by unfold maxLen; omega) (by omega) (by omega)
    refine ⟨v', w', hr, ?_, hgr⟩
    rw [Nat.zero_add] at ho
    simpa using ho
theorem more_app {v : Value} {f : Fl} {bm : Nat} (ho : w.ownsRow B 42 3 v fs.length (fcs fs)) (hB : B ≤ w.heap.size) (hb : w.heap[bm]? = some (.cells #[.int .i64 f.to, .int .i64 f.fr, .int .i64 f.rf] 42 (0, 0))) (hl : fs.length ≤ 2000000) :
    ∃ g cap w', (Builtin.append_ #[23, 23] 23 #[v, .slice (some ⟨bm, 0, none⟩) 1 1]).run Try.prog w = .ok (.slice (some ⟨g, 0, none⟩) (fs.length + 1) cap) w' ∧ w'.ownsRow B 42 3 (.slice (some ⟨g, 0, none⟩) (fs.length + 1) cap) (fs ++ [f]).length (fcs (fs ++ [f])) ∧ w.grownBy w' v.ownBlock := by
  obtain ⟨i0, hi, hz0, hz1, hz2⟩ := info_parts Try.info42
  obtain ⟨g, cap, w', hr, hown, hgr, _⟩ := run_append_lies (P := Try.prog) w 23 23 B 42 i0 _ 3 24 Try.underlying23 hi hz0 hz1 hz2 rfl (by decide) v fs.length (fcs fs) ho ⟨bm, 0, none⟩ 1 1 [.int .i64 f.to, .int .i64 f.fr, .int .i64 f.rf] rfl (World.news_of_block hb)
    (by intro u hu; simp at hu; rcases hu with rfl | rfl | rfl <;> rfl) (by decide) (by unfold maxLen; omega) (by omega) hB _ rfl
  refine ⟨g, cap, w', hr, ?_, hgr⟩
  rw [List.length_append, fcs_append]
  exact hown
end
end Go.Proofs.Ytlbildodjnjniaa
