/- graphOf: of each node the flows to it. -/
import Derived.Test.YtlbildodjnjniaaEsX
namespace Go.Proofs.Ytlbildodjnjniaa
open Go.RowKit

def rowv (fs : List Fl) (t : Nat) : List (Int × Int) := (row fs t).map fun p => ((p.1 : Int), p.2)
theorem rowv_len (fs : List Fl) (t : Nat) : (rowv fs t).length = (row fs t).length := by simp [rowv]
theorem rowv_snoc (fs : List Fl) (f : Fl) (t : Nat) : rowv (fs ++ [f]) t = rowv fs t ++ if pl f.to = t then [(((pl f.fr : Nat) : Int), f.rf)] else [] := by
  unfold rowv
  rw [row_snoc, List.map_append]
  split <;> simp
/-- A graph that is being made: at bg its rows' slices f, each a row of its own. -/
structure Gb (w0 w : World) (bg n : Nat) (f : Nat → Value) (fs : List Fl) : Prop where
  blk : ∃ arr, w.heap[bg]? = some (.cells arr 57 (0, 0)) ∧ arr.size = n + 1 ∧ ∀ t, t ≤ n → arr[t]? = some (f t)
  rows : ∀ t, t ≤ n → w.ownsRow w0.heap.size 59 2 (f t) (rowv fs t).length (pcs (rowv fs t))
  apart : ∀ s t, s ≤ n → t ≤ n → s ≠ t → (f s).ownBlock = none ∨ (f s).ownBlock ≠ (f t).ownBlock
  bel : Below w0.heap.size w0 w
  lo : w0.heap.size ≤ bg
section
variable {w0 w w' : World} {bg n : Nat} {f : Nat → Value} {fs : List Fl}
theorem row_type {B : Nat} {e : TypeId} {v : Value} {m k : Nat} {xs : List Value} (h : w.ownsRow B e k v m xs) {g : Nat} (hg : v.ownBlock = some g) : ∃ cur, w.heap[g]? = some (.cells cur e (0, 0)) := by
  rcases h.2 with ⟨h1, _⟩ | ⟨g', cap, cur, h1, _, h2, _⟩
  · rw [h1] at hg; cases hg
  · rw [h1] at hg; cases hg; exact ⟨cur, h2⟩
theorem Gb.new (hb : Below w0.heap.size w0 w) : Gb w0 (w.alloc (.cells (reps (n + 1) (.slice none 0 0)) 57)) w.heap.size n (fun _ => .slice none 0 0) [] := by
  refine ⟨⟨_, heap_new _ _ rfl, reps_size _ _, fun t ht => ?_⟩, fun t _ => ⟨rfl, .inl ⟨rfl, rfl⟩⟩, fun s t _ _ _ => .inl rfl, hb.alloc hb.size _, hb.size⟩
  exact reps_get (by omega)
theorem Gb.under (M : Gb w0 w bg n f fs) (hb : Below w.heap.size w w') : Gb w0 w' bg n f fs := by
  obtain ⟨arr, h1, h2, h3⟩ := M.blk
  exact ⟨⟨arr, (hb.block _ (lt_of_block h1)).trans h1, h2, h3⟩, fun t ht => ownsRow_keep (M.rows t ht) fun g hg => hb.block g ((M.rows t ht).lt g hg).2, M.apart, M.bel.trans (hb.mono M.bel.size), M.lo⟩
theorem Gb.cell (M : Gb w0 w bg n f fs) {t : Nat} (ht : t ≤ n) : w.cell? ⟨bg, t, none⟩ = some (f t) ∧ w.frozen? ⟨bg, t, none⟩ = false ∧ bg < w.heap.size := by
  obtain ⟨arr, h1, h2, h3⟩ := M.blk
  exact ⟨cell_of h1 (h3 t ht), fz_of _ h1, lt_of_block h1⟩
/-- A flow more. -/
theorem Gb.push (M : Gb w0 w bg n f fs) {t b : Nat} (ht : t ≤ n) {fl : Fl} (hto : pl fl.to = t) (hb : w.heap[b]? = some (.cells #[.int .i64 ((pl fl.fr : Nat) : Int), .int .i64 fl.rf] 59 (0, 0))) (hl : fs.length ≤ 20000) :
    ∃ ga ca w', (Builtin.append_ #[57, 57] 57 #[f t, .slice (some ⟨b, 0, none⟩) 1 1]).run Try.prog w = .ok (.slice (some ⟨ga, 0, none⟩) ((rowv fs t).length + 1) ca) w' ∧ w'.cell? ⟨bg, t, none⟩ = some (f t) ∧ w'.frozen? ⟨bg, t, none⟩ = false ∧ bg < w'.heap.size ∧ (∀ j, j < w.heap.size → (∀ cur, w.heap[j]? ≠ some (.cells cur 59 (0, 0))) → w'.heap[j]? = w.heap[j]?) ∧
      Gb w0 (w'.setCell ⟨bg, t, none⟩ (.slice (some ⟨ga, 0, none⟩) ((rowv fs t).length + 1) ca)) bg n (upf f t (.slice (some ⟨ga, 0, none⟩) ((rowv fs t).length + 1) ca)) (fs ++ [fl]) := by
  have hrl : (rowv fs t).length ≤ fs.length := by rw [rowv_len]; exact row_length fs t
  obtain ⟨g, cap, w', hr, hown, hgrow, hat, hlt⟩ := run_appE (M.rows t ht) hb (by omega) M.bel.size
  obtain ⟨arr, h1, h2, h3⟩ := M.blk
  have hkeep : ∀ j, j < w.heap.size → (∀ cur, w.heap[j]? ≠ some (.cells cur 59 (0, 0))) → w'.heap[j]? = w.heap[j]? := fun j hj hne => hgrow.block j hj fun e => by
    obtain ⟨cur, hc⟩ := row_type (M.rows t ht) e.symm
    exact hne cur hc
  have hbg : w'.heap[bg]? = some (.cells arr 57 (0, 0)) := (hkeep bg (lt_of_block h1) (fun cur => by rw [h1]; simp)).trans h1
  refine ⟨g, cap, w', hr, cell_of hbg (h3 t ht), fz_of _ hbg, lt_of_block hbg, hkeep, ?_⟩
  have hoth : ∀ j, j ≠ bg → (w'.setCell ⟨bg, t, none⟩ (.slice (some ⟨g, 0, none⟩) ((rowv fs t).length + 1) cap)).heap[j]? = w'.heap[j]? := fun j hj => Below.heap_setCell _ _ _ _ hj
  have hrow : ∀ s, s ≤ n → s ≠ t → ∀ j, (f s).ownBlock = some j → j < w.heap.size ∧ some j ≠ (f t).ownBlock ∧ j ≠ bg := fun s hs hne j hj => by
    refine ⟨((M.rows s hs).lt j hj).2, fun e => ?_, fun e => ?_⟩
    · rcases M.apart s t hs ht hne with h | h
      · rw [h] at hj; cases hj
      · exact h (hj.trans e)
    · obtain ⟨cur, hc⟩ := row_type (M.rows s hs) hj
      rw [e, h1] at hc; simp at hc
  have hgbg : g ≠ bg := fun e => by
    rcases hat with h | h
    · obtain ⟨cur, hc⟩ := row_type (M.rows t ht) h
      rw [e, h1] at hc; simp at hc
    · have := lt_of_block h1; omega
  refine ⟨⟨_, heap_setCell_same _ _ _ _ hbg, by simpa using h2, fun s hs => ?_⟩, fun s hs => ?_, fun s s' hs hs' hne => ?_, ?_, M.lo⟩
  · by_cases e : s = t
    · subst e; rw [upf_same, Array.getElem?_setIfInBounds, if_pos rfl, if_pos (by omega)]
    · rw [upf_other _ _ e, Array.getElem?_setIfInBounds, if_neg (fun h => e h.symm)]; exact h3 s hs
  · by_cases e : s = t
    · subst e
      rw [upf_same, rowv_snoc, if_pos hto]
      refine ownsRow_keep ?_ fun j hj => hoth j (fun ej => ?_)
      · rw [List.length_append, pcs_append]
        exact hown
      · simp [Value.ownBlock] at hj; exact hgbg (hj.trans ej)
    · rw [upf_other _ _ e, rowv_snoc, if_neg (fun h => e (h.symm.trans hto)), List.append_nil]
      exact ownsRow_keep (M.rows s hs) fun j hj => by
        obtain ⟨a1, a2, a3⟩ := hrow s hs e j hj
        rw [hoth j a3]; exact hgrow.block j a1 a2
  · have hnew : ∀ x, x ≤ n → x ≠ t → (f x).ownBlock ≠ some g := fun x hx hxt h => by
      obtain ⟨a1, a2, _⟩ := hrow x hx hxt g h
      rcases hat with h' | h'
      · exact a2 h'.symm
      · omega
    by_cases e : s = t
    · subst e
      rw [upf_same, upf_other _ _ (fun h => hne h.symm)]
      exact .inr fun h => hnew s' hs' (fun h => hne h.symm) (h.symm.trans rfl)
    · rw [upf_other _ _ e]
      by_cases e' : s' = t
      · subst e'
        rw [upf_same]
        exact .inr fun h => hnew s hs e (h.trans rfl)
      · rw [upf_other _ _ e']; exact M.apart s s' hs hs' hne
  · refine M.bel.trans ⟨hgrow.os, hgrow.tape, hgrow.output, ?_, fun j hj => ?_⟩
    · have h3 : (w'.setCell ⟨bg, t, none⟩ (.slice (some ⟨g, 0, none⟩) ((rowv fs t).length + 1) cap)).heap.size = w'.heap.size := by simp
      rw [h3]; exact hgrow.size
    · have hlo := M.lo
      rw [hoth j (by omega)]
      refine hgrow.block j (Nat.lt_of_lt_of_le hj M.bel.size) fun e => ?_
      have := ((M.rows t ht).lt j e.symm).1; omega
theorem Gb.gr (M : Gb w0 w bg n f fs) {cap : Nat} : GrAt w (.slice (some ⟨bg, 0, none⟩) (n + 1) cap) n fs :=
  ⟨bg, cap, rfl, (M.cell (Nat.zero_le _)).2.2, fun t ht => ⟨f t, (M.cell ht).1, PairsAt.of_row (M.rows t ht)⟩⟩
end
end Go.Proofs.Ytlbildodjnjniaa
