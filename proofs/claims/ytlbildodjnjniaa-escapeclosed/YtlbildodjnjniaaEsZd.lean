/- EscapeClosed: what it makes. -/
import Derived.Test.YtlbildodjnjniaaEsZa
import Derived.Test.YtlbildodjnjniaaEsL2
namespace Go.Proofs.Ytlbildodjnjniaa
open Go.RowKit

theorem run_appU {W : World} {C b m : Nat} {v : Value} {xs : List Value} {x n c : Nat} (hown : W.ownsRow C 24 1 v m xs) (hb : W.heap[b]? = some (.cells #[.slice (some ⟨x, 1, none⟩) n c] 24 (0, 0))) (hlen : m < 1000000) (hB : C ≤ W.heap.size) :
    ∃ g cap w', (Builtin.append_ #[44, 44] 44 #[v, .slice (some ⟨b, 0, none⟩) 1 1]).run Try.prog W = .ok (.slice (some ⟨g, 0, none⟩) (m + 1) cap) w' ∧
      w'.ownsRow C 24 1 (.slice (some ⟨g, 0, none⟩) (m + 1) cap) (m + 1) (xs ++ [.slice (some ⟨x, 1, none⟩) n c]) ∧ W.grownBy w' v.ownBlock ∧ (v.ownBlock = some g ∨ g = W.heap.size) ∧ g < w'.heap.size := by
  obtain ⟨i0, hi, hz0, hz1, hz2⟩ := info_parts Try.info24
  exact run_append_lies (P := Try.prog) W 44 44 C 24 i0 _ 1 24 Try.underlying44 hi hz0 hz1 hz2 rfl (by decide) v m xs hown ⟨b, 0, none⟩ 1 1 [.slice (some ⟨x, 1, none⟩) n c] rfl (World.news_of_block hb)
    (by intro u hu; simp at hu; rcases hu with rfl; rfl) (by decide) (by unfold maxLen; omega) (by omega) hB _ rfl
/-- The first lists are told. -/
structure Fc (w0 w : World) (n : Nat) (v : Value) (vs : List Value) (Os : Nat → Nat → Int) : Prop where
  row : w.ownsRow w0.heap.size 24 1 v vs.length vs
  lists : ∀ (r : Nat) (u : Value), vs[r]? = some u → ∃ (b c : Nat) (arr : Array Value), u = .slice (some ⟨b, 1, none⟩) n c ∧ w.heap[b]? = some (.cells arr 3 (0, 0)) ∧ ∀ i, i < n → arr[1 + i]? = some (.int .i64 (Os r i))
  bel : Below w0.heap.size w0 w
section
variable {w0 w w' w6 : World} {n : Nat} {v : Value} {vs : List Value} {Os : Nat → Nat → Int}
theorem Fc.new {w : World} : Fc w (w.alloc (.cells #[] 24)) n (.slice (some ⟨w.heap.size, 0, none⟩) 0 0) [] Os :=
  ⟨⟨rfl, .inr ⟨w.heap.size, 0, #[], rfl, Nat.le_refl _, heap_new _ _ rfl, Nat.le_refl _, by decide, by simp, by simp⟩⟩, fun r b h => by simp at h, (Below.refl _ _).alloc (Nat.le_refl _) _⟩
theorem Fc.under (M : Fc w0 w n v vs Os) (hb : Below w.heap.size w w') : Fc w0 w' n v vs Os :=
  ⟨ownsRow_keep M.row fun g hg => hb.block g (M.row.lt g hg).2, fun r u h => by
    obtain ⟨b, c, arr, h1, h2, h3⟩ := M.lists r u h
    exact ⟨b, c, arr, h1, (hb.block _ (lt_of_block h2)).trans h2, h3⟩, M.bel.trans (hb.mono M.bel.size)⟩
theorem Fc.cell (M : Fc w0 w n v vs Os) {r : Nat} (hr : r < vs.length) : ∃ g c b cb, v = .slice (some ⟨g, 0, none⟩) vs.length c ∧ w.cell? ⟨g, r, none⟩ = some (.slice (some ⟨b, 1, none⟩) n cb) ∧ ∀ i, i < n → w.cell? ⟨b, 1 + i, none⟩ = some (.int .i64 (Os r i)) := by
  obtain ⟨u, hu⟩ : ∃ u, vs[r]? = some u := ⟨vs[r], by simp⟩
  obtain ⟨b, cb, arr, h1, h2, h3⟩ := M.lists r u hu
  rcases M.row.2 with ⟨_, h0⟩ | ⟨g, cap, cur, k1, _, k2, _, _, _, k3⟩
  · omega
  · refine ⟨g, cap, b, cb, k1, ?_, fun i hi => cell_of h2 (h3 i hi)⟩
    rw [h1] at hu
    rw [← k3, List.getElem?_take, if_pos (by omega)] at hu
    simpa [World.cell?, k2] using hu
theorem Fc.push {u : Value} {l : Int → Int} (M : Fc w0 w n v vs Os) (hb : Below w.heap.size w w6) (I : IntsAt w6 u ((List.range n).map fun (i : Nat) => l i)) (N : Nw w w6 u n) (hn : 0 < n) (hl : vs.length < 1000) : ∃ g cap w8, (Builtin.append_ #[44, 44] 44 #[v, .slice (some ⟨w6.heap.size, 0, none⟩) 1 1]).run Try.prog (w6.alloc (.cells #[u] 24)) = .ok (.slice (some ⟨g, 0, none⟩) (vs.length + 1) cap) w8 ∧
    Fc w0 w8 n (.slice (some ⟨g, 0, none⟩) (vs.length + 1) cap) (vs ++ [u]) (upf Os vs.length fun i => l i) := by
  obtain ⟨bu, cu, ar, hu, hbu, _⟩ := N hn
  subst hu
  have hcu : ∀ i, i < n → ar[1 + i]? = some (.int .i64 (l i)) := fun i hi => by
    obtain ⟨ao', cap', e, hc⟩ := I
    obtain ⟨g', o', e', _, h⟩ := hc i (l i) (by rw [List.getElem?_map, List.getElem?_range hi]; rfl)
    have e1 := (Value.slice.inj e).1
    rw [e'] at e1
    cases e1
    simpa [World.cell?, hbu] using h
  have hb7 : Below w.heap.size w (w6.alloc (.cells #[.slice (some ⟨bu, 1, none⟩) n cu] 24)) := hb.alloc hb.size _
  have M7 := M.under hb7
  have n7 : (w6.alloc (.cells #[.slice (some ⟨bu, 1, none⟩) n cu] 24)).heap[w6.heap.size]? = some (.cells #[.slice (some ⟨bu, 1, none⟩) n cu] 24 (0, 0)) := heap_new _ _ rfl
  have hbu7 : (w6.alloc (.cells #[.slice (some ⟨bu, 1, none⟩) n cu] 24)).heap[bu]? = some (.cells ar 3 (0, 0)) := (Below.heap_alloc _ _ _ (lt_of_block hbu)).trans hbu
  generalize w6.alloc (.cells #[.slice (some ⟨bu, 1, none⟩) n cu] 24) = W7 at *
  obtain ⟨g, cap, w8, hrun, hown, hgrow, hat, hlt⟩ := run_appU M7.row n7 (by omega) M7.bel.size
  have hkeep : ∀ (j : Nat) (arr : Array Value), W7.heap[j]? = some (.cells arr 3 (0, 0)) → w8.heap[j]? = some (.cells arr 3 (0, 0)) := fun j arr hj => by
    rw [hgrow.block j (lt_of_block hj) fun e => by
      obtain ⟨cur, hc⟩ := row_type M7.row e.symm
      rw [hj] at hc; simp at hc]
    exact hj
  refine ⟨g, cap, w8, hrun, ?_, fun r u h => ?_, ?_⟩
  · rw [List.length_append]
    exact hown
  · rcases Nat.lt_or_ge r vs.length with h1 | h1
    · rw [List.getElem?_append_left h1] at h
      obtain ⟨b, c, arr, k1, k2, k3⟩ := M7.lists r u h
      exact ⟨b, c, arr, k1, hkeep _ _ k2, fun i hi => by rw [upf_other _ _ (by omega)]; exact k3 i hi⟩
    · rw [List.getElem?_append_right h1] at h
      have hr : r = vs.length := by
        have := get_lt h; simp at this; omega
      subst hr
      simp at h; subst h
      exact ⟨bu, cu, ar, rfl, hkeep _ _ hbu7, fun i hi => by rw [upf_same]; exact hcu i hi⟩
  · exact M7.bel.grown hgrow M7.bel.size fun q hq => (M7.row.lt q hq).1
end
/-- The memory while points are found to be sure. -/
structure Fy (w0 w : World) (n : Nat) (v : Value) (vs : List Value) (Os : Nat → Nat → Int) (bo : Nat) (E : Nat → Bool) : Prop where
  fa : Fc w0 w n v vs Os
  out : ∃ arr, w.heap[bo]? = some (.cells arr 4 (0, 0)) ∧ arr.size = n ∧ ∀ i, i < n → arr[i]? = some (.bool (E i))
  lo : w0.heap.size ≤ bo
section
variable {w0 w w' : World} {n : Nat} {v : Value} {vs : List Value} {Os : Nat → Nat → Int} {bo : Nat} {E : Nat → Bool}
theorem Fy.under (M : Fy w0 w n v vs Os bo E) (hb : Below w.heap.size w w') : Fy w0 w' n v vs Os bo E := by
  obtain ⟨a2, k1, k2, k3⟩ := M.out
  exact ⟨M.fa.under hb, ⟨a2, (hb.block _ (lt_of_block k1)).trans k1, k2, k3⟩, M.lo⟩
theorem Fy.cells (M : Fy w0 w n v vs Os bo E) {i : Nat} (hi : i < n) : w.cell? ⟨bo, i, none⟩ = some (.bool (E i)) ∧ w.frozen? ⟨bo, i, none⟩ = false ∧ bo < w.heap.size := by
  obtain ⟨a2, k1, k2, k3⟩ := M.out
  exact ⟨cell_of k1 (k3 i hi), fz_of _ k1, lt_of_block k1⟩
theorem Fy.put (M : Fy w0 w n v vs Os bo E) {x : Nat} (hx : x < n) (b : Bool) : Fy w0 (w.setCell ⟨bo, x, none⟩ (.bool b)) n v vs Os bo (upf E x b) := by
  obtain ⟨a2, k1, k2, k3⟩ := M.out
  have hoth : ∀ j, j ≠ bo → (w.setCell ⟨bo, x, none⟩ (.bool b)).heap[j]? = w.heap[j]? := fun j hj => Below.heap_setCell _ _ _ _ hj
  have hint : ∀ (j : Nat) (arr : Array Value), w.heap[j]? = some (.cells arr 3 (0, 0)) → (w.setCell ⟨bo, x, none⟩ (.bool b)).heap[j]? = some (.cells arr 3 (0, 0)) := fun j arr hj => by
    rw [hoth j fun e => by rw [e, k1] at hj; simp at hj]; exact hj
  refine ⟨⟨ownsRow_keep M.fa.row fun g hg => hoth g fun e => ?_, fun r u h => ?_, M.fa.bel.setCell M.lo _⟩, ⟨_, heap_setCell_same _ _ _ _ k1, by simpa using k2, fun i hi => ?_⟩, M.lo⟩
  · obtain ⟨cur, hc⟩ := row_type M.fa.row hg
    rw [e, k1] at hc; simp at hc
  · obtain ⟨q0, q1, arr, q2, q3, q4⟩ := M.fa.lists r u h
    exact ⟨q0, q1, arr, q2, hint _ _ q3, q4⟩
  · by_cases e : i = x
    · subst e; rw [upf_same, Array.getElem?_setIfInBounds, if_pos rfl, if_pos (by omega)]
    · rw [upf_other _ _ e, Array.getElem?_setIfInBounds, if_neg (fun h => e h.symm)]; exact k3 i hi
theorem Fy.new (M : Fc w0 w n v vs Os) : Fy w0 (w.alloc (.cells (reps n (.bool false)) 4)) n v vs Os w.heap.size (fun _ => false) :=
  ⟨M.under ((Below.refl _ _).alloc (Nat.le_refl _) _), ⟨_, heap_new _ _ rfl, reps_size _ _, fun _ hi => reps_get hi⟩, M.bel.size⟩
end
theorem upf_id {α : Type} (E : Nat → α) (x : Nat) : upf E x (E x) = E := by
  funext i
  by_cases e : i = x
  · subst e; rw [upf_same]
  · rw [upf_other _ _ e]
/-- Nothing more is marked. -/
def Cld (ps : List Pt) (Os : Nat → Nat → Int) (Oh : Nat → Int) (E : Nat → Bool) : Prop := ∀ p, p < ps.length → Mk ps Os Oh E p → E p = true
/-- What holds while point p is looked at, the first j regions behind it; c0 were not sure as the round began, d: has any been found in this round. -/
structure Ri (ps : List Pt) (fs : List Fl) (Os : Nat → Nat → Int) (Oh : Nat → Int) (E : Nat → Bool) (c0 t p : Nat) (d : Bool) : Prop where
  esc : ∀ x, E x = true → Esc ps fs x
  don : d = false → ∀ x, x < p → Mk ps Os Oh E x → E x = true
  cl : Cld ps Os Oh E ∨ t + c0 ≤ ps.length
  cnt : cntF E ps.length + b2n d ≤ c0
/-- Of point p: by these it is not marked. -/
def Nm (ps : List Pt) (Os : Nat → Nat → Int) (Oh : Nat → Int) (E : Nat → Bool) (p j : Nat) : Prop := E p = false → Oh p ≠ -1 ∧ ∀ r, r < j → ¬ (Os r p = -1 ∧ (E r = true ∨ dep ps r < dep ps p))
section
variable {ps : List Pt} {fs : List Fl} {Os : Nat → Nat → Int} {Oh : Nat → Int} {E : Nat → Bool} {c0 t p : Nat} {d : Bool}
theorem Ri.hit (R : Ri ps fs Os Oh E c0 t p d) (T : Tl ps fs Os Oh) (hp : p < ps.length) (h0 : E p = false) (hm : Mk ps Os Oh E p) : Ri ps fs Os Oh (upf E p true) c0 t p true := by
  have hc := cntF_set (E := E) (m := ps.length) hp h0
  have hcn := R.cnt
  refine ⟨T.mark R.esc hp hm, (fun h => by cases h), .inr ?_, by show _ + 1 ≤ c0; omega⟩
  rcases R.cl with h | h
  · rw [h p hp hm] at h0; cases h0
  · exact h
theorem Ri.next (R : Ri ps fs Os Oh E c0 t p d) (hN : Nm ps Os Oh E p ps.length) : Ri ps fs Os Oh E c0 t (p + 1) d := by
  refine ⟨R.esc, fun hd x hx hm => ?_, R.cl, R.cnt⟩
  by_cases e : x = p
  · subst e
    cases h : E x with
    | true => rfl
    | false =>
      obtain ⟨k1, k2⟩ := hN h
      rcases hm with h1 | ⟨r, hr, h1, h2⟩
      · exact absurd h1 k1
      · exact absurd ⟨h1, h2.symm⟩ (k2 r hr)
  · exact R.don hd x (by omega) hm
theorem Ri.round (R : Ri ps fs Os Oh E c0 t ps.length d) : Cld ps Os Oh E ∨ t + 1 + cntF E ps.length ≤ ps.length := by
  cases d with
  | false => exact .inl fun p hp hm => R.don rfl p hp hm
  | true =>
    have := R.cnt
    rcases R.cl with h | h
    · exact .inl h
    · right; unfold b2n at this; simp at this; omega
theorem Ri.begin (hE : ∀ x, E x = true → Esc ps fs x) (h : Cld ps Os Oh E ∨ t + cntF E ps.length ≤ ps.length) : Ri ps fs Os Oh E (cntF E ps.length) t 0 false :=
  ⟨hE, fun _ _ hx => absurd hx (Nat.not_lt_zero _), h, Nat.le_refl _⟩
end
end Go.Proofs.Ytlbildodjnjniaa
