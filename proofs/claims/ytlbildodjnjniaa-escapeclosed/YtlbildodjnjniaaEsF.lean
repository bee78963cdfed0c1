/- The search's memory: the leasts, what waits, the queue. -/
import Derived.Test.YtlbildodjnjniaaEsE
import Derived.Test.YtlbildodjnjniaaEsR
import Derived.Test.YtlbildodjnjniaaEsQ
namespace Go.Proofs.Ytlbildodjnjniaa
open Go.RowKit

def qi (q : List Nat) : List Int := q.map fun (x : Nat) => (x : Int)
theorem qi_len (q : List Nat) : (qi q).length = q.length := by simp [qi]
/-- Between two steps of the search that began at w0. -/
structure Rm (w0 w : World) (n bl bw : Nat) (L : Nat → Int) (W : Nat → Bool) (vq : Value) (q : List Nat) : Prop where
  ll : ∃ arr, w.heap[bl]? = some (.cells arr 3 (0, 0)) ∧ arr.size = n + 1 ∧ ∀ i, i ≤ n → arr[i]? = some (.int .i64 (L i))
  lw : ∃ arr, w.heap[bw]? = some (.cells arr 4 (0, 0)) ∧ arr.size = n + 1 ∧ ∀ i, i ≤ n → arr[i]? = some (.bool (W i))
  qs : Qs w w0.heap.size vq (qi q)
  ap : vq.ownBlock ≠ some bl
  bel : Below w0.heap.size w0 w
  lo : w0.heap.size ≤ bl ∧ w0.heap.size ≤ bw
section
variable {w0 w w' : World} {n bl bw : Nat} {L : Nat → Int} {W : Nat → Bool} {vq : Value} {q : List Nat}
theorem Rm.under (M : Rm w0 w n bl bw L W vq q) (hb : Below w.heap.size w w') : Rm w0 w' n bl bw L W vq q := by
  obtain ⟨a1, h1, h2, h3⟩ := M.ll
  obtain ⟨a2, k1, k2, k3⟩ := M.lw
  exact ⟨⟨a1, (hb.block _ (lt_of_block h1)).trans h1, h2, h3⟩, ⟨a2, (hb.block _ (lt_of_block k1)).trans k1, k2, k3⟩, M.qs.below hb, M.ap, M.bel.trans (hb.mono M.bel.size), M.lo⟩
theorem Rm.lcell (M : Rm w0 w n bl bw L W vq q) {i : Nat} (hi : i ≤ n) : w.cell? ⟨bl, i, none⟩ = some (.int .i64 (L i)) := by
  obtain ⟨a1, h1, h2, h3⟩ := M.ll
  exact cell_of h1 (h3 i hi)
theorem Rm.wcell (M : Rm w0 w n bl bw L W vq q) {i : Nat} (hi : i ≤ n) : w.cell? ⟨bw, i, none⟩ = some (.bool (W i)) := by
  obtain ⟨a1, h1, h2, h3⟩ := M.lw
  exact cell_of h1 (h3 i hi)
theorem Rm.lfz (M : Rm w0 w n bl bw L W vq q) (i : Nat) : w.frozen? ⟨bl, i, none⟩ = false := by
  obtain ⟨a1, h1, h2, h3⟩ := M.ll
  exact fz_of _ h1
theorem Rm.wfz (M : Rm w0 w n bl bw L W vq q) (i : Nat) : w.frozen? ⟨bw, i, none⟩ = false := by
  obtain ⟨a1, h1, h2, h3⟩ := M.lw
  exact fz_of _ h1
theorem Rm.lt (M : Rm w0 w n bl bw L W vq q) : bl < w.heap.size ∧ bw < w.heap.size := by
  obtain ⟨a1, h1, h2, h3⟩ := M.ll
  obtain ⟨a2, k1, k2, k3⟩ := M.lw
  exact ⟨lt_of_block h1, lt_of_block k1⟩
theorem Rm.ne (M : Rm w0 w n bl bw L W vq q) : bl ≠ bw := fun e => by
  obtain ⟨a1, h1, h2, h3⟩ := M.ll
  obtain ⟨a2, k1, k2, k3⟩ := M.lw
  rw [e, k1] at h1; simp at h1
theorem Rm.ne_of (M : Rm w0 w n bl bw L W vq q) {j : Nat} {c : Array Value} {t : TypeId} {f : Nat × Nat} (h : w.heap[j]? = some (.cells c t f)) (ht : t ≠ 3) : bl ≠ j := fun e => by
  obtain ⟨a1, h1, h2, h3⟩ := M.ll
  rw [e, h] at h1; simp at h1; exact ht h1.2.1
theorem Rm.qbw (M : Rm w0 w n bl bw L W vq q) : vq.ownBlock ≠ some bw := fun e => by
  obtain ⟨a2, k1, k2, k3⟩ := M.lw
  rcases M.qs.form with ⟨rfl, _⟩ | ⟨g, off, cap, cur, rfl, _, h2, _⟩
  · cases e
  · simp [Value.ownBlock] at e; subst e; rw [k1] at h2; simp at h2
theorem upf_get {α : Type} {f : Nat → α} {n k : Nat} {mk : α → Value} {arr : Array Value} (h2 : arr.size = n + 1) (h3 : ∀ i, i ≤ n → arr[i]? = some (mk (f i))) (x : α) (hk : k ≤ n) : ∀ i, i ≤ n → (arr.setIfInBounds k (mk x))[i]? = some (mk (upf f k x i)) := fun i hi => by
  by_cases e : i = k
  · subst e; rw [upf_same, Array.getElem?_setIfInBounds, if_pos rfl, if_pos (by omega)]
  · rw [upf_other _ _ e, Array.getElem?_setIfInBounds, if_neg (fun h => e h.symm)]; exact h3 i hi
theorem below_cell {B : Nat} {a w : World} (h : Below B a w) {g : Nat} (hg : B ≤ g) (o : Nat) (v : Value) : Below B a (w.setCell ⟨g, o, none⟩ v) := h.setCell hg v
theorem Rm.setL (M : Rm w0 w n bl bw L W vq q) {k : Nat} (hk : k ≤ n) (d : Int) : Rm w0 (w.setCell ⟨bl, k, none⟩ (.int .i64 d)) n bl bw (upf L k d) W vq q := by
  obtain ⟨a1, h1, h2, h3⟩ := M.ll
  obtain ⟨a2, k1, k2, k3⟩ := M.lw
  refine ⟨⟨_, heap_setCell_same _ _ _ _ h1, by simpa using h2, upf_get (mk := fun x => .int .i64 x) h2 h3 d hk⟩, ⟨a2, (Below.heap_setCell _ _ _ _ M.ne.symm).trans k1, k2, k3⟩, M.qs.keep fun g hg => Below.heap_setCell _ _ _ _ (fun e => M.ap (by rw [hg, e])), M.ap, below_cell M.bel M.lo.1 _ _, M.lo⟩
theorem Rm.setW (M : Rm w0 w n bl bw L W vq q) {k : Nat} (hk : k ≤ n) (d : Bool) : Rm w0 (w.setCell ⟨bw, k, none⟩ (.bool d)) n bl bw L (upf W k d) vq q := by
  obtain ⟨a1, h1, h2, h3⟩ := M.ll
  obtain ⟨a2, k1, k2, k3⟩ := M.lw
  refine ⟨⟨a1, (Below.heap_setCell _ _ _ _ M.ne).trans h1, h2, h3⟩, ⟨_, heap_setCell_same _ _ _ _ k1, by simpa using k2, upf_get (mk := fun x => .bool x) k2 k3 d hk⟩, M.qs.keep fun g hg => Below.heap_setCell _ _ _ _ (fun e => M.qbw (by rw [hg, e])), M.ap, below_cell M.bel M.lo.2 _ _, M.lo⟩
/-- The first of the queue is taken. -/
theorem Rm.pop {t : Nat} (M : Rm w0 w n bl bw L W vq (t :: q)) : ∃ g off cap, vq = .slice (some ⟨g, off, none⟩) (q.length + 1) cap ∧ w.cell? ⟨g, off, none⟩ = some (.int .i64 (t : Int)) ∧ q.length + 1 ≤ cap ∧ Rm w0 w n bl bw L W (.slice (if cap = 1 then some ⟨g, off, none⟩ else some ⟨g, off + 1, none⟩) q.length (cap - 1)) q := by
  obtain ⟨g, off, cap, hv, h1, h2, h3, h4⟩ := Qs.pop (x := (t : Int)) (xs := qi q) M.qs
  rw [qi_len] at hv h2 h3 h4
  refine ⟨g, off, cap, hv, h1, h2, M.ll, M.lw, ?_, ?_, M.bel, M.lo⟩
  · by_cases hc : cap = 1
    · rw [if_pos hc, hc]; exact h4 hc
    · rw [if_neg hc]; exact h3
  · have := M.ap
    rw [hv] at this
    by_cases hc : cap = 1
    · rw [if_pos hc]; exact this
    · rw [if_neg hc]; exact this
/-- One more is put to the queue. -/
theorem Rm.push (M : Rm w0 w n bl bw L W vq q) {b a : Nat} (hb : w.heap[b]? = some (.cells #[.int .i64 (a : Int)] 3 (0, 0))) (hl : q.length < 1000000000) :
    ∃ ao cap w', (Builtin.append_ #[24, 24] 24 #[vq, .slice (some ⟨b, 0, none⟩) 1 1]).run Try.prog w = .ok (.slice ao (q.length + 1) cap) w' ∧ Rm w0 w' n bl bw L W (.slice ao (q.length + 1) cap) (q ++ [a]) ∧ (∀ (c : Array Value) (t : TypeId) (f : Nat × Nat) (j : Nat), w.heap[j]? = some (.cells c t f) → t ≠ 3 → w'.heap[j]? = w.heap[j]?) ∧ w.heap.size ≤ w'.heap.size := by
  obtain ⟨a1, h1, h2, h3⟩ := M.ll
  obtain ⟨a2, k1, k2, k3⟩ := M.lw
  obtain ⟨v', w', hr, hq, hg, hown⟩ := M.qs.app1 M.bel.size hb (by rw [qi_len]; exact hl)
  have hq' : Qs w' w0.heap.size v' (qi (q ++ [a])) := by rw [show qi (q ++ [a]) = qi q ++ [(a : Int)] by simp [qi]]; exact hq
  obtain ⟨ao, cap, hv⟩ := hq'.len
  rw [qi_len, List.length_append, List.length_singleton] at hv
  subst hv
  have hty : ∀ (c : Array Value) (t : TypeId) (f : Nat × Nat) (j : Nat), w.heap[j]? = some (.cells c t f) → t ≠ 3 → w'.heap[j]? = w.heap[j]? := fun c t f j hj ht => hg.block j (lt_of_block hj) fun e => by
    rcases M.qs.form with ⟨h0, _⟩ | ⟨g, off, cp, cur, h0, _, h4, _⟩
    · rw [h0] at e; cases e
    · rw [h0] at e; simp [Value.ownBlock] at e; subst e; rw [hj] at h4; simp at h4; exact ht h4.2.1
  refine ⟨ao, cap, w', hr, ⟨⟨a1, ?_, h2, h3⟩, ⟨a2, ?_, k2, k3⟩, hq', ?_, ?_, M.lo⟩, hty, hg.size⟩
  · rw [hg.block bl (lt_of_block h1) (fun e => M.ap e.symm)]; exact h1
  · rw [hg.block bw (lt_of_block k1) (fun e => M.qbw e.symm)]; exact k1
  · rcases hown with h | h
    · rw [h]; exact M.ap
    · intro e; have := h bl e; have := lt_of_block h1; omega
  · refine M.bel.trans ⟨hg.os, hg.tape, hg.output, hg.size, fun j hj => hg.block j (Nat.lt_of_lt_of_le hj M.bel.size) fun e => ?_⟩
    have := (M.qs.lt j e.symm).1; omega
/-- At the beginning. -/
theorem Rm.new {arr : Array Value} (hb : Below w0.heap.size w0 w) (h1 : w.heap[bl]? = some (.cells arr 3 (0, 0))) (h2 : arr.size = n + 1) (h3 : ∀ i, i < n + 1 → arr[i]? = some (.int .i64 (-2))) (k1 : w.heap[bw]? = some (.cells (reps (n + 1) (.bool false)) 4 (0, 0))) (hl : w0.heap.size ≤ bl ∧ w0.heap.size ≤ bw) :
    Rm w0 w n bl bw (fun _ => -2) (fun _ => false) (.slice none 0 0) [] :=
  ⟨⟨arr, h1, h2, fun i hi => h3 i (by omega)⟩, ⟨_, k1, reps_size _ _, fun i hi => reps_get (by omega)⟩, ⟨.inl ⟨rfl, rfl⟩⟩, by simp [Value.ownBlock], hb, hl⟩
/-- The queue's list of one. -/
theorem Rm.one (M : Rm w0 w n bl bw L W (.slice none 0 0) []) (a : Nat) : Rm w0 (w.alloc (.cells #[.int .i64 (a : Int)] 3)) n bl bw L W (.slice (some ⟨w.heap.size, 0, none⟩) 1 1) [a] := by
  have M' := M.under ((Below.refl _ w).alloc (Nat.le_refl _) (.cells #[.int .i64 (a : Int)] 3))
  refine ⟨M'.ll, M'.lw, ⟨.inr ⟨w.heap.size, 0, 1, _, rfl, M.bel.size, heap_new _ _ rfl, by simp, by simp [qi], fun j x hx => ?_⟩⟩, ?_, M'.bel, M'.lo⟩
  · cases j with
    | zero => simp [qi] at hx; subst hx; rfl
    | succ j => simp [qi] at hx
  · have := M.lt.1
    simp [Value.ownBlock]; omega
end
end Go.Proofs.Ytlbildodjnjniaa
