/- The places: three rows of one's own, named in one box. -/
import Derived.Test.YtmkeahfdbmfajaaSxA
namespace Go.Proofs.Ytmkeahfdbmfajaa
open Go.RowKit
def upf {α : Type} (f : Nat → α) (i : Nat) (a : α) : Nat → α := fun j => if j = i then a else f j
theorem upf_same {α : Type} (f : Nat → α) (i : Nat) (a : α) : upf f i a i = a := by simp [upf]
theorem upf_other {α : Type} (f : Nat → α) {i j : Nat} (a : α) (h : j ≠ i) : upf f i a j = f j := by simp [upf, h]
def pc (f : Nat → Value) : Array Value := #[f 0, f 1, f 2]
theorem pc_get (f : Nat → Value) {t : Nat} (h : t < 3) : (pc f)[t]? = some (f t) := by
  match t, h with
  | 0, _ => rfl | 1, _ => rfl | 2, _ => rfl
theorem pc_set (f : Nat → Value) {t : Nat} (u : Value) (h : t < 3) : (pc f).setIfInBounds t u = pc (upf f t u) := by
  match t, h with
  | 0, _ => rfl | 1, _ => rfl | 2, _ => rfl
/-- Three rows, made since w0, and the box B that names them. -/
structure Pq (w0 w : World) (B : Nat) (f : Nat → Value) (L : Nat → List Int) : Prop where
  blk : w.heap[B]? = some (.cells (pc f) 46 (0, 0))
  rows : ∀ t, t < 3 → w.ownsRow w0.heap.size 3 1 (f t) (L t).length (ints (L t))
  apart : ∀ s t, s < 3 → t < 3 → s ≠ t → ∀ g, (f s).ownBlock = some g → (f t).ownBlock ≠ some g
  k : Kp (fun j => j = B) w0 w
section
variable {w0 w w' : World} {B : Nat} {f : Nat → Value} {L L' : Nat → List Int}
theorem Pq.cell (V : Pq w0 w B f L) {t : Nat} (ht : t < 3) : w.cell? ⟨B, t, none⟩ = some (f t) ∧ w.frozen? ⟨B, t, none⟩ = false ∧ B < w.heap.size := ⟨cell_of V.blk (pc_get f ht), fz_of _ V.blk, lt_of_block V.blk⟩
theorem Pq.congr (V : Pq w0 w B f L) (h : ∀ t, t < 3 → L' t = L t) : Pq w0 w B f L' := ⟨V.blk, fun t ht => by rw [h t ht]; exact V.rows t ht, V.apart, V.k⟩
theorem Pq.ne_own (V : Pq w0 w B f L) {t : Nat} (ht : t < 3) : (f t).ownBlock ≠ some B := fun e => by
  obtain ⟨cur, h1⟩ := row_type (V.rows t ht) e
  have h2 := V.blk
  rw [h1] at h2; simp at h2
theorem row_type2 {B k m : Nat} {e : TypeId} {v : Value} {xs : List Value} (h : w.ownsRow B e k v m xs) {g : Nat} (hg : v.ownBlock = some g) : B ≤ g := (h.lt g hg).1
theorem Pq.under (V : Pq w0 w B f L) (h : Below w.heap.size w w') : Pq w0 w' B f L :=
  ⟨(h.block _ (lt_of_block V.blk)).trans V.blk, fun t ht => ownsRow_keep (V.rows t ht) (fun g hg => h.block g ((V.rows t ht).lt g hg).2), V.apart, V.k.trans ((Kp.of_below h))⟩
/-- One row has been changed where it lies. -/
theorem Pq.kp (V : Pq w0 w B f L) {t : Nat} (ht : t < 3) {l : List Int} (hk : Kp (fun b => (f t).ownBlock = some b) w w') (hr : w'.ownsRow w0.heap.size 3 1 (f t) l.length (ints l)) : Pq w0 w' B f (upf L t l) := by
  refine ⟨(hk.block _ (lt_of_block V.blk) (V.ne_own ht)).trans V.blk, fun s hs => ?_, V.apart, ⟨hk.os.trans V.k.os, hk.tape.trans V.k.tape, hk.output.trans V.k.output, Nat.le_trans V.k.size hk.size, fun j hj hx => ?_⟩⟩
  · by_cases e : s = t
    · subst e; rw [upf_same]; exact hr
    · rw [upf_other _ _ e]
      exact ownsRow_keep (V.rows s hs) (fun g hg => hk.block g ((V.rows s hs).lt g hg).2 (V.apart s t hs ht e g hg))
  · exact (hk.block j (Nat.lt_of_lt_of_le hj V.k.size) (fun e => by have := row_type2 (V.rows t ht) e; omega)).trans (V.k.block j hj hx)
/-- One row has been made anew, and its name is put into the box. -/
theorem Pq.put (V : Pq w0 w B f L) {t : Nat} (ht : t < 3) {l : List Int} {v : Value} (hk : Kp (fun b => (f t).ownBlock = some b) w w') (hr : w'.ownsRow w0.heap.size 3 1 v l.length (ints l))
    (hn : ∀ g, v.ownBlock = some g → (f t).ownBlock = some g ∨ w.heap.size ≤ g) : w'.cell? ⟨B, t, none⟩ = some (f t) ∧ w'.frozen? ⟨B, t, none⟩ = false ∧ B < w'.heap.size ∧ Pq w0 (w'.setCell ⟨B, t, none⟩ v) B (upf f t v) (upf L t l) := by
  have hB := (hk.block _ (lt_of_block V.blk) (V.ne_own ht)).trans V.blk
  refine ⟨cell_of hB (pc_get f ht), fz_of _ hB, lt_of_block hB, ?_, fun s hs => ?_, fun s u hs hu hne g hg => ?_, ⟨hk.os.trans V.k.os, hk.tape.trans V.k.tape, hk.output.trans V.k.output, Nat.le_trans V.k.size (Nat.le_trans hk.size (by simp)), fun j hj hx => ?_⟩⟩
  · rw [heap_setCell_same _ _ _ _ hB, pc_set _ _ ht]
  · by_cases e : s = t
    · subst e
      rw [upf_same, upf_same]
      refine ownsRow_keep hr (fun g hg => Below.heap_setCell _ _ _ _ (fun e => ?_))
      obtain ⟨cur, h1⟩ := row_type hr hg
      rw [e, hB] at h1; simp at h1
    · rw [upf_other _ _ e, upf_other _ _ e]
      refine ownsRow_keep (V.rows s hs) (fun g hg => ?_)
      have hgB : g ≠ B := fun e2 => V.ne_own hs (by rw [hg, e2])
      exact (Below.heap_setCell _ _ _ _ hgB).trans (hk.block g ((V.rows s hs).lt g hg).2 (V.apart s t hs ht e g hg))
  · by_cases e : s = t
    · subst e
      rw [upf_same] at hg
      rw [upf_other _ _ (fun h => hne h.symm)]
      intro h2
      rcases hn g hg with h3 | h3
      · exact V.apart s u hs hu hne g h3 h2
      · have := ((V.rows u hu).lt g h2).2; omega
    · rw [upf_other _ _ e] at hg
      by_cases e2 : u = t
      · subst e2
        rw [upf_same]
        intro h2
        rcases hn g h2 with h3 | h3
        · exact V.apart s u hs hu hne g hg h3
        · have := ((V.rows s hs).lt g hg).2; omega
      · rw [upf_other _ _ e2]; exact V.apart s u hs hu hne g hg
  · rw [Below.heap_setCell _ _ _ _ hx]
    exact (hk.block j (Nat.lt_of_lt_of_le hj V.k.size) (fun e => by have := row_type2 (V.rows t ht) e; omega)).trans (V.k.block j hj hx)
/-- One number more. -/
theorem Pq.pushQ (V : Pq w0 w B f L) {t : Nat} (ht : t < 3) (x : Int) (hl : (L t).length ≤ 100000) : ∃ g2 cap w', (Builtin.append_ #[42, 42] 42 #[f t, .slice (some ⟨w.heap.size, 0, none⟩) 1 1]).run Try.prog (w.alloc (.cells #[.int .i64 x] 3)) = .ok (.slice (some ⟨g2, 0, none⟩) ((L t).length + 1) cap) w' ∧
    w'.cell? ⟨B, t, none⟩ = some (f t) ∧ w'.frozen? ⟨B, t, none⟩ = false ∧ B < w'.heap.size ∧ Pq w0 (w'.setCell ⟨B, t, none⟩ (.slice (some ⟨g2, 0, none⟩) ((L t).length + 1) cap)) B (upf f t (.slice (some ⟨g2, 0, none⟩) ((L t).length + 1) cap)) (upf L t (L t ++ [x])) := by
  have hB1 := (Below.refl w.heap.size w).alloc (Nat.le_refl _) (.cells #[.int .i64 x] 3)
  obtain ⟨g2, cap, w3, hr, hown, hgrow, hat, _⟩ := run_appQ (x := x) (ownsRow_keep (V.rows t ht) (fun h hh => hB1.block h ((V.rows t ht).lt h hh).2)) (heap_new w (.cells #[.int .i64 x] 3) rfl) (by omega) (Nat.le_trans V.k.size hB1.size)
  refine ⟨g2, cap, w3, hr, V.put ht (l := L t ++ [x]) ⟨hgrow.os.trans hB1.os, hgrow.tape.trans hB1.tape, hgrow.output.trans hB1.output, Nat.le_trans hB1.size hgrow.size, fun j hj hx => ?_⟩ ?_ (fun g hg => ?_)⟩
  · exact (hgrow.block j (Nat.lt_of_lt_of_le hj hB1.size) (fun e => hx e.symm)).trans (hB1.block j hj)
  · have e2 : ints (L t ++ [x]) = ints (L t) ++ [.int .i64 x] := by simp [ints]
    rw [e2]
    simp only [List.length_append, List.length_cons, List.length_nil]
    exact hown
  · cases hg
    rcases hat with h | h
    · exact .inl h
    · exact .inr (by rw [h]; exact hB1.size)
theorem Pq.pushI (V : Pq w0 w B f L) {t : Nat} (ht : t < 3) (x : Int) (hl : (L t).length ≤ 100000) : ∃ g2 cap w', (Builtin.append_ #[23, 23] 23 #[f t, .slice (some ⟨w.heap.size, 0, none⟩) 1 1]).run Try.prog (w.alloc (.cells #[.int .i64 x] 3)) = .ok (.slice (some ⟨g2, 0, none⟩) ((L t).length + 1) cap) w' ∧
    w'.cell? ⟨B, t, none⟩ = some (f t) ∧ w'.frozen? ⟨B, t, none⟩ = false ∧ B < w'.heap.size ∧ Pq w0 (w'.setCell ⟨B, t, none⟩ (.slice (some ⟨g2, 0, none⟩) ((L t).length + 1) cap)) B (upf f t (.slice (some ⟨g2, 0, none⟩) ((L t).length + 1) cap)) (upf L t (L t ++ [x])) := by
  have hB1 := (Below.refl w.heap.size w).alloc (Nat.le_refl _) (.cells #[.int .i64 x] 3)
  obtain ⟨g2, cap, w3, hr, hown, hgrow, hat, _⟩ := run_appI (x := x) (ownsRow_keep (V.rows t ht) (fun h hh => hB1.block h ((V.rows t ht).lt h hh).2)) (heap_new w (.cells #[.int .i64 x] 3) rfl) (by omega) (Nat.le_trans V.k.size hB1.size)
  refine ⟨g2, cap, w3, hr, V.put ht (l := L t ++ [x]) ⟨hgrow.os.trans hB1.os, hgrow.tape.trans hB1.tape, hgrow.output.trans hB1.output, Nat.le_trans hB1.size hgrow.size, fun j hj hx => ?_⟩ ?_ (fun g hg => ?_)⟩
  · exact (hgrow.block j (Nat.lt_of_lt_of_le hj hB1.size) (fun e => hx e.symm)).trans (hB1.block j hj)
  · have e2 : ints (L t ++ [x]) = ints (L t) ++ [.int .i64 x] := by simp [ints]
    rw [e2]
    simp only [List.length_append, List.length_cons, List.length_nil]
    exact hown
  · cases hg
    rcases hat with h | h
    · exact .inl h
    · exact .inr (by rw [h]; exact hB1.size)
/-- The last number taken away. -/
theorem Pq.pop (V : Pq w0 w B f L) {t n g cap : Nat} (ht : t < 3) (hn : (L t).length = n + 1) (hf : f t = .slice (some ⟨g, 0, none⟩) (n + 1) cap) : Pq w0 (w.setCell ⟨B, t, none⟩ (.slice (some ⟨g, 0, none⟩) n cap)) B (upf f t (.slice (some ⟨g, 0, none⟩) n cap)) (upf L t ((L t).take n)) := by
  have hr := V.rows t ht
  rw [hf, hn] at hr
  have h2 := row_short hr
  refine (V.put ht (l := (L t).take n) (Kp.refl _ _) ?_ (fun g' hg => .inl (by rw [hf]; exact hg))).2.2.2
  rw [List.length_take, show min n (L t).length = n by omega, show ints ((L t).take n) = (ints (L t)).take n by simp [ints, List.map_take]]
  exact h2
end
/-- The three rows of the places. -/
def L3 (fr tk : List Nat) (un : List Int) : Nat → List Int
  | 0 => zs fr
  | 1 => zs tk
  | _ => un
theorem L3_0 (fr tk : List Nat) (un : List Int) (l : List Nat) : ∀ t, t < 3 → L3 l tk un t = upf (L3 fr tk un) 0 (zs l) t
  | 0, _ => rfl | 1, _ => rfl | 2, _ => rfl
theorem L3_1 (fr tk : List Nat) (un : List Int) (l : List Nat) : ∀ t, t < 3 → L3 fr l un t = upf (L3 fr tk un) 1 (zs l) t
  | 0, _ => rfl | 1, _ => rfl | 2, _ => rfl
theorem L3_2 (fr tk : List Nat) (un l : List Int) : ∀ t, t < 3 → L3 fr tk l t = upf (L3 fr tk un) 2 l t
  | 0, _ => rfl | 1, _ => rfl | 2, _ => rfl
theorem zs_snoc (l : List Nat) (x : Nat) : zs (l ++ [x]) = zs l ++ [(x : Int)] := by simp [zs]
theorem zs_take (l : List Nat) (n : Nat) : zs (l.take n) = (zs l).take n := by simp [zs, List.map_take]
end Go.Proofs.Ytmkeahfdbmfajaa
