/- Families of lists of one's own that grow; what lists of lists are. -/
import Derived.Test.YtaejhppfcmeopaaLvI
namespace Go.Proofs.Ytaejhppfcmeopaa
open Go.RowKit
def upf {α : Type} (f : Nat → α) (i : Nat) (a : α) : Nat → α := fun j => if j = i then a else f j
theorem upf_same {α : Type} (f : Nat → α) (i : Nat) (a : α) : upf f i a i = a := by simp [upf]
theorem upf_other {α : Type} (f : Nat → α) {i j : Nat} (a : α) (h : j ≠ i) : upf f i a j = f j := by simp [upf, h]
/-- One more number. -/
theorem run_appI {W : World} {C b m : Nat} {v : Value} {xs : List Value} {x : Int} (hown : W.ownsRow C 3 1 v m xs) (hb : W.heap[b]? = some (.cells #[.int .i64 x] 3 (0, 0))) (hlen : m < 1000000000) (hB : C ≤ W.heap.size) :
    ∃ g cap w', (Builtin.append_ #[34, 34] 34 #[v, .slice (some ⟨b, 0, none⟩) 1 1]).run Try.prog W = .ok (.slice (some ⟨g, 0, none⟩) (m + 1) cap) w' ∧
      w'.ownsRow C 3 1 (.slice (some ⟨g, 0, none⟩) (m + 1) cap) (m + 1) (xs ++ [.int .i64 x]) ∧ W.grownBy w' v.ownBlock ∧ (v.ownBlock = some g ∨ g = W.heap.size) ∧ g < w'.heap.size := by
  obtain ⟨i0, hi, hz0, hz1, hz2⟩ := info_parts Try.info3
  exact run_append_lies (P := Try.prog) W 34 34 C 3 i0 _ 1 8 Try.underlying34 hi hz0 hz1 hz2 rfl (by decide) v m xs hown ⟨b, 0, none⟩ 1 1 [.int .i64 x] rfl (World.news_of_block hb)
    (by intro u hu; simp at hu; rcases hu with rfl; rfl) (by decide) (by unfold maxLen; omega) (by omega) hB _ rfl
theorem row_type {w : World} {B : Nat} {e : TypeId} {v : Value} {m k : Nat} {xs : List Value} (h : w.ownsRow B e k v m xs) {g : Nat} (hg : v.ownBlock = some g) : ∃ cur, w.heap[g]? = some (.cells cur e (0, 0)) := by
  rcases h.2 with ⟨h1, _⟩ | ⟨g', cap, cur, h1, _, h2, _⟩
  · rw [h1] at hg; cases hg
  · rw [h1] at hg; cases hg; exact ⟨cur, h2⟩
/-- A family of lists f, each of one's own; the t-th one's slice lies in the block lb t at lo t. -/
structure Fm (w : World) (B N : Nat) (lb lo : Nat → Nat) (f : Nat → Value) (L : Nat → List Int) : Prop where
  cell : ∀ t, t < N → ∃ arr, w.heap[lb t]? = some (.cells arr 34 (0, 0)) ∧ arr[lo t]? = some (f t)
  inj : ∀ s t, s < N → t < N → lb s = lb t → lo s = lo t → s = t
  rows : ∀ t, t < N → w.ownsRow B 3 1 (f t) (L t).length (ints (L t))
  apart : ∀ s t, s < N → t < N → s ≠ t → (f s).ownBlock = none ∨ (f s).ownBlock ≠ (f t).ownBlock
  lo : ∀ t, t < N → B ≤ lb t
  le : B ≤ w.heap.size
/-- What of the memory has changed but the lists. -/
structure Fr (N : Nat) (lb : Nat → Nat) (w0 : World) (f0 : Nat → Value) (w : World) (f : Nat → Value) : Prop where
  os : w.os = w0.os
  tape : w.tape = w0.tape
  output : w.output = w0.output
  size : w0.heap.size ≤ w.heap.size
  block : ∀ j, j < w0.heap.size → (∀ t, t < N → j ≠ lb t) → (∀ t, t < N → (f0 t).ownBlock ≠ some j) → w.heap[j]? = w0.heap[j]?
  own : ∀ t, t < N → ∀ g, (f t).ownBlock = some g → (f0 t).ownBlock = some g ∨ w0.heap.size ≤ g
section
variable {w w0 w1 w2 w' : World} {B N : Nat} {lb lo : Nat → Nat} {f f0 f1 f2 : Nat → Value} {L L' : Nat → List Int}
theorem Fr.refl (w : World) (f : Nat → Value) : Fr N lb w f w f := ⟨rfl, rfl, rfl, Nat.le_refl _, fun _ _ _ _ => rfl, fun _ _ _ h => .inl h⟩
theorem Fr.trans (h : Fr N lb w0 f0 w1 f1) (g : Fr N lb w1 f1 w2 f2) : Fr N lb w0 f0 w2 f2 := by
  refine ⟨g.os.trans h.os, g.tape.trans h.tape, g.output.trans h.output, Nat.le_trans h.size g.size, fun j hj h1 h2 => ?_, fun t ht x hx => ?_⟩
  · refine (g.block j (Nat.lt_of_lt_of_le hj h.size) h1 fun t ht e => ?_).trans (h.block j hj h1 h2)
    rcases h.own t ht j e with h3 | h3
    · exact h2 t ht h3
    · omega
  · rcases g.own t ht x hx with h3 | h3
    · exact h.own t ht x h3
    · exact .inr (Nat.le_trans h.size h3)
theorem Fr.below (h : Fr N lb w0 f0 w f) (hb : Below w.heap.size w w') : Fr N lb w0 f0 w' f :=
  ⟨hb.os.trans h.os, hb.tape.trans h.tape, hb.output.trans h.output, Nat.le_trans h.size hb.size, fun j hj h1 h2 => (hb.block j (Nat.lt_of_lt_of_le hj h.size)).trans (h.block j hj h1 h2), h.own⟩
theorem Fm.congr (F : Fm w B N lb lo f L) (h : ∀ t, t < N → L' t = L t) : Fm w B N lb lo f L' := ⟨F.cell, F.inj, fun t ht => by rw [h t ht]; exact F.rows t ht, F.apart, F.lo, F.le⟩
theorem Fm.under (F : Fm w B N lb lo f L) (hb : Below w.heap.size w w') : Fm w' B N lb lo f L :=
  ⟨fun t ht => by
    obtain ⟨arr, h1, h2⟩ := F.cell t ht
    exact ⟨arr, (hb.block _ (lt_of_block h1)).trans h1, h2⟩, F.inj, fun t ht => ownsRow_keep (F.rows t ht) fun g hg => hb.block g ((F.rows t ht).lt g hg).2, F.apart, F.lo, Nat.le_trans F.le hb.size⟩
theorem Fm.lcell (F : Fm w B N lb lo f L) {t : Nat} (ht : t < N) : w.cell? ⟨lb t, lo t, none⟩ = some (f t) ∧ w.frozen? ⟨lb t, lo t, none⟩ = false ∧ lb t < w.heap.size := by
  obtain ⟨arr, h1, h2⟩ := F.cell t ht
  exact ⟨cell_of h1 h2, fz_of _ h1, lt_of_block h1⟩
theorem Fm.ne_lb (F : Fm w B N lb lo f L) {j : Nat} {c : Array Value} {ty : TypeId} {fz : Nat × Nat} (h : w.heap[j]? = some (.cells c ty fz)) (hty : ty ≠ 34) : ∀ t, t < N → j ≠ lb t := fun t ht e => by
  obtain ⟨arr, h1, _⟩ := F.cell t ht
  rw [← e, h] at h1; simp at h1; exact hty h1.2.1
theorem Fm.ne_own (F : Fm w B N lb lo f L) {j : Nat} {c : Array Value} {ty : TypeId} {fz : Nat × Nat} (h : w.heap[j]? = some (.cells c ty fz)) (hty : ty ≠ 3) : ∀ t, t < N → (f t).ownBlock ≠ some j := fun t ht e => by
  obtain ⟨cur, h1⟩ := row_type (F.rows t ht) e
  rw [h] at h1; simp at h1; exact hty h1.2.1
/-- One more is put behind the t-th one. -/
theorem Fm.push (F : Fm w B N lb lo f L) {t b : Nat} {x : Int} (ht : t < N) (hb : w.heap[b]? = some (.cells #[.int .i64 x] 3 (0, 0))) (hl : (L t).length ≤ 100000) :
    ∃ g cap w', (Builtin.append_ #[34, 34] 34 #[f t, .slice (some ⟨b, 0, none⟩) 1 1]).run Try.prog w = .ok (.slice (some ⟨g, 0, none⟩) ((L t).length + 1) cap) w' ∧ w.grownBy w' (f t).ownBlock ∧ w'.cell? ⟨lb t, lo t, none⟩ = some (f t) ∧ w'.frozen? ⟨lb t, lo t, none⟩ = false ∧ lb t < w'.heap.size ∧
      Fm (w'.setCell ⟨lb t, lo t, none⟩ (.slice (some ⟨g, 0, none⟩) ((L t).length + 1) cap)) B N lb lo (upf f t (.slice (some ⟨g, 0, none⟩) ((L t).length + 1) cap)) (upf L t (L t ++ [x])) ∧
      Fr N lb w f (w'.setCell ⟨lb t, lo t, none⟩ (.slice (some ⟨g, 0, none⟩) ((L t).length + 1) cap)) (upf f t (.slice (some ⟨g, 0, none⟩) ((L t).length + 1) cap)) := by
  obtain ⟨g, cap, w', hr, hown, hgrow, hat, hlt⟩ := run_appI (F.rows t ht) hb (by omega) F.le
  have hkeep : ∀ j, j < w.heap.size → (∀ cur, w.heap[j]? ≠ some (.cells cur 3 (0, 0))) → w'.heap[j]? = w.heap[j]? := fun j hj hne => hgrow.block j hj fun e => by
    obtain ⟨cur, hc⟩ := row_type (F.rows t ht) e.symm
    exact hne cur hc
  have hlb : ∀ s, s < N → w'.heap[lb s]? = w.heap[lb s]? := fun s hs => by
    obtain ⟨arr, h1, _⟩ := F.cell s hs
    exact hkeep _ (lt_of_block h1) fun cur => by rw [h1]; simp
  obtain ⟨arr, h1, h2⟩ := F.cell t ht
  have h1' := (hlb t ht).trans h1
  have hoth : ∀ j, j ≠ lb t → (w'.setCell ⟨lb t, lo t, none⟩ (.slice (some ⟨g, 0, none⟩) ((L t).length + 1) cap)).heap[j]? = w'.heap[j]? := fun j hj => Below.heap_setCell _ _ _ _ hj
  have hglb : ∀ s, s < N → g ≠ lb s := fun s hs e => by
    obtain ⟨arr', h3, _⟩ := F.cell s hs
    rcases hat with h | h
    · obtain ⟨cur, hc⟩ := row_type (F.rows t ht) h
      rw [e, h3] at hc; simp at hc
    · have := lt_of_block h3; omega
  have hrow : ∀ s, s < N → s ≠ t → ∀ j, (f s).ownBlock = some j → j < w.heap.size ∧ some j ≠ (f t).ownBlock ∧ j ≠ lb t := fun s hs hne j hj => by
    refine ⟨((F.rows s hs).lt j hj).2, fun e => ?_, fun e => ?_⟩
    · rcases F.apart s t hs ht hne with h | h
      · rw [h] at hj; cases hj
      · exact h (hj.trans e)
    · obtain ⟨cur, hc⟩ := row_type (F.rows s hs) hj
      rw [e, h1] at hc; simp at hc
  have hsz : (w'.setCell ⟨lb t, lo t, none⟩ (.slice (some ⟨g, 0, none⟩) ((L t).length + 1) cap)).heap.size = w'.heap.size := by simp
  have hnew : ∀ x, x < N → x ≠ t → (f x).ownBlock ≠ some g := fun x hx hxt h => by
    obtain ⟨a1, a2, _⟩ := hrow x hx hxt g h
    rcases hat with h' | h'
    · exact a2 h'.symm
    · omega
  refine ⟨g, cap, w', hr, hgrow, cell_of h1' h2, fz_of _ h1', lt_of_block h1', ⟨fun s hs => ?_, F.inj, fun s hs => ?_, fun s s' hs hs' hne => ?_, F.lo, ?_⟩, ⟨hgrow.os, hgrow.tape, hgrow.output, ?_, fun j hj h3 h4 => ?_, fun s hs j hj => ?_⟩⟩
  · obtain ⟨arr', h3, h4⟩ := F.cell s hs
    by_cases e : lb s = lb t
    · rw [e, h1] at h3; cases h3
      rw [e]
      refine ⟨_, heap_setCell_same _ _ _ _ h1', ?_⟩
      rw [Array.getElem?_setIfInBounds]
      by_cases e2 : lo t = lo s
      · have := F.inj s t hs ht e e2.symm
        subst this
        have hlo : lo s < arr.size := by
          rcases Nat.lt_or_ge (lo s) arr.size with h5 | h5
          · exact h5
          · rw [Array.getElem?_eq_none h5] at h2; cases h2
        rw [if_pos rfl, if_pos hlo, upf_same]
      · rw [if_neg e2, upf_other _ _ (fun h => e2 (by rw [h]))]; exact h4
    · refine ⟨arr', (hoth _ e).trans ((hlb s hs).trans h3), ?_⟩
      rw [upf_other _ _ (fun h => e (by rw [h]))]; exact h4
  · by_cases e : s = t
    · subst e
      rw [upf_same, upf_same]
      refine ownsRow_keep ?_ fun j hj => hoth j (fun ej => ?_)
      · rw [List.length_append, show ints (L s ++ [x]) = ints (L s) ++ [.int .i64 x] by simp [ints]]
        exact hown
      · simp [Value.ownBlock] at hj; exact hglb s hs (hj.trans ej)
    · rw [upf_other _ _ e, upf_other _ _ e]
      exact ownsRow_keep (F.rows s hs) fun j hj => by
        obtain ⟨a1, a2, a3⟩ := hrow s hs e j hj
        rw [hoth j a3]; exact hgrow.block j a1 a2
  · by_cases e : s = t
    · subst e
      rw [upf_same, upf_other _ _ (fun h => hne h.symm)]
      exact .inr fun h => hnew s' hs' (fun h => hne h.symm) (h.symm.trans rfl)
    · rw [upf_other _ _ e]
      by_cases e' : s' = t
      · subst e'
        rw [upf_same]
        exact .inr fun h => hnew s hs e (h.trans rfl)
      · rw [upf_other _ _ e']; exact F.apart s s' hs hs' hne
  · rw [hsz]; exact Nat.le_trans F.le hgrow.size
  · rw [hsz]; exact hgrow.size
  · rw [hoth j (h3 t ht)]
    exact hgrow.block j hj fun e => h4 t ht e.symm
  · by_cases e : s = t
    · subst e
      rw [upf_same] at hj
      simp [Value.ownBlock] at hj; subst hj
      rcases hat with h | h
      · exact .inl h
      · exact .inr (Nat.le_of_eq h.symm)
    · rw [upf_other _ _ e] at hj; exact .inl hj
end
/-- Lists of numbers that lie somewhere. -/
def LsAt (w : World) (v : Value) (ls : List (List Int)) : Prop :=
  ∃ ao cap, v = .slice ao ls.length cap ∧ ∀ (j : Nat) (l : List Int), ls[j]? = some l → ∃ g o vr, ao = some ⟨g, o, none⟩ ∧ g < w.heap.size ∧ w.cell? ⟨g, o + j, none⟩ = some vr ∧ IntsAt w vr l
theorem LsAt.below {w w' : World} {v : Value} {ls : List (List Int)} (R : LsAt w v ls) (hb : Below w.heap.size w w') : LsAt w' v ls := by
  obtain ⟨ao, cap, h1, h2⟩ := R
  refine ⟨ao, cap, h1, fun j l hl => ?_⟩
  obtain ⟨g, o, vr, h3, h4, h5, h6⟩ := h2 j l hl
  exact ⟨g, o, vr, h3, Nat.lt_of_lt_of_le h4 hb.size, by rw [keep_cell hb h4]; exact h5, h6.below hb⟩
end Go.Proofs.Ytaejhppfcmeopaa
