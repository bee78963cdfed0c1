/- A copy of blocks, one of which reads a variable more. -/
import Derived.Test.YtaejhppfcmeopaaLwQ
namespace Go.Proofs.Ytaejhppfcmeopaa
open Go.RowKit
theorem info_blk : (Try.prog.info? 41).map (fun i => (i.zero, i.size, i.bytes)) = some (some (.agg #[.slice none 0 0, .slice none 0 0, .slice none 0 0]), 3, 72) := by kernel_rfl
instance : Inhabited (Value × Value × Value) := ⟨(.nilFunc, .nilFunc, .nilFunc)⟩
/-- Three values each, one behind the other. -/
def tri (f : Nat → Value × Value × Value) : Nat → List Value
  | 0 => []
  | n + 1 => tri f n ++ [(f n).1, (f n).2.1, (f n).2.2]
theorem tri_len (f : Nat → Value × Value × Value) : ∀ n, (tri f n).length = n * 3
  | 0 => rfl
  | n + 1 => by simp [tri, tri_len f n]; omega
theorem tri_get (f : Nat → Value × Value × Value) : ∀ {n j : Nat}, j < n → (tri f n)[j * 3]? = some (f j).1 ∧ (tri f n)[j * 3 + 1]? = some (f j).2.1 ∧ (tri f n)[j * 3 + 2]? = some (f j).2.2
  | n + 1, j, h => by
    by_cases e : j = n
    · subst e
      unfold tri
      refine ⟨?_, ?_, ?_⟩ <;> rw [List.getElem?_append_right (by rw [tri_len]; omega), tri_len]
      · rw [show j * 3 - j * 3 = 0 by omega]; rfl
      · rw [show j * 3 + 1 - j * 3 = 1 by omega]; rfl
      · rw [show j * 3 + 2 - j * 3 = 2 by omega]; rfl
    · obtain ⟨h1, h2, h3⟩ := tri_get f (n := n) (j := j) (by omega)
      unfold tri
      refine ⟨?_, ?_, ?_⟩ <;> rw [List.getElem?_append_left (by rw [tri_len]; omega)]
      · exact h1
      · exact h2
      · exact h3
theorem tri_cases {f : Nat → Value × Value × Value} {n i : Nat} {u : Value} (h : (tri f n)[i]? = some u) : ∃ j, j < n ∧ ((i = j * 3 ∧ u = (f j).1) ∨ (i = j * 3 + 1 ∧ u = (f j).2.1) ∨ (i = j * 3 + 2 ∧ u = (f j).2.2)) := by
  have hi := get_lt h
  rw [tri_len] at hi
  obtain ⟨h1, h2, h3⟩ := tri_get f (n := n) (j := i / 3) (by omega)
  refine ⟨i / 3, by omega, ?_⟩
  have hr : i % 3 = 0 ∨ i % 3 = 1 ∨ i % 3 = 2 := by omega
  rcases hr with hr | hr | hr
  · left
    have e : i = i / 3 * 3 := by omega
    rw [← e, h] at h1
    exact ⟨e, Option.some.inj h1⟩
  · right; left
    have e : i = i / 3 * 3 + 1 := by omega
    rw [← e, h] at h2
    exact ⟨e, Option.some.inj h2⟩
  · right; right
    have e : i = i / 3 * 3 + 2 := by omega
    rw [← e, h] at h3
    exact ⟨e, Option.some.inj h3⟩
/-- The cells of blocks, each by its number. -/
theorem BlksAt.fun {w : World} {ao : Option Addr} {n cap : Nat} {bs : List Blk} (R : BlksAt w (.slice ao n cap) bs) : bs.length = n ∧ ∃ f : Nat → Value × Value × Value, ∀ (j : Nat) (b : Blk), bs[j]? = some b → ∃ g o, ao = some ⟨g, o, none⟩ ∧ g < w.heap.size ∧ w.cell? ⟨g, o + j * 3, none⟩ = some (f j).1 ∧ w.cell? ⟨g, o + j * 3 + 1, none⟩ = some (f j).2.1 ∧ w.cell? ⟨g, o + j * 3 + 2, none⟩ = some (f j).2.2 ∧ IntsAt w (f j).1 b.u ∧ IntsAt w (f j).2.1 b.d ∧ IntsAt w (f j).2.2 b.n := by
  obtain ⟨a, c, h1, h2⟩ := R
  cases h1
  refine ⟨rfl, ?_⟩
  have hi : ∀ i, i < bs.length → ∃ y : Value × Value × Value, ∀ b, bs[i]? = some b → ∃ g o, ao = some ⟨g, o, none⟩ ∧ g < w.heap.size ∧ w.cell? ⟨g, o + i * 3, none⟩ = some y.1 ∧ w.cell? ⟨g, o + i * 3 + 1, none⟩ = some y.2.1 ∧ w.cell? ⟨g, o + i * 3 + 2, none⟩ = some y.2.2 ∧ IntsAt w y.1 b.u ∧ IntsAt w y.2.1 b.d ∧ IntsAt w y.2.2 b.n := fun i hi => by
    obtain ⟨b, hb⟩ : ∃ b, bs[i]? = some b := ⟨bs[i], by simp [hi]⟩
    obtain ⟨g, o, vu, vd, vn, e⟩ := h2 i b hb
    exact ⟨(vu, vd, vn), fun b' hb' => by rw [hb] at hb'; cases hb'; exact ⟨g, o, e⟩⟩
  obtain ⟨f, hf⟩ := Go.Deep.choose_lt (α := Value × Value × Value) hi
  exact ⟨f, fun j b hb => hf j (len_of_get hb) b hb⟩
/-- A copy of the blocks lies at g. -/
structure Cpy (w3 w : World) (g n : Nat) (f : Nat → Value × Value × Value) (bs : List Blk) : Prop where
  blk : ∃ cur, w.heap[g]? = some (.cells cur 41 (0, 0)) ∧ n * 3 ≤ cur.size ∧ ∀ j, j < n → cur[j * 3]? = some (f j).1 ∧ cur[j * 3 + 1]? = some (f j).2.1 ∧ cur[j * 3 + 2]? = some (f j).2.2
  ints : ∀ (j : Nat) (b : Blk), bs[j]? = some b → IntsAt w (f j).1 b.u ∧ IntsAt w (f j).2.1 b.d ∧ IntsAt w (f j).2.2 b.n
  len : bs.length = n
  bel : Below w3.heap.size w3 w
  lo : w3.heap.size ≤ g
theorem Cpy.blks {w3 w : World} {g n cap : Nat} {f : Nat → Value × Value × Value} {bs : List Blk} (C : Cpy w3 w g n f bs) : BlksAt w (.slice (some ⟨g, 0, none⟩) n cap) bs := by
  obtain ⟨cur, h1, h2, h3⟩ := C.blk
  refine ⟨_, cap, by rw [C.len], fun j b hb => ?_⟩
  have hj : j < n := by rw [← C.len]; exact len_of_get hb
  obtain ⟨e1, e2, e3⟩ := h3 j hj
  exact ⟨g, 0, _, _, _, rfl, lt_of_block h1, by rw [Nat.zero_add]; exact cell_of h1 e1, by rw [Nat.zero_add]; exact cell_of h1 e2, by rw [Nat.zero_add]; exact cell_of h1 e3, C.ints j b hb⟩
theorem copy_blks {w3 w : World} {ao : Option Addr} {n cap g0 : Nat} {bs : List Blk} (R : BlksAt w3 (.slice ao n cap) bs) (hb : Below w3.heap.size w3 w) (h0 : w.heap[g0]? = some (.cells #[] 41 (0, 0))) (hg0 : w3.heap.size ≤ g0) (hn : 0 < n) (hl : n ≤ 512) :
    ∃ g cap' w' f, (Builtin.append_ #[22, 22] 22 #[.slice (some ⟨g0, 0, none⟩) 0 0, .slice ao n cap]).run Try.prog w = .ok (.slice (some ⟨g, 0, none⟩) n cap') w' ∧ Cpy w3 w' g n f bs ∧ ∀ (j : Nat) (b : Blk), bs[j]? = some b → IntsAt w3 (f j).1 b.u ∧ IntsAt w3 (f j).2.1 b.d ∧ IntsAt w3 (f j).2.2 b.n := by
  obtain ⟨i0, hi, hz0, hz1, hz2⟩ := info_parts info_blk
  obtain ⟨hlen, f, hf⟩ := R.fun
  obtain ⟨b0, hb0⟩ : ∃ b, bs[0]? = some b := ⟨bs[0]'(by omega), by simp⟩
  obtain ⟨ga, oa, rfl, lga, _⟩ := hf 0 b0 hb0
  have hown : w.ownsRow w3.heap.size 41 3 (.slice (some ⟨g0, 0, none⟩) 0 0) 0 [] := ⟨rfl, .inr ⟨g0, 0, #[], rfl, hg0, h0, Nat.le_refl _, by simp, rfl, rfl⟩⟩
  have hget : ∀ j, j < n → w.cell? ⟨ga, oa + j * 3, none⟩ = some (f j).1 ∧ w.cell? ⟨ga, oa + j * 3 + 1, none⟩ = some (f j).2.1 ∧ w.cell? ⟨ga, oa + j * 3 + 2, none⟩ = some (f j).2.2 ∧ (f j).1.oneCell' = true ∧ (f j).2.1.oneCell' = true ∧ (f j).2.2.oneCell' = true := fun j hj => by
    obtain ⟨b, hbj⟩ : ∃ b, bs[j]? = some b := ⟨bs[j]'(by omega), by simp⟩
    obtain ⟨g', o', e, lg, c0, c1, c2, I0, I1, I2⟩ := hf j b hbj
    cases e
    obtain ⟨_, _, e0⟩ := I0.slice
    obtain ⟨_, _, e1⟩ := I1.slice
    obtain ⟨_, _, e2⟩ := I2.slice
    exact ⟨by rw [keep_cell hb lg]; exact c0, by rw [keep_cell hb lg]; exact c1, by rw [keep_cell hb lg]; exact c2, by rw [e0]; rfl, by rw [e1]; rfl, by rw [e2]; rfl⟩
  have ad : ∀ r, (⟨ga, oa, none⟩ : Addr).add r = ⟨ga, oa + r, none⟩ := fun r => by cases r <;> simp [Addr.add]
  have hnews : ∀ (j : Nat) (u : Value), (tri f n)[j]? = some u → w.cell? ((⟨ga, oa, none⟩ : Addr).add j) = some u := fun j u hu => by
    rw [ad]
    obtain ⟨k, hk, h | h | h⟩ := tri_cases hu
    · obtain ⟨rfl, rfl⟩ := h; exact (hget k hk).1
    · obtain ⟨rfl, rfl⟩ := h; rw [← Nat.add_assoc]; exact (hget k hk).2.1
    · obtain ⟨rfl, rfl⟩ := h; rw [← Nat.add_assoc]; exact (hget k hk).2.2.1
  have h1 : ∀ u ∈ tri f n, u.oneCell' = true := fun u hu => by
    obtain ⟨j, hj⟩ := List.getElem?_of_mem hu
    obtain ⟨k, hk, h | h | h⟩ := tri_cases hj
    · obtain ⟨_, rfl⟩ := h; exact (hget k hk).2.2.2.1
    · obtain ⟨_, rfl⟩ := h; exact (hget k hk).2.2.2.2.1
    · obtain ⟨_, rfl⟩ := h; exact (hget k hk).2.2.2.2.2
  obtain ⟨g, cap', w', hr, ho, hgr, _, _⟩ := run_append_lies (P := Try.prog) w 22 22 w3.heap.size 41 i0 _ 3 72 Try.underlying22 hi hz0 hz1 hz2 rfl (by decide) (.slice (some ⟨g0, 0, none⟩) 0 0) 0 [] hown ⟨ga, oa, none⟩ n cap (tri f n) (tri_len f n) hnews h1 hn (by unfold maxLen; omega) (by omega) hb.size _ rfl
  rw [Nat.zero_add] at hr ho
  have hbel : Below w3.heap.size w3 w' := hb.trans ⟨hgr.os, hgr.tape, hgr.output, hgr.size, fun j hj => hgr.block j (Nat.lt_of_lt_of_le hj hb.size) fun e => by simp [Value.ownBlock] at e; omega⟩
  refine ⟨g, cap', w', f, hr, ⟨?_, fun j b hbj => ?_, hlen, hbel, (ho.lt g rfl).1⟩, fun j b hbj => by obtain ⟨_, _, _, _, _, _, _, I0, I1, I2⟩ := hf j b hbj; exact ⟨I0, I1, I2⟩⟩
  · rcases ho.2 with ⟨h2, _⟩ | ⟨g', cp, cur, h2, _, h3, h4, _, h5, h6⟩
    · cases h2
    · cases h2
      refine ⟨cur, h3, by omega, fun j hj => ?_⟩
      obtain ⟨e1, e2, e3⟩ := tri_get f hj
      rw [List.nil_append] at h6
      rw [← h6, List.getElem?_take, if_pos (by omega)] at e1
      rw [← h6, List.getElem?_take, if_pos (by omega)] at e2
      rw [← h6, List.getElem?_take, if_pos (by omega)] at e3
      exact ⟨by simpa using e1, by simpa using e2, by simpa using e3⟩
  · obtain ⟨_, _, _, _, _, _, _, I0, I1, I2⟩ := hf j b hbj
    exact ⟨I0.below hbel, I1.below hbel, I2.below hbel⟩
theorem Cpy.under {w3 w w' : World} {g n : Nat} {f : Nat → Value × Value × Value} {bs : List Blk} (C : Cpy w3 w g n f bs) (h : Below w.heap.size w w') : Cpy w3 w' g n f bs := by
  obtain ⟨cur, h1, h2, h3⟩ := C.blk
  exact ⟨⟨cur, (h.block _ (lt_of_block h1)).trans h1, h2, h3⟩, fun j b hb => by obtain ⟨i1, i2, i3⟩ := C.ints j b hb; exact ⟨i1.below h, i2.below h, i3.below h⟩, C.len, C.bel.trans (h.mono C.bel.size), C.lo⟩
/-- Behind a store of what one of them reads. -/
theorem Cpy.set {w3 w : World} {g n k : Nat} {f : Nat → Value × Value × Value} {bs : List Blk} (C : Cpy w3 w g n f bs) {b : Blk} (hb : bs[k]? = some b) {u : Value} {l : List Int} (I : IntsAt w u l) (hI : ∀ g' o n' c, u = .slice (some ⟨g', o, none⟩) n' c → g' ≠ g)
    (hold : ∀ (j : Nat) (b : Blk), bs[j]? = some b → IntsAt w3 (f j).1 b.u ∧ IntsAt w3 (f j).2.1 b.d ∧ IntsAt w3 (f j).2.2 b.n) :
    Cpy w3 (w.setCell ⟨g, k * 3, none⟩ u) g n (fun j => if j = k then (u, (f j).2.1, (f j).2.2) else f j) (bs.set k ⟨l, b.d, b.n⟩) := by
  obtain ⟨cur, h1, h2, h3⟩ := C.blk
  have hk : k < n := by rw [← C.len]; exact len_of_get hb
  have hbel : Below w3.heap.size w3 (w.setCell ⟨g, k * 3, none⟩ u) := C.bel.setCell C.lo _
  have hIu : IntsAt (w.setCell ⟨g, k * 3, none⟩ u) u l := by
    obtain ⟨ao, c, e, hl, hc⟩ := I
    refine ⟨ao, c, e, hl, fun j x hx => ?_⟩
    obtain ⟨g', o', e1, e2, e3⟩ := hc j x hx
    subst e1
    refine ⟨g', o', rfl, by simpa using e2, ?_⟩
    rw [World.cell?_of_block (a := ⟨g', o' + j, none⟩) (Below.heap_setCell _ _ _ _ (hI _ _ _ _ e))]
    exact e3
  refine ⟨⟨_, heap_setCell_same _ _ _ _ h1, by simpa using h2, fun j hj => ?_⟩, fun j b' hj => ?_, by rw [List.length_set]; exact C.len, hbel, C.lo⟩
  · obtain ⟨e1, e2, e3⟩ := h3 j hj
    by_cases e : j = k
    · subst e
      rw [if_pos rfl]
      refine ⟨?_, ?_, ?_⟩
      · rw [Array.getElem?_setIfInBounds, if_pos rfl, if_pos (by omega)]
      · rw [Array.getElem?_setIfInBounds, if_neg (by omega)]; exact e2
      · rw [Array.getElem?_setIfInBounds, if_neg (by omega)]; exact e3
    · rw [if_neg e]
      refine ⟨?_, ?_, ?_⟩ <;> rw [Array.getElem?_setIfInBounds, if_neg (by omega)]
      · exact e1
      · exact e2
      · exact e3
  · by_cases e : j = k
    · subst e
      rw [List.getElem?_set_self (len_of_get hb)] at hj
      cases hj
      rw [if_pos rfl]
      obtain ⟨_, i2, i3⟩ := hold j b hb
      exact ⟨hIu, i2.below hbel, i3.below hbel⟩
    · rw [List.getElem?_set_ne (fun h => e h.symm)] at hj
      rw [if_neg e]
      obtain ⟨i1, i2, i3⟩ := hold j b' hj
      exact ⟨i1.below hbel, i2.below hbel, i3.below hbel⟩
section
variable {bs : List Blk} {K k x : Nat} {b : Blk}
theorem more_snd (S : Snd bs K) (hb : bs[k]? = some b) (hx : x < K) : Snd (bs.set k ⟨b.u ++ [(x : Int)], b.d, b.n⟩) K := by
  have hg : ∀ (i : Nat) (c : Blk), (bs.set k ⟨b.u ++ [(x : Int)], b.d, b.n⟩)[i]? = some c → (i = k ∧ c = ⟨b.u ++ [(x : Int)], b.d, b.n⟩) ∨ bs[i]? = some c := fun i c hc => by
    by_cases e : i = k
    · subst e
      rw [List.getElem?_set_self (len_of_get hb)] at hc
      exact .inl ⟨rfl, (Option.some.inj hc).symm⟩
    · rw [List.getElem?_set_ne (fun h => e h.symm)] at hc
      exact .inr hc
  refine ⟨by rw [List.length_set]; exact S.l, S.v, fun i c hc y hy => ?_, fun i c hc y hy => ?_, fun i c hc y hy => ?_⟩
  · rcases hg i c hc with ⟨rfl, rfl⟩ | h
    · simp only [List.mem_append, List.mem_singleton] at hy
      rcases hy with hy | hy
      · exact S.u _ b hb y hy
      · exact ⟨x, hy, hx⟩
    · exact S.u i c h y hy
  · rcases hg i c hc with ⟨rfl, rfl⟩ | h
    · exact S.d _ b hb y hy
    · exact S.d i c h y hy
  · rw [List.length_set]
    rcases hg i c hc with ⟨rfl, rfl⟩ | h
    · exact S.n _ b hb y hy
    · exact S.n i c h y hy
theorem more_get (hb : bs[k]? = some b) {i : Nat} {c : Blk} (hc : bs[i]? = some c) : ∃ c', (bs.set k ⟨b.u ++ [(x : Int)], b.d, b.n⟩)[i]? = some c' ∧ c'.d = c.d ∧ c'.n = c.n ∧ ∀ y, y ∈ c.u → y ∈ c'.u := by
  by_cases e : i = k
  · subst e
    rw [hb] at hc; cases hc
    exact ⟨_, List.getElem?_set_self (len_of_get hb), rfl, rfl, fun y hy => by simp [hy]⟩
  · exact ⟨c, by rw [List.getElem?_set_ne (fun h => e h.symm)]; exact hc, rfl, rfl, fun _ h => h⟩
theorem more_need (hb : bs[k]? = some b) {v i : Nat} (h : Need bs v i) : Need (bs.set k ⟨b.u ++ [(x : Int)], b.d, b.n⟩) v i := by
  induction h with
  | use h1 h2 =>
    obtain ⟨c', e1, _, _, e4⟩ := more_get (x := x) hb h1
    exact .use e1 (e4 _ h2)
  | pass h1 h2 h3 _ ih =>
    obtain ⟨c', e1, e2, e3, _⟩ := more_get (x := x) hb h1
    exact .pass e1 (by rw [e3]; exact h2) (by rw [e2]; exact h3) ih
theorem more_bhd (hb : bs[k]? = some b) {v i : Nat} (h : Bhd bs v i) : Bhd (bs.set k ⟨b.u ++ [(x : Int)], b.d, b.n⟩) v i := by
  obtain ⟨c, j, h1, h2, h3⟩ := h
  obtain ⟨c', e1, _, e3, _⟩ := more_get (x := x) hb h1
  exact ⟨c', j, e1, by rw [e3]; exact h2, more_need hb h3⟩
theorem more_in (S : Snd bs K) (hb : bs[k]? = some b) (hx : x < K) {i : Nat} {y : Int} (hy : y ∈ zs (inL bs K i)) : hasI (zs (inL (bs.set k ⟨b.u ++ [(x : Int)], b.d, b.n⟩) K i)) y = true := by
  obtain ⟨v, rfl, hv, h⟩ := (in_mem S).mp hy
  rw [hasI_iff, in_mem (more_snd S hb hx)]
  exact ⟨v, rfl, hv, more_need hb h⟩
theorem more_out (S : Snd bs K) (hb : bs[k]? = some b) (hx : x < K) {i : Nat} {y : Int} (hy : y ∈ zs (outL bs K i)) : hasI (zs (outL (bs.set k ⟨b.u ++ [(x : Int)], b.d, b.n⟩) K i)) y = true := by
  obtain ⟨v, rfl, hv, h⟩ := (out_mem S).mp hy
  rw [hasI_iff, out_mem (more_snd S hb hx)]
  exact ⟨v, rfl, hv, more_bhd hb h⟩
theorem more_new (S : Snd bs K) (hb : bs[k]? = some b) (hx : x < K) : hasI (zs (inL (bs.set k ⟨b.u ++ [(x : Int)], b.d, b.n⟩) K k)) (x : Int) = true := by
  rw [hasI_iff, in_mem (more_snd S hb hx)]
  exact ⟨x, rfl, hx, .use (List.getElem?_set_self (len_of_get hb)) (by simp)⟩
end
end Go.Proofs.Ytaejhppfcmeopaa
