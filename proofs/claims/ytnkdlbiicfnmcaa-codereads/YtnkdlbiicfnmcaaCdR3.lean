/- Lists that are read: how they grow in memory. -/
import Derived.Test.YtnkdlbiicfnmcaaCdR2
namespace Go.Proofs.Ytnkdlbiicfnmcaa
open Go.RowKit
/-- The items of a list, in the cells of its row. -/
def ChunkP {α : Type} (k : Nat) (P : World → List Value → α → Prop) (w : World) (xs : List Value) (l : List α) : Prop :=
  ∀ j x, l[j]? = some x → ∃ cs, cs.length = k ∧ (∀ r u, cs[r]? = some u → xs[j * k + r]? = some u) ∧ P w cs x
/-- A list in a row of its own, from block B on. -/
def RowP {α : Type} (T k : Nat) (P : World → List Value → α → Prop) (B : Nat) (w : World) (v : Value) (l : List α) : Prop := ∃ xs, w.ownsRow B T k v l.length xs ∧ ChunkP k P w xs l
/-- Blocks of other types than these are as they were. -/
def SmX (ts : List Nat) (w w' : World) : Prop := ∀ (j : Nat) (c : Array Value) (t : TypeId) (f : Nat × Nat), w.heap[j]? = some (Obj.cells c t f) → t ∉ ts → w'.heap[j]? = w.heap[j]?
theorem get_lt_array {α : Type} {c : Array α} {o : Nat} {v : α} (h : c[o]? = some v) : o < c.size := by
  rcases Nat.lt_or_ge o c.size with h1 | h1
  · exact h1
  · rw [Array.getElem?_eq_none h1] at h; cases h
def KeepX {α : Type} (ts : List Nat) (P : World → List Value → α → Prop) : Prop := ∀ w w' cs x, SmX ts w w' → P w cs x → P w' cs x
theorem ChunkP.keep {α : Type} {k : Nat} {P : World → List Value → α → Prop} {w w' : World} {xs : List Value} {l : List α} {ts : List Nat} (h : ChunkP k P w xs l) (hP : KeepX ts P) (hs : SmX ts w w') : ChunkP k P w' xs l := fun j x hx => by
  obtain ⟨cs, h1, h2, h3⟩ := h j x hx
  exact ⟨cs, h1, h2, hP _ _ _ _ hs h3⟩
theorem ChunkP.snoc {α : Type} {k : Nat} {P : World → List Value → α → Prop} {w : World} {xs cs : List Value} {l : List α} {x : α} (h : ChunkP k P w xs l) (hl : xs.length = l.length * k) (hcs : cs.length = k) (hx : P w cs x) : ChunkP k P w (xs ++ cs) (l ++ [x]) := fun j y hy => by
  rcases Nat.lt_or_ge j l.length with hj | hj
  · rw [List.getElem?_append_left hj] at hy
    obtain ⟨ds, h1, h2, h3⟩ := h j y hy
    refine ⟨ds, h1, fun r u hu => ?_, h3⟩
    have h4 := h2 r u hu
    rw [List.getElem?_append_left (get_lt h4)]
    exact h4
  · rw [List.getElem?_append_right hj] at hy
    have hj2 := get_lt hy
    simp at hj2
    obtain rfl : j = l.length := by omega
    simp at hy
    subst hy
    refine ⟨cs, hcs, fun r u hu => ?_, hx⟩
    rw [List.getElem?_append_right (by omega), hl, Nat.add_sub_cancel_left]
    exact hu
section
variable {A g o : Nat} {w w' : World}
theorem Fr.put_same {cs : List Value} {c : Array Value} {t : TypeId} (h : Fr A w w') (hc : w.heap[g]? = some (.cells c t (0, 0))) (hA : g ≠ A) (hcs : ∀ r u, cs[r]? = some u → c[o + r]? = some u) : RPut A g o cs w w' :=
  ⟨h.os, h.tape, h.output, h.size, fun j hj h1 _ => h.block j hj h1, fun c' t' hc' => by
    rw [hc] at hc'
    cases hc'
    exact ⟨c, (h.block g (lt_of_block hc) hA).trans hc, rfl, hcs, fun _ _ => rfl⟩⟩
theorem RPut.snoc {cs ds : List Value} {w1 w2 : World} (h : RPut A g o cs w w1) (h2 : RPut A g (o + cs.length) ds w1 w2) : RPut A g o (cs ++ ds) w w2 := by
  refine ⟨h2.os.trans h.os, h2.tape.trans h.tape, h2.output.trans h.output, Nat.le_trans h.size h2.size, fun j hj h3 h4 => (h2.block j (Nat.lt_of_lt_of_le hj h.size) h3 h4).trans (h.block j hj h3 h4), fun c t hc => ?_⟩
  obtain ⟨c1, e1, e2, e3, e4⟩ := h.self c t hc
  obtain ⟨c2, f1, f2, f3, f4⟩ := h2.self c1 t e1
  refine ⟨c2, f1, f2.trans e2, fun r u hu => ?_, fun i hi => ?_⟩
  · rcases Nat.lt_or_ge r cs.length with hr | hr
    · rw [List.getElem?_append_left hr] at hu
      rw [f4 _ (.inl (by omega))]
      exact e3 r u hu
    · rw [List.getElem?_append_right hr] at hu
      have := f3 _ u hu
      rwa [show o + cs.length + (r - cs.length) = o + r by omega] at this
  · rw [List.length_append] at hi
    rw [f4 _ (by omega), e4 _ (by omega)]
theorem RPut.sm {cs : List Value} {c : Array Value} {t : TypeId} {B : Nat} {s : Rs} (h : RPut A g o cs w w') (L : Rl B A w s) (hc : w.heap[g]? = some (.cells c t (0, 0))) : SmX [71, t] w w' := fun j c' t' f hj ht => by
  obtain ⟨_, v, hA, _⟩ := L
  refine h.block j (lt_of_block hj) (fun e => ?_) (fun e => ?_)
  · subst e; rw [hA] at hj; cases hj; exact ht (by simp)
  · subst e; rw [hc] at hj; cases hj; exact ht (by simp)
theorem SmX.mono {ts us : List Nat} (h : SmX ts w w') (hs : ∀ t, t ∉ us → t ∉ ts) : SmX us w w' := fun j c t f hj ht => h j c t f hj (hs t ht)
theorem SmX.trans {ts : List Nat} {a b c : World} (h : SmX ts a b) (g : SmX ts b c) : SmX ts a c := fun j d t f hj ht => by
  have e := h j d t f hj ht
  exact (g j d t f (e.trans hj) ht).trans e
theorem SmX.of_below {ts : List Nat} (h : Below w.heap.size w w') : SmX ts w w' := fun j _ _ _ hj _ => h.block j (lt_of_block hj)
end
/-- One more item: the row grows, the list's cell is set, and then the item is read. -/
theorem grow_step {α : Type} {T k bytes st : Nat} {z : Value} {i0 : TypeInfo} {P : World → List Value → α → Prop} {t : TypeId} (hKP : KeepX [71, t, T] P) (hu : Try.prog.underlying st = some (.slice T)) (hi : Try.prog.info? T = some i0) (hz0 : i0.zero = some z) (hz1 : i0.size = k) (hz2 : i0.bytes = bytes) (hzk : z.cells.size = k) (hk : 0 < k) (hby : bytes ≤ 1000)
    {B A g o kb : Nat} {w wr W : World} {v iv : Value} {l : List α} {s1 : Rs} {c : Array Value} (hone : ∀ u ∈ z.cells.toList, u.oneCell' = true) (R : RowP T k P w.heap.size wr v l) (L : Rl B A wr s1) (hP : RPut A g o [v] w wr) (hc : w.heap[g]? = some (.cells c t (0, 0))) (hg : B ≤ g) (hgA : g ≠ A) (hkb : wr.heap[kb]? = some (.cells #[iv] 48 (0, 0)))
    (htT : t ≠ T) (hwT : 48 ≠ T) (hrT : 71 ≠ T) (hwt : 48 ≠ t) (hb : Below wr.heap.size wr W) {b : Nat} (hblk : W.heap[b]? = some (.cells z.cells T (0, 0))) (hlen : l.length ≤ 8000000) (ty : TypeId) (hBw : B ≤ w.heap.size) :
    ∃ g' cap w2, (Builtin.append_ #[st, st] ty #[v, .slice (some ⟨b, 0, none⟩) 1 1]).run Try.prog W = .ok (.slice (some ⟨g', 0, none⟩) (l.length + 1) cap) w2 ∧ w2.cell? ⟨g, o, none⟩ = some v ∧ w2.frozen? ⟨g, o, none⟩ = false ∧ g < w2.heap.size ∧
      Rl B A (w2.setCell ⟨g, o, none⟩ (.slice (some ⟨g', 0, none⟩) (l.length + 1) cap)) s1 ∧ (w2.setCell ⟨g, o, none⟩ (.slice (some ⟨g', 0, none⟩) (l.length + 1) cap)).cell? ⟨g, o, none⟩ = some (.slice (some ⟨g', 0, none⟩) (l.length + 1) cap) ∧
      B ≤ g' ∧ g' ≠ A ∧ l.length + 1 ≤ cap ∧ (∃ cur, (w2.setCell ⟨g, o, none⟩ (.slice (some ⟨g', 0, none⟩) (l.length + 1) cap)).heap[g']? = some (.cells cur T (0, 0)) ∧ l.length * k + k ≤ cur.size ∧ ∀ r u, z.cells[r]? = some u → cur[l.length * k + r]? = some u) ∧
      ∀ w4 x cs, cs.length = k → RPut A g' (l.length * k) cs (w2.setCell ⟨g, o, none⟩ (.slice (some ⟨g', 0, none⟩) (l.length + 1) cap)) w4 → P w4 cs x → RowP T k P w.heap.size w4 (.slice (some ⟨g', 0, none⟩) (l.length + 1) cap) (l ++ [x]) ∧ RPut A g o [.slice (some ⟨g', 0, none⟩) (l.length + 1) cap] w w4 ∧ w4.heap[kb]? = some (.cells #[iv] 48 (0, 0)) := by
  obtain ⟨xs, hown, hch⟩ := R
  have hBr : B ≤ wr.heap.size := Nat.le_trans hBw hP.size
  have hownW : W.ownsRow w.heap.size T k v l.length xs := ownsRow_keep hown fun q hq => hb.block q (hown.lt q hq).2
  obtain ⟨g', cap, w2, hrun, hown2, hgrow, hat, hlt⟩ := run_append_lies (P := Try.prog) W st ty w.heap.size T i0 z k bytes hu hi hz0 hz1 hz2 hzk hk v l.length xs hownW ⟨b, 0, none⟩ 1 1 z.cells.toList (by simpa using hzk) (fun j u hj => by
    rw [show (⟨b, 0, none⟩ : Addr).add j = ⟨b, j, none⟩ by cases j <;> simp [Addr.add]]
    exact cell_of hblk (by simpa using hj)) hone (by omega) (by simp only [maxLen]; omega) (by
      have : (l.length + 1) * bytes ≤ 8000001 * 1000 := Nat.mul_le_mul (by omega) hby
      omega) (Nat.le_trans hP.size hb.size) _ rfl
  obtain ⟨c1, e1, e2, e3, e4⟩ := hP.self c t hc
  have hgr : g < wr.heap.size := lt_of_block e1
  have hco : c1[o]? = some v := by have := e3 0 v rfl; simpa using this
  -- the row's own block
  have hrow : ∀ q, v.ownBlock = some q → ∃ cur, wr.heap[q]? = some (.cells cur T (0, 0)) := fun q hq => by
    rcases hown.2 with ⟨h1, _⟩ | ⟨q', _, cur, h1, _, h3, _⟩
    · rw [h1] at hq; cases hq
    · rw [h1] at hq; cases hq; exact ⟨cur, h3⟩
  have hnot : ∀ {j : Nat} {d : Array Value} {u : TypeId} {f : Nat × Nat}, wr.heap[j]? = some (.cells d u f) → u ≠ T → some j ≠ v.ownBlock := fun {j d u f} hj hu e => by
    obtain ⟨cur, h1⟩ := hrow j e.symm
    rw [hj] at h1; cases h1; exact hu rfl
  have hk2 : ∀ {j : Nat} {d : Array Value} {u : TypeId} {f : Nat × Nat}, wr.heap[j]? = some (.cells d u f) → u ≠ T → w2.heap[j]? = some (.cells d u f) := fun {j d u f} hj hu => by
    rw [hgrow.block j (Nat.lt_of_lt_of_le (lt_of_block hj) hb.size) (hnot hj hu), hb.block j (lt_of_block hj)]; exact hj
  have hb2 := hk2 e1 htT
  obtain ⟨hBA, vA, hA, hbytes⟩ := L
  have hA2 := hk2 hA hrT
  have hkb2 := hk2 hkb hwT
  have hkeep2 : ∀ j, j < B → w2.heap[j]? = wr.heap[j]? := fun j hj => by
    rw [hgrow.block j (by have := hb.size; omega) (fun e => by have := (hown.lt j e.symm).1; omega), hb.block j (by omega)]
  have hsz2 : wr.heap.size ≤ w2.heap.size := Nat.le_trans hb.size hgrow.size
  -- where the new row lies
  have hrow2 : ∃ cur, w2.heap[g']? = some (.cells cur T (0, 0)) ∧ w.heap.size ≤ g' ∧ l.length + 1 ≤ cap ∧ cur.size = cap * k ∧ cur.toList.take ((l.length + 1) * k) = xs ++ z.cells.toList := by
    rcases hown2.2 with ⟨h1, _⟩ | ⟨q, cp, cur, h1, h2, h3, h4, _, h6, h7⟩
    · cases h1
    · cases h1; exact ⟨cur, h3, h2, h4, h6, h7⟩
  obtain ⟨cur, hcur, hBg', hcap, hcs, htake⟩ := hrow2
  have hg'A : g' ≠ A := fun e => by subst e; rw [hA2] at hcur; cases hcur; exact hrT rfl
  have hg'g : g' ≠ g := fun e => by subst e; rw [hb2] at hcur; cases hcur; exact htT rfl
  have hxl : xs.length = l.length * k := hown.1
  have hsc : ∀ j, j ≠ g → (w2.setCell ⟨g, o, none⟩ (.slice (some ⟨g', 0, none⟩) (l.length + 1) cap)).heap[j]? = w2.heap[j]? := fun j hj => Below.heap_setCell w2 _ _ j hj
  have hself := heap_setCell_same w2 g o (.slice (some ⟨g', 0, none⟩) (l.length + 1) cap) hb2
  have hcsz : l.length * k + k ≤ cur.size := by rw [hcs, ← Nat.succ_mul]; exact Nat.mul_le_mul_right _ hcap
  have hkA : 48 ≠ 71 := by decide
  have hkbg : kb ≠ g := fun e => by subst e; rw [hkb] at e1; cases e1; exact hwt rfl
  have hkbA : kb ≠ A := fun e => by subst e; rw [hkb] at hA; cases hA
  have hkbg' : kb ≠ g' := fun e => by subst e; rw [hkb2] at hcur; cases hcur; exact hwT rfl
  refine ⟨g', cap, w2, hrun, cell_of hb2 hco, by simp [World.frozen?, hb2], lt_of_block hb2, ⟨hBA, vA, (hsc A (fun e => hgA e.symm)).trans hA2, hbytes.keep fun j hj => (hsc j (by omega)).trans (hkeep2 j hj)⟩, cell_of hself (by rw [Array.getElem?_setIfInBounds, if_pos rfl, if_pos (get_lt_array hco)]), Nat.le_trans hBw hBg', hg'A, hcap, ⟨cur, (hsc g' hg'g).trans hcur, hcsz, fun r u hu => ?_⟩, fun w4 x cs hcl hput hPx => ⟨⟨xs ++ cs, ?_, ?_⟩, ?_, ?_⟩⟩
  · have h1 : (xs ++ z.cells.toList)[l.length * k + r]? = some u := by rw [List.getElem?_append_right (by omega), hxl, Nat.add_sub_cancel_left]; simpa using hu
    have hr : r < k := by rw [← hzk]; exact get_lt_array hu
    rw [← htake, List.getElem?_take, if_pos (by rw [Nat.succ_mul]; omega)] at h1
    simpa using h1
  · obtain ⟨cur', f1, f2, f3, f4⟩ := hput.self cur T ((hsc g' hg'g).trans hcur)
    refine ⟨by rw [List.length_append, List.length_append, hxl, hcl, List.length_singleton, Nat.succ_mul], .inr ⟨g', cap, cur', by simp, hBg', f1, by simpa using hcap, ?_, by rw [f2, hcs], ?_⟩⟩
    · rcases hown2.2 with ⟨h1, _⟩ | ⟨q, cp, cur, h1, h2, h3, h4, h5, h6, h7⟩
      · cases h1
      · cases h1; exact h5
    · rw [List.length_append, List.length_singleton]
      have hsz : (l.length + 1) * k ≤ cur'.size := by rw [f2, Nat.succ_mul]; exact hcsz
      apply List.ext_getElem?
      intro i
      rw [List.getElem?_take]
      by_cases hi : i < (l.length + 1) * k
      · rw [if_pos hi, Array.getElem?_toList]
        rcases Nat.lt_or_ge i (l.length * k) with h1 | h1
        · rw [f4 i (.inl h1), List.getElem?_append_left (by omega)]
          have h2 : (xs ++ z.cells.toList)[i]? = xs[i]? := List.getElem?_append_left (by omega)
          rw [← h2, ← htake, List.getElem?_take, if_pos hi, Array.getElem?_toList]
        · rw [List.getElem?_append_right (by omega), hxl]
          have h3 : i - l.length * k < cs.length := by rw [hcl]; rw [Nat.succ_mul] at hi; omega
          have h4 := f3 (i - l.length * k) _ (List.getElem?_eq_getElem h3)
          rw [show l.length * k + (i - l.length * k) = i by omega] at h4
          rw [h4, List.getElem?_eq_getElem h3]
      · rw [if_neg hi, List.getElem?_eq_none (by rw [List.length_append, hxl, hcl]; rw [Nat.succ_mul] at hi; omega)]
  · refine ChunkP.snoc (ChunkP.keep hch hKP ?_) hxl hcl hPx
    intro j d u f hj hu
    simp only [List.mem_cons, List.not_mem_nil, or_false, not_or] at hu
    have j2 := hk2 hj hu.2.2
    have jg : j ≠ g := fun e => by subst e; rw [e1] at hj; cases hj; exact hu.2.1 rfl
    have jA : j ≠ A := fun e => by subst e; rw [hA] at hj; cases hj; exact hu.1 rfl
    have jg' : j ≠ g' := fun e => by subst e; rw [j2] at hcur; cases hcur; exact hu.2.2 rfl
    rw [hput.block j (by rw [World.size_setCell]; exact lt_of_block j2) jA jg', hsc j jg, j2, hj]
  · refine ⟨hput.os.trans (hgrow.os.trans (hb.os.trans hP.os)), hput.tape.trans (hgrow.tape.trans (hb.tape.trans hP.tape)), hput.output.trans (hgrow.output.trans (hb.output.trans hP.output)), ?_, fun j hj h1 h2 => ?_, fun c' t' hc' => ?_⟩
    · have := hput.size; rw [World.size_setCell] at this; exact Nat.le_trans hP.size (Nat.le_trans hsz2 this)
    · have hjr : j < wr.heap.size := Nat.lt_of_lt_of_le hj hP.size
      have jg' : j ≠ g' := by omega
      rw [hput.block j (by rw [World.size_setCell]; omega) h1 jg', hsc j h2, hgrow.block j (by have := hb.size; omega) (fun e => by have := (hown.lt j e.symm).1; omega), hb.block j hjr]
      exact hP.block j hj h1 h2
    · rw [hc] at hc'
      cases hc'
      refine ⟨_, (hput.block g (by rw [World.size_setCell]; exact lt_of_block hb2) hgA (fun e => hg'g e.symm)).trans hself, by simpa using e2, fun r u hu => ?_, fun i hi => ?_⟩
      · cases r with
        | zero => simp at hu; subst hu; simp [get_lt_array hco]
        | succ r => simp at hu
      · rw [Array.getElem?_setIfInBounds, if_neg (by simp at hi; omega)]
        exact e4 i hi
  · rw [hput.block kb (by rw [World.size_setCell]; exact lt_of_block hkb2) hkbA hkbg', hsc kb hkbg]
    exact hkb2
end Go.Proofs.Ytnkdlbiicfnmcaa
