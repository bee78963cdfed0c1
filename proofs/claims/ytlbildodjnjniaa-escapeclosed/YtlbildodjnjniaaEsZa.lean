/- The document's Escapes: what it makes. -/
import Derived.Test.YtlbildodjnjniaaEsRc
namespace Go.Proofs.Ytlbildodjnjniaa
open Go.RowKit

def dep (ps : List Pt) (r : Nat) : Int := (ps[r]?.getD default).d
/-- What marks p. -/
def Mk (ps : List Pt) (Os : Nat → Nat → Int) (Oh : Nat → Int) (E : Nat → Bool) (p : Nat) : Prop := Oh p = -1 ∨ ∃ r, r < ps.length ∧ Os r p = -1 ∧ (dep ps r < dep ps p ∨ E r = true)
/-- These lists tell of the addresses. -/
structure Tl (ps : List Pt) (fs : List Fl) (Os : Nat → Nat → Int) (Oh : Nat → Int) : Prop where
  os : ∀ r x : Nat, r < ps.length → x < ps.length → (Os r x = -1 ↔ Hld fs (r : Int) (x : Int))
  oh : ∀ x : Nat, x < ps.length → (Oh x = -1 ↔ Hld fs (-1) (x : Int))
section
variable {ps : List Pt} {fs : List Fl} {Os : Nat → Nat → Int} {Oh : Nat → Int} {E : Nat → Bool}
theorem Tl.mark (T : Tl ps fs Os Oh) (hE : ∀ x, E x = true → Esc ps fs x) {p : Nat} (hp : p < ps.length) (hm : Mk ps Os Oh E p) : ∀ x, upf E p true x = true → Esc ps fs x := fun x hx => by
  by_cases e : x = p
  · subst e
    rcases hm with h | ⟨r, hr, h1, h2⟩
    · exact .heap ((T.oh x hp).1 h)
    · have h3 := (T.os r x hr hp).1 h1
      rcases h2 with h2 | h2
      · refine .deep (List.getElem?_eq_getElem hr) (List.getElem?_eq_getElem hp) h3 ?_
        unfold dep at h2
        rw [List.getElem?_eq_getElem hr, List.getElem?_eq_getElem hp] at h2
        exact h2
      · exact .esc hr h3 (hE r h2)
  · rw [upf_other _ _ e] at hx; exact hE x hx
theorem Tl.all (T : Tl ps fs Os Oh) (S : Snd ps.length fs) (hc : ∀ p, p < ps.length → Mk ps Os Oh E p → E p = true) {x : Nat} (h : Esc ps fs x) : E x = true := by
  induction h with
  | @heap x h =>
    have hd := Hld.dom S h
    exact hc x (by omega) (.inl ((T.oh x (by omega)).2 h))
  | @deep r x p q h1 h2 h3 h4 =>
    have hd := Hld.dom S h3
    have hr : r < ps.length := get_lt h1
    refine hc x (by omega) (.inr ⟨r, hr, (T.os r x hr (by omega)).2 h3, .inl ?_⟩)
    unfold dep
    rw [h1, h2]; exact h4
  | @esc r x h1 h2 _ ih =>
    have hd := Hld.dom S h2
    exact hc x (by omega) (.inr ⟨r, h1, (T.os r x h1 (by omega)).2 h2, .inr ih⟩)
end
theorem Try.info24 : (Try.prog.info? 24).map (fun i => (i.zero, i.size, i.bytes)) = some (some (.slice none 0 0), 1, 24) := by kernel_rfl
theorem run_appL {W : World} {C b m : Nat} {v : Value} {xs : List Value} {x n : Nat} (hown : W.ownsRow C 24 1 v m xs) (hb : W.heap[b]? = some (.cells #[.slice (some ⟨x, 0, none⟩) n n] 24 (0, 0))) (hlen : m < 1000000) (hB : C ≤ W.heap.size) :
    ∃ g cap w', (Builtin.append_ #[44, 44] 44 #[v, .slice (some ⟨b, 0, none⟩) 1 1]).run Try.prog W = .ok (.slice (some ⟨g, 0, none⟩) (m + 1) cap) w' ∧
      w'.ownsRow C 24 1 (.slice (some ⟨g, 0, none⟩) (m + 1) cap) (m + 1) (xs ++ [.slice (some ⟨x, 0, none⟩) n n]) ∧ W.grownBy w' v.ownBlock ∧ (v.ownBlock = some g ∨ g = W.heap.size) ∧ g < w'.heap.size := by
  obtain ⟨i0, hi, hz0, hz1, hz2⟩ := info_parts Try.info24
  exact run_append_lies (P := Try.prog) W 44 44 C 24 i0 _ 1 24 Try.underlying44 hi hz0 hz1 hz2 rfl (by decide) v m xs hown ⟨b, 0, none⟩ 1 1 [.slice (some ⟨x, 0, none⟩) n n] rfl (World.news_of_block hb)
    (by intro u hu; simp at hu; rcases hu with rfl; rfl) (by decide) (by unfold maxLen; omega) (by omega) hB _ rfl
/-- The lists' slices. -/
def lss (n : Nat) (bs : List Nat) : List Value := bs.map fun b => .slice (some ⟨b, 0, none⟩) n n
/-- The first lists are made. -/
structure Fa (w0 w : World) (n : Nat) (v : Value) (bs : List Nat) (Os : Nat → Nat → Int) : Prop where
  row : w.ownsRow w0.heap.size 24 1 v bs.length (lss n bs)
  lists : ∀ r b, bs[r]? = some b → w0.heap.size ≤ b ∧ ∃ arr, w.heap[b]? = some (.cells arr 3 (0, 0)) ∧ ∀ i, i < n → arr[i]? = some (.int .i64 (Os r i))
  bel : Below w0.heap.size w0 w
section
variable {w0 w w' w6 : World} {n : Nat} {v : Value} {bs : List Nat} {Os : Nat → Nat → Int}
theorem Fa.new {w : World} : Fa w (w.alloc (.cells #[] 24)) n (.slice (some ⟨w.heap.size, 0, none⟩) 0 0) [] Os :=
  ⟨⟨rfl, .inr ⟨w.heap.size, 0, #[], rfl, Nat.le_refl _, heap_new _ _ rfl, Nat.le_refl _, by decide, by simp, by simp [lss]⟩⟩, fun r b h => by simp at h, (Below.refl _ _).alloc (Nat.le_refl _) _⟩
theorem Fa.under (M : Fa w0 w n v bs Os) (hb : Below w.heap.size w w') : Fa w0 w' n v bs Os :=
  ⟨ownsRow_keep M.row fun g hg => hb.block g (M.row.lt g hg).2, fun r b h => by
    obtain ⟨h1, arr, h2, h3⟩ := M.lists r b h
    exact ⟨h1, arr, (hb.block _ (lt_of_block h2)).trans h2, h3⟩, M.bel.trans (hb.mono M.bel.size)⟩
theorem Fa.cell (M : Fa w0 w n v bs Os) {r : Nat} (hr : r < bs.length) : ∃ g c b, v = .slice (some ⟨g, 0, none⟩) bs.length c ∧ w.cell? ⟨g, r, none⟩ = some (.slice (some ⟨b, 0, none⟩) n n) ∧ ∀ i, i < n → w.cell? ⟨b, i, none⟩ = some (.int .i64 (Os r i)) := by
  obtain ⟨b, hb⟩ : ∃ b, bs[r]? = some b := ⟨bs[r], by simp⟩
  obtain ⟨h1, arr, h2, h3⟩ := M.lists r b hb
  rcases M.row.2 with ⟨_, h0⟩ | ⟨g, cap, cur, k1, _, k2, _, _, _, k3⟩
  · omega
  · refine ⟨g, cap, b, k1, ?_, fun i hi => cell_of h2 (h3 i hi)⟩
    have e : (lss n bs)[r]? = some (.slice (some ⟨b, 0, none⟩) n n) := by unfold lss; rw [List.getElem?_map, hb]; rfl
    rw [← k3, List.getElem?_take, if_pos (by omega)] at e
    simpa [World.cell?, k2] using e
theorem Fa.push {bo : Nat} {O : Nat → Int} (M : Fa w0 w n v bs Os) (C : Co w w6 bo n O) (hl : bs.length < 1000) : ∃ g cap w8, (Builtin.append_ #[44, 44] 44 #[v, .slice (some ⟨w6.heap.size, 0, none⟩) 1 1]).run Try.prog (w6.alloc (.cells #[.slice (some ⟨bo, 0, none⟩) n n] 24)) = .ok (.slice (some ⟨g, 0, none⟩) (bs.length + 1) cap) w8 ∧
    Fa w0 w8 n (.slice (some ⟨g, 0, none⟩) (bs.length + 1) cap) (bs ++ [bo]) (upf Os bs.length O) := by
  have hb7 : Below w.heap.size w (w6.alloc (.cells #[.slice (some ⟨bo, 0, none⟩) n n] 24)) := C.bel.alloc C.bel.size _
  have M7 := M.under hb7
  have n7 : (w6.alloc (.cells #[.slice (some ⟨bo, 0, none⟩) n n] 24)).heap[w6.heap.size]? = some (.cells #[.slice (some ⟨bo, 0, none⟩) n n] 24 (0, 0)) := heap_new _ _ rfl
  have C7 : Co w (w6.alloc (.cells #[.slice (some ⟨bo, 0, none⟩) n n] 24)) bo n O := C.under ((Below.refl _ _).alloc (Nat.le_refl _) _)
  generalize w6.alloc (.cells #[.slice (some ⟨bo, 0, none⟩) n n] 24) = W7 at *
  obtain ⟨g, cap, w8, hrun, hown, hgrow, hat, hlt⟩ := run_appL M7.row n7 (by omega) M7.bel.size
  have hkeep : ∀ (j : Nat) (arr : Array Value), W7.heap[j]? = some (.cells arr 3 (0, 0)) → w8.heap[j]? = some (.cells arr 3 (0, 0)) := fun j arr hj => by
    rw [hgrow.block j (lt_of_block hj) fun e => by
      obtain ⟨cur, hc⟩ := row_type M7.row e.symm
      rw [hj] at hc; simp at hc]
    exact hj
  refine ⟨g, cap, w8, hrun, ?_, fun r b h => ?_, ?_⟩
  · rw [List.length_append, show lss n (bs ++ [bo]) = lss n bs ++ [.slice (some ⟨bo, 0, none⟩) n n] by simp [lss]]
    exact hown
  · rcases Nat.lt_or_ge r bs.length with h1 | h1
    · rw [List.getElem?_append_left h1] at h
      obtain ⟨k1, arr, k2, k3⟩ := M7.lists r b h
      exact ⟨k1, arr, hkeep _ _ k2, fun i hi => by rw [upf_other _ _ (by omega)]; exact k3 i hi⟩
    · rw [List.getElem?_append_right h1] at h
      have hr : r = bs.length := by
        have := get_lt h; simp at this; omega
      subst hr
      simp at h; subst h
      obtain ⟨arr, k2, _, k3⟩ := C7.blk
      exact ⟨Nat.le_trans M.bel.size C.lo, arr, hkeep _ _ k2, fun i hi => by rw [upf_same]; exact k3 i hi⟩
  · exact M7.bel.grown hgrow M7.bel.size fun q hq => (M7.row.lt q hq).1
end
/-- The memory of Escapes while points are marked. -/
structure Fz (w0 w : World) (n : Nat) (v : Value) (bs : List Nat) (Os : Nat → Nat → Int) (bh : Nat) (Oh : Nat → Int) (bo : Nat) (E : Nat → Bool) : Prop where
  fa : Fa w0 w n v bs Os
  hp : ∃ arr, w.heap[bh]? = some (.cells arr 3 (0, 0)) ∧ ∀ i, i < n → arr[i]? = some (.int .i64 (Oh i))
  out : ∃ arr, w.heap[bo]? = some (.cells arr 4 (0, 0)) ∧ arr.size = n ∧ ∀ i, i < n → arr[i]? = some (.bool (E i))
  lo : w0.heap.size ≤ bo
section
variable {w0 w w' : World} {n : Nat} {v : Value} {bs : List Nat} {Os : Nat → Nat → Int} {bh bo : Nat} {Oh : Nat → Int} {E : Nat → Bool}
theorem Fz.under (M : Fz w0 w n v bs Os bh Oh bo E) (hb : Below w.heap.size w w') : Fz w0 w' n v bs Os bh Oh bo E := by
  obtain ⟨a1, h1, h2⟩ := M.hp
  obtain ⟨a2, k1, k2, k3⟩ := M.out
  exact ⟨M.fa.under hb, ⟨a1, (hb.block _ (lt_of_block h1)).trans h1, h2⟩, ⟨a2, (hb.block _ (lt_of_block k1)).trans k1, k2, k3⟩, M.lo⟩
theorem Fz.cells (M : Fz w0 w n v bs Os bh Oh bo E) {i : Nat} (hi : i < n) : w.cell? ⟨bh, i, none⟩ = some (.int .i64 (Oh i)) ∧ w.cell? ⟨bo, i, none⟩ = some (.bool (E i)) ∧ w.frozen? ⟨bo, i, none⟩ = false ∧ bo < w.heap.size := by
  obtain ⟨a1, h1, h2⟩ := M.hp
  obtain ⟨a2, k1, k2, k3⟩ := M.out
  exact ⟨cell_of h1 (h2 i hi), cell_of k1 (k3 i hi), fz_of _ k1, lt_of_block k1⟩
theorem Fz.set (M : Fz w0 w n v bs Os bh Oh bo E) {x : Nat} (hx : x < n) : Fz w0 (w.setCell ⟨bo, x, none⟩ (.bool true)) n v bs Os bh Oh bo (upf E x true) := by
  obtain ⟨a1, h1, h2⟩ := M.hp
  obtain ⟨a2, k1, k2, k3⟩ := M.out
  have hoth : ∀ j, j ≠ bo → (w.setCell ⟨bo, x, none⟩ (.bool true)).heap[j]? = w.heap[j]? := fun j hj => Below.heap_setCell _ _ _ _ hj
  have hint : ∀ (j : Nat) (arr : Array Value), w.heap[j]? = some (.cells arr 3 (0, 0)) → (w.setCell ⟨bo, x, none⟩ (.bool true)).heap[j]? = some (.cells arr 3 (0, 0)) := fun j arr hj => by
    rw [hoth j fun e => by rw [e, k1] at hj; simp at hj]; exact hj
  refine ⟨⟨ownsRow_keep M.fa.row fun g hg => hoth g fun e => ?_, fun r b h => ?_, M.fa.bel.setCell M.lo _⟩, ⟨a1, hint _ _ h1, h2⟩, ⟨_, heap_setCell_same _ _ _ _ k1, by simpa using k2, fun i hi => ?_⟩, M.lo⟩
  · obtain ⟨cur, hc⟩ := row_type M.fa.row hg
    rw [e, k1] at hc; simp at hc
  · obtain ⟨q1, arr, q2, q3⟩ := M.fa.lists r b h
    exact ⟨q1, arr, hint _ _ q2, q3⟩
  · by_cases e : i = x
    · subst e; rw [upf_same, Array.getElem?_setIfInBounds, if_pos rfl, if_pos (by omega)]
    · rw [upf_other _ _ e, Array.getElem?_setIfInBounds, if_neg (fun h => e h.symm)]; exact k3 i hi
/-- The last list is made too. -/
theorem Fz.mk' {w2 : World} (hb0 : w0.heap.size ≤ bo) (hbo : w0.heap.size ≤ w.heap.size) (hbel : Below w0.heap.size w0 w) (hk : w.heap[bo]? = some (.cells (reps n (.bool false)) 4 (0, 0))) (M : Fa w w' n v bs Os) (C : Co w' w2 bh n Oh) : Fz w0 w2 n v bs Os bh Oh bo (fun _ => false) := by
  have M2 := M.under C.bel
  obtain ⟨a1, h1, _, h2⟩ := C.blk
  refine ⟨⟨ownsRow_base M2.row hbo, fun r b h => ?_, hbel.trans (M2.bel.mono hbo)⟩, ⟨a1, h1, h2⟩, ⟨_, (M2.bel.block _ (lt_of_block hk)).trans hk, reps_size _ _, fun i hi => reps_get hi⟩, hb0⟩
  obtain ⟨q1, q2⟩ := M2.lists r b h
  exact ⟨Nat.le_trans hbo q1, q2⟩
end
end Go.Proofs.Ytlbildodjnjniaa
