/- GcKeeps: the roots, and whom they come to. -/
import Derived.Test.YtfhaiopgnllknaaKpE
namespace Go.Proofs.Ytfhaiopgnllknaa
open Go.RowKit Go.Maps

/-- An append of nothing. -/
theorem Qs.app0 {w : World} {B : Nat} {v : Value} {xs : List Int} (Q : Qs w B v xs) (ao : Option Addr) (c : Nat) : (Builtin.append_ #[31, 31] 31 #[v, .slice ao 0 c]).run Try.prog w = .ok v w := by
  obtain ⟨i0, hi, hz0, hz1, hz2⟩ := info_parts Try.info3
  rcases Q.form with ⟨rfl, rfl⟩ | ⟨g, off, cap, cur, rfl, _, _, _, hnc, _⟩
  · cases ao <;> simp [Builtin.append_, run_underlying Try.underlying31, sizeOf, typeInfo, hi, Builtin.lenOf, Builtin.firstCells, loadCells, loadCellsFrom]
  · cases ao <;> simp [Builtin.append_, run_underlying Try.underlying31, sizeOf, typeInfo, hi, Builtin.lenOf, Builtin.firstCells, hnc, storeCells, loadCells, loadCellsFrom]
/-- The lists with what waits and the roots. -/
def T5 (wl : List Int) (wk l : List Int) : Nat → List Int := upd (upd (T3 wl 20 0) 21 wk) 22 l
theorem T5_at (wl wk l : List Int) : T5 wl wk l 20 = ats 20 := by
  unfold T5
  rw [upd_other _ _ (by decide), upd_other _ _ (by decide)]; exact T3_at wl 20 0
theorem T5_to (wl wk l : List Int) {i : Nat} (hi : i < 20) : T5 wl wk l i = nats (tl wl i 6) := by
  unfold T5
  rw [upd_other _ _ (by omega), upd_other _ _ (by omega)]
  unfold T3
  rw [if_neg (by omega), if_pos hi]
theorem T5_wk (wl wk l : List Int) : T5 wl wk l 21 = wk := by
  unfold T5
  rw [upd_other _ _ (by decide), upd_same]
theorem T5_l (wl wk l : List Int) : T5 wl wk l 22 = l := upd_same _ _ _
theorem upd_comm {α : Type} (f : Nat → α) {a b : Nat} (u v : α) (h : a ≠ b) : upd (upd f a u) b v = upd (upd f b v) a u := by
  funext d
  unfold upd
  by_cases h1 : d = b
  · rw [if_pos h1, if_neg (by omega), if_pos h1]
  · rw [if_neg h1, if_neg h1]
theorem T5_wkset (wl wk l wk' : List Int) : upd (T5 wl wk l) 21 wk' = T5 wl wk' l := by
  unfold T5
  rw [upd_comm _ _ _ (by decide), upd_upd]
theorem T5_lset (wl wk l l' : List Int) : upd (T5 wl wk l) 22 l' = T5 wl wk l' := upd_upd _ _ _ _
/-- The law's memory while the roots are followed. -/
structure Jb (W wr : World) (H gT gW gS : Nat) (h : Hs) (wl : List Int) (va vk vl : Value) (wk l : List Int) (S : List Bool) : Prop where
  ex : ∃ (vs : Nat → Value) (cur : Array Value), vs 20 = va ∧ vs 21 = vk ∧ vs 22 = vl ∧ Me W wr H h 40 [gS, gW, gT] vs (T5 wl wk l) ∧ wr.heap[gT]? = some (.cells cur 31 (0, 0)) ∧ ∀ j, j < 20 → cur[j]? = some (vs j)
  word : wr.heap[gW]? = some (.cells (ints wl).toArray 3 (0, 0))
  stays : wr.heap[gS]? = some (.cells (bools S).toArray 4 (0, 0))
  gt : gT < gS ∧ gW < gS
section
variable {W wr : World} {H gT gW gS : Nat} {h : Hs} {wl : List Int} {va vk vl : Value} {wk l : List Int} {S : List Bool}
theorem Jb.new (J : Jt W wr H gT gW h wl va (T3 wl 20 0)) : Jb W (((wr.alloc (.cells (bools s0).toArray 4)).alloc (.cells #[] 3)).alloc (.cells #[.int .i64 0] 3)) H gT gW wr.heap.size h wl va (.slice (some ⟨wr.heap.size + 1, 0, none⟩) 0 0) (.slice (some ⟨wr.heap.size + 2, 0, none⟩) 1 1) [] [0] s0 := by
  obtain ⟨vs, cur, h1, h2, M, h3, h4, h5⟩ := J.ex
  have l1 := M.lt (g := gT) (by simp)
  have l2 := M.lt (g := gW) (by simp)
  obtain ⟨M1, S1⟩ := M.fix (.cells (bools s0).toArray 4)
  obtain ⟨M2, S2⟩ := M1.list (j := 21) (xs := []) (h2 21 (by decide))
  obtain ⟨M3, S3⟩ := M2.list (j := 22) (xs := [0]) (by rw [upd_other _ _ (by decide)]; exact h2 22 (by decide))
  have up : ∀ g, g ∈ [gW, gT] → ((((wr.alloc (.cells (bools s0).toArray 4)).alloc (.cells (ints []).toArray 3)).alloc (.cells (ints [0]).toArray 3))).heap[g]? = wr.heap[g]? := fun g hg => (S3 g (List.mem_cons_of_mem _ hg)).trans ((S2 g (List.mem_cons_of_mem _ hg)).trans (S1 g hg))
  refine ⟨⟨_, cur, ?_, ?_, ?_, M3, (up gT (by simp)).trans h3, fun j hj => ?_⟩, (up gW (by simp)).trans J.word, ?_, l1, l2⟩
  · rw [upd_other _ _ (by decide), upd_other _ _ (by decide)]; exact h1
  · rw [upd_other _ _ (by decide), upd_same]; simp
  · rw [upd_same]; simp
  · rw [upd_other _ _ (by omega), upd_other _ _ (by omega)]; exact h5 j hj
  · exact (S3 wr.heap.size (by simp)).trans ((S2 wr.heap.size (by simp)).trans (heap_new _ _ rfl))
theorem Jb.addr (J : Jb W wr H gT gW gS h wl va vk vl wk l S) {g off cap j : Nat} (hv : va = .slice (some ⟨g, off, none⟩) 20 cap) (hj : j < 20) : wr.cell? ⟨g, off + j, none⟩ = some (.int .i64 ((6 * j + 1 : Nat) : Int)) := by
  obtain ⟨vs, cur, h1, _, _, M, _⟩ := J.ex
  exact M.addr (T5_at wl wk l) (h1.trans hv) hj
theorem Jb.bel (J : Jb W wr H gT gW gS h wl va vk vl wk l S) : Below W.heap.size W wr := by
  obtain ⟨vs, cur, _, _, _, M, _⟩ := J.ex
  exact M.bel
theorem Jb.under {w' : World} (J : Jb W wr H gT gW gS h wl va vk vl wk l S) (hb : Below wr.heap.size wr w') : Jb W w' H gT gW gS h wl va vk vl wk l S := by
  obtain ⟨vs, cur, h1, h2, h3, M, h4, h5⟩ := J.ex
  obtain ⟨M', S'⟩ := M.under hb
  exact ⟨⟨vs, cur, h1, h2, h3, M', (S' gT (by simp)).trans h4, h5⟩, (S' gW (by simp)).trans J.word, (S' gS (by simp)).trans J.stays, J.gt⟩
/-- One more root. -/
theorem Jb.work (J : Jb W wr H gT gW gS h wl va vk vl wk l S) (n : Int) (hl : wk.length < 1000000000) :
    ∃ vk' w', (Builtin.append_ #[31, 31] 31 #[vk, .slice (some ⟨wr.heap.size, 0, none⟩) 1 1]).run Try.prog (wr.alloc (.cells #[.int .i64 n] 3)) = .ok vk' w' ∧ Hid (Jb W w' H gT gW gS h wl va vk' vl (wk ++ [n]) l S) := by
  obtain ⟨vs, cur, h1, rfl, h3, M, h4, h5⟩ := J.ex
  obtain ⟨v', w', hr, M', S'⟩ := M.app1 21 n (by rw [T5_wk]; exact hl)
  rw [T5_wk, T5_wkset] at M'
  exact ⟨v', w', hr, ⟨⟨_, cur, by rw [upd_other _ _ (by decide)]; exact h1, upd_same _ _ _, by rw [upd_other _ _ (by decide)]; exact h3, M', (S' gT (by simp)).trans h4, fun j hj => by rw [upd_other _ _ (by omega)]; exact h5 j hj⟩, (S' gW (by simp)).trans J.word, (S' gS (by simp)).trans J.stays, J.gt⟩⟩
theorem Jb.list (J : Jb W wr H gT gW gS h wl va vk vl wk l S) (n : Int) (hl : l.length < 1000000000) :
    ∃ vl' w', (Builtin.append_ #[31, 31] 31 #[vl, .slice (some ⟨wr.heap.size, 0, none⟩) 1 1]).run Try.prog (wr.alloc (.cells #[.int .i64 n] 3)) = .ok vl' w' ∧ Hid (Jb W w' H gT gW gS h wl va vk vl' wk (l ++ [n]) S) := by
  obtain ⟨vs, cur, h1, h2, rfl, M, h4, h5⟩ := J.ex
  obtain ⟨v', w', hr, M', S'⟩ := M.app1 22 n (by rw [T5_l]; exact hl)
  rw [T5_l, T5_lset] at M'
  exact ⟨v', w', hr, ⟨⟨_, cur, by rw [upd_other _ _ (by decide)]; exact h1, by rw [upd_other _ _ (by decide)]; exact h2, upd_same _ _ _, M', (S' gT (by simp)).trans h4, fun j hj => by rw [upd_other _ _ (by omega)]; exact h5 j hj⟩, (S' gW (by simp)).trans J.word, (S' gS (by simp)).trans J.stays, J.gt⟩⟩
/-- The first that waits. -/
theorem Jb.pop {x : Int} (J : Jb W wr H gT gW gS h wl va vk vl (x :: wk) l S) : ∃ g off cap, vk = .slice (some ⟨g, off, none⟩) (wk.length + 1) cap ∧ wr.cell? ⟨g, off, none⟩ = some (.int .i64 x) ∧ wk.length + 1 ≤ cap ∧ Hid (Jb W wr H gT gW gS h wl va (.slice (some ⟨g, off + 1, none⟩) wk.length (cap - 1)) vl wk l S) ∧ Hid (cap = 1 → Jb W wr H gT gW gS h wl va (.slice (some ⟨g, off, none⟩) wk.length 0) vl wk l S) := by
  obtain ⟨vs, cur, h1, rfl, h3, M, h4, h5⟩ := J.ex
  have Q := M.q 21
  rw [T5_wk] at Q
  obtain ⟨g, off, cap, e1, e2, e3, Q', Q0⟩ := Q.pop
  refine ⟨g, off, cap, e1, e2, e3, ?_, fun hc => ?_⟩
  · obtain ⟨M', _⟩ := M.turn (j := 21) (w' := wr) (World.grownBy.refl _ _) Q' (.inl (by rw [e1]; rfl))
    rw [T5_wkset] at M'
    exact ⟨⟨_, cur, by rw [upd_other _ _ (by decide)]; exact h1, upd_same _ _ _, by rw [upd_other _ _ (by decide)]; exact h3, M', h4, fun j hj => by rw [upd_other _ _ (by omega)]; exact h5 j hj⟩, J.word, J.stays, J.gt⟩
  · obtain ⟨M', _⟩ := M.turn (j := 21) (w' := wr) (World.grownBy.refl _ _) (Q0 hc) (.inl (by rw [e1]; rfl))
    rw [T5_wkset] at M'
    exact ⟨⟨_, cur, by rw [upd_other _ _ (by decide)]; exact h1, upd_same _ _ _, by rw [upd_other _ _ (by decide)]; exact h3, M', h4, fun j hj => by rw [upd_other _ _ (by omega)]; exact h5 j hj⟩, J.word, J.stays, J.gt⟩
theorem stay_cell {w : World} {g : Nat} {l : List Bool} (hb : w.heap[g]? = some (.cells (bools l).toArray 4 (0, 0))) {q : Nat} (hq : q < l.length) : w.cell? ⟨g, q, none⟩ = some (.bool (l.getD q false)) ∧ w.frozen? ⟨g, q, none⟩ = false := by
  refine ⟨?_, by simp [World.frozen?, hb]⟩
  simp [World.cell?, hb, bools, List.getD_eq_getElem?_getD, List.getElem?_eq_getElem hq]
/-- An object stays. -/
theorem Jb.stay (J : Jb W wr H gT gW gS h wl va vk vl wk l S) (i : Nat) : Jb W (wr.setCell ⟨gS, i, none⟩ (.bool true)) H gT gW gS h wl va vk vl wk l (S.set i true) := by
  obtain ⟨vs, cur, h1, h2, h3, M, h4, h5⟩ := J.ex
  obtain ⟨g1, g2⟩ := J.gt
  obtain ⟨M', S'⟩ := M.store (g := gS) (by simp) i (.bool true)
  refine ⟨⟨vs, cur, h1, h2, h3, M', (S' gT (by omega)).trans h4, h5⟩, (S' gW (by omega)).trans J.word, ?_, J.gt⟩
  rw [heap_setCell_same wr gS i _ J.stays]
  congr 2
  simp [bools, List.map_set]
/-- What it links to waits, too. -/
theorem Jb.more (J : Jb W wr H gT gW gS h wl va vk vl wk l S) {i : Nat} (hi : i < 20) (hl : wk.length < 900000000) :
    ∃ v vk' w', wr.cell? ⟨gT, i, none⟩ = some v ∧ (Builtin.append_ #[31, 31] 31 #[vk, v]).run Try.prog wr = .ok vk' w' ∧ Hid (Jb W w' H gT gW gS h wl va vk' vl (wk ++ nats (tl wl i 6)) l S) := by
  obtain ⟨vs, cur, h1, rfl, h3, M, h4, h5⟩ := J.ex
  have Qi := M.q i
  rw [T5_to _ _ _ hi] at Qi
  have Qk := M.q 21
  rw [T5_wk] at Qk
  have hlen := tl_len wl i 6
  have hc : wr.cell? ⟨gT, i, none⟩ = some (vs i) := by simp [World.cell?, h4, h5 i hi]
  obtain ⟨ao, cap, hv⟩ := Qi.len
  rcases Nat.eq_zero_or_pos (nats (tl wl i 6)).length with h0 | h0
  · rw [h0] at hv
    refine ⟨vs i, vs 21, wr, hc, by rw [hv]; exact Qk.app0 ao cap, ?_⟩
    rw [List.eq_nil_of_length_eq_zero h0, List.append_nil]
    exact ⟨⟨vs, cur, h1, rfl, h3, M, h4, h5⟩, J.word, J.stays, J.gt⟩
  · rcases Qi.form with ⟨_, e0⟩ | ⟨g, off, cap', cur', e1, _, e2, _, _, e3⟩
    · rw [e0] at h0; simp at h0
    · obtain ⟨v', w', hr, hq, hg, hv'⟩ := Qk.app M.bel.size (a := ⟨g, off, none⟩) (c := cap') h0 (fun j y hy => by
        rw [show (⟨g, off, none⟩ : Addr).add j = ⟨g, off + j, none⟩ by cases j <;> simp [Addr.add]]
        simp [World.cell?, e2, e3 j y hy]) (by simp only [nats, List.length_map]; omega)
      obtain ⟨M', S'⟩ := M.turn hg hq hv'
      rw [T5_wkset] at M'
      refine ⟨vs i, v', w', hc, by rw [e1]; exact hr, ⟨⟨_, cur, by rw [upd_other _ _ (by decide)]; exact h1, upd_same _ _ _, by rw [upd_other _ _ (by decide)]; exact h3, M', (S' gT (by simp)).trans h4, fun j hj => by rw [upd_other _ _ (by omega)]; exact h5 j hj⟩, (S' gW (by simp)).trans J.word, (S' gS (by simp)).trans J.stays, J.gt⟩⟩
end
end Go.Proofs.Ytfhaiopgnllknaa
