/- pointers, and a type more. -/
import Derived.Test.YtimpmgbahgganaaHpK
namespace Go.Proofs.Ytimpmgbahgganaa
open Go.RowKit Go.Maps

/-- The first j fields told. -/
def ptrN (f : List Int) (j : Nat) : List Bool := (ptrs f).take j ++ List.replicate (f.length - j) false
theorem ptrN_zero (f : List Int) : ptrN f 0 = List.replicate f.length false := by simp [ptrN]
theorem ptrN_length (f : List Int) {j : Nat} (hj : j ≤ f.length) : (ptrN f j).length = f.length := by simp [ptrN, ptrs]; omega
theorem ptrN_all (f : List Int) : ptrN f f.length = ptrs f := by
  unfold ptrN
  rw [List.take_of_length_le (by simp [ptrs])]; simp
theorem ptrN_set {f : List Int} {j : Nat} {x : Int} (hx : f[j]? = some x) : (ptrN f j).set j (x != 0) = ptrN f (j + 1) := by
  have hj := get_lt hx
  have hl : ((ptrs f).take j).length = j := by simp [ptrs]; omega
  unfold ptrN
  rw [List.set_append_right j _ (by omega), hl, Nat.sub_self, show f.length - j = (f.length - (j + 1)) + 1 by omega, List.replicate_succ, List.set_cons_zero, List.take_add_one, show (ptrs f)[j]? = some (x != 0) by simp [ptrs, hx]]
  simp
theorem made_bools (n : Nat) : madeCells #[Value.bool false] n = (bools (List.replicate n false)).toArray := by
  apply Array.ext
  · simp [madeCells, bools]
  · intro i h1 h2
    simp [madeCells, bools, Nat.mod_one]
section
variable {w : World}
set_option maxHeartbeats 2000000 in
theorem pointers_any {v : Value} {f : List Int} (R : IntsAt w v f) (hf : f.length ≤ 4096) :
    Calls Try.prog 26 #[v] w fun e w' => ∃ vb, e = .returned vb ∧ w'.ownsRow w.heap.size 4 1 vb (ptrs f).length (bools (ptrs f)) ∧ Below w.heap.size w w' := by
  obtain ⟨ao, cap, rfl, hc⟩ := R
  have HC := hide hc
  clear hc
  obtain ⟨i0, hi, hz0, hz1, hz2⟩ := info_parts Try.info4
  have hmk := run_make (P := Try.prog) w 65 4 i0 (.bool false) Try.underlying65 hi hz0 .i64 .i64 f.length f.length (by omega) (Int.le_refl _) (by rw [hz2]; omega) (by omega)
  rw [hz1] at hmk
  simp only [Int.toNat_natCast, Nat.mul_one] at hmk
  rw [show (Value.bool false).cells = #[Value.bool false] from rfl, made_bools] at hmk
  clear hz0 hz1 hz2 hi
  have HS0 := hide (show Below w.heap.size w (w.alloc (.cells (bools (List.replicate f.length false)).toArray 4)) ∧ (w.alloc (.cells (bools (List.replicate f.length false)).toArray 4)).heap[w.heap.size]? = some (.cells (bools (ptrN f 0)).toArray 4 (0, 0)) from
    ⟨(Below.refl _ _).alloc (Nat.le_refl _) _, by rw [heap_new _ _ rfl, ptrN_zero]⟩)
  have hn : (f.length : Int) ≤ 4096 := by omega
  have HFL := hide (show f.length = f.length from rfl)
  clear HFL
  generalize hN : f.length = n at *
  have HN := hide hN
  clear hN
  go_enter Try.func26, Try.ntmps26
  go_wp2
  go_loopw [11] (fun ir wr => ∃ j : Nat, j ≤ n ∧ ir = .int .i64 j ∧ Hid (Below w.heap.size w wr ∧ wr.heap[w.heap.size]? = some (.cells (bools (ptrN f j)).toArray 4 (0, 0)))) (fun ir _ => n - (intOf ir).toNat)
  case atStart => exact ⟨0, Nat.zero_le _, rfl, HS0.out⟩
  case round =>
    obtain ⟨j, hj, rfl, hr⟩ := hrel
    by_cases hlt : j < n
    · obtain ⟨x, hx⟩ : ∃ x, f[j]? = some x := ⟨f[j]'(by rw [HN.out]; exact hlt), by simp⟩
      obtain ⟨hxm, g, o, rfl, hg, hcx⟩ := HC.out j x hx
      have hcx' : wr.cell? ⟨g, o + j, none⟩ = some (.int .i64 x) := by rw [World.cell?_of_block (a := ⟨g, o + j, none⟩) (hr.out.1.block g hg)]; exact hcx
      have bj : (j : Int) < (n : Int) := by omega
      have hlen := ptrN_length f (j := j) (by rw [HN.out]; exact hj)
      obtain ⟨b0, hb0⟩ : ∃ b0, wr.cell? ⟨w.heap.size, j, none⟩ = some (.bool b0) := ⟨(ptrN f j)[j]'(by rw [hlen, HN.out]; exact hlt), by
        have h1 : (bools (ptrN f j))[j]? = some (.bool ((ptrN f j)[j]'(by rw [hlen, HN.out]; exact hlt))) := bools_get (by simp)
        simpa [World.cell?, hr.out.2] using h1⟩
      have hfz : wr.frozen? ⟨w.heap.size, j, none⟩ = false := by simp [World.frozen?, hr.out.2]
      have HR := hide (show Below w.heap.size w (wr.setCell ⟨w.heap.size, j, none⟩ (.bool (x != 0))) ∧ (wr.setCell ⟨w.heap.size, j, none⟩ (.bool (x != 0))).heap[w.heap.size]? = some (.cells (bools (ptrN f (j + 1))).toArray 4 (0, 0)) from
        ⟨hr.out.1.setCell (Nat.le_refl _) _, by
          rw [heap_setCell_same wr w.heap.size j _ hr.out.2, ← ptrN_set hx]
          simp [bools, List.map_set]⟩)
      clear hcx hx hlen hr
      go_wp2
      go_roundw
      case rel => exact ⟨j + 1, by omega, by go_num, HR⟩
      case measure => simp [intOf]; omega
    · obtain rfl : j = n := by omega
      go_wp2
      go_ret
      refine ⟨_, rfl, ⟨by simp [bools], .inr ⟨w.heap.size, j, _, ?_, Nat.le_refl _, hr.out.2, ?_, ?_, ?_, ?_⟩⟩, hr.out.1⟩
      · simp [ptrs, HN.out]
      · simp [ptrs, HN.out]
      · unfold maxLen; omega
      · simp [bools, ptrN_length f (j := j) (by rw [HN.out]; exact Nat.le_refl _), HN.out]
      · have := ptrN_all f
        rw [HN.out] at this
        rw [this]
        simp [bools]
        exact List.take_of_length_le (by simp)
end
section
variable {Y : Hh} {w w5 : World} {h : Hs} {k : Nat}
/-- A type more. -/
theorem HLies.push (L : HLies Y w h k) {vb : Value} {f : List Bool} (hvb : w.ownsRow Y.X.B 4 1 vb f.length (bools f)) (hsb : ∀ g, vb.ownBlock = some g → ¬ Y.X.own g) {ga capa n : Nat}
    (hn : n = h.ty.length + 1) (ho : w5.ownsRow Y.X.B 65 1 (.slice (some ⟨ga, 0, none⟩) n capa) n (Y.tv ++ [vb])) (hg : w.grownBy w5 Y.vt.ownBlock) (hat : Y.vt.ownBlock = some ga ∨ w.heap.size ≤ ga) :
    HLies { Y with vt := .slice (some ⟨ga, 0, none⟩) n capa, tv := Y.tv ++ [vb] } (w5.setCell ⟨Y.H, 1, none⟩ (.slice (some ⟨ga, 0, none⟩) n capa)) { h with ty := h.ty ++ [f] } k ∧ w5.frozen? ⟨Y.H, 1, none⟩ = false ∧ w5.cell? ⟨Y.H, 1, none⟩ = some Y.vt := by
  have hvt : ∀ {j : Nat} {o : Obj}, w.heap[j]? = some o → (∀ cur, o ≠ .cells cur 65 (0, 0)) → w5.heap[j]? = w.heap[j]? := fun {j o} h1 h2 => hg.block j (lt_of_block h1) (fun e => by
    rcases L.tys.2 with ⟨h3, _⟩ | ⟨g2, cap2, cur, h3, _, h4, _⟩
    · rw [h3] at e; cases e
    · rw [h3] at e; simp [Value.ownBlock] at e; subst e; rw [h1] at h4; cases h4; exact h2 _ rfl)
  have hH : w5.heap[Y.H]? = some (.cells #[Y.X.p, Y.vt, .map (some Y.bo)] 76 (0, 0)) := (hvt L.blk (fun _ e => by simp at e)).trans L.blk
  have hset : ∀ j, j ≠ Y.H → (w5.setCell ⟨Y.H, 1, none⟩ (.slice (some ⟨ga, 0, none⟩) n capa)).heap[j]? = w5.heap[j]? := fun j hj => Below.heap_setCell _ _ _ _ hj
  have hX : ∀ j, Y.X.own j → (w5.setCell ⟨Y.H, 1, none⟩ (.slice (some ⟨ga, 0, none⟩) n capa)).heap[j]? = w.heap[j]? := fun j hj => by
    rw [hset j (fun e => L.sep j (.inl e) hj)]
    exact hg.block j (L.L.own_lt hj).2 (fun e => L.sep j (.inr (.inr (.inl e.symm))) hj)
  have hrow : ∀ {v : Value} {f : List Bool}, w.ownsRow Y.X.B 4 1 v f.length (bools f) → (w5.setCell ⟨Y.H, 1, none⟩ (.slice (some ⟨ga, 0, none⟩) n capa)).ownsRow Y.X.B 4 1 v f.length (bools f) := fun {v f} hv => ownsRow_keep hv fun g hg' => by
    rcases hv.2 with ⟨h1, _⟩ | ⟨g2, cap2, cur, h1, _, h2, _⟩
    · rw [h1] at hg'; cases hg'
    · rw [h1] at hg'; simp [Value.ownBlock] at hg'; subst hg'
      rw [hset g2 (fun e => by rw [e, L.blk] at h2; simp at h2)]
      exact hvt h2 (fun _ e => by simp at e)
  refine ⟨⟨L.L.keep hX (by rw [World.size_setCell]; exact hg.size), ?_, ?_, ?_, ?_, ?_, L.base⟩, by simp [World.frozen?, hH], by simp [World.cell?, hH]⟩
  · rw [heap_setCell_same w5 Y.H 1 _ hH]; rfl
  · show World.ownsRow _ Y.X.B 65 1 (.slice (some ⟨ga, 0, none⟩) n capa) (h.ty ++ [f]).length (Y.tv ++ [vb])
    rw [List.length_append, List.length_singleton, ← hn]
    refine ownsRow_keep ho fun g hg' => ?_
    simp [Value.ownBlock] at hg'
    subst hg'
    refine hset ga (fun e => ?_)
    rcases ho.2 with ⟨h1, _⟩ | ⟨g2, cap2, cur, h1, _, h2, _⟩
    · cases h1
    · cases h1; rw [e, hH] at h2; simp at h2
  · intro t f' hf'
    have hf2 : (h.ty ++ [f])[t]? = some f' := hf'
    rcases Nat.lt_or_ge t h.ty.length with h1 | h1
    · rw [List.getElem?_append_left h1] at hf2
      obtain ⟨v, e1, e2⟩ := L.tvs t f' hf2
      exact ⟨v, by show (Y.tv ++ [vb])[t]? = _; rw [List.getElem?_append_left (by rw [L.tvlen]; exact h1)]; exact e1, hrow e2⟩
    · rw [List.getElem?_append_right h1] at hf2
      have h2 := get_lt hf2
      simp at h2
      obtain rfl : t = h.ty.length := by omega
      simp at hf2
      subst hf2
      exact ⟨vb, by show (Y.tv ++ [vb])[h.ty.length]? = _; rw [← L.tvlen]; simp, hrow hvb⟩
  · refine L.map.keep ?_
    obtain ⟨D, ⟨es, cl, h1, _⟩, _⟩ := L.map
    rw [hset Y.bo (fun e => by rw [e, L.blk] at h1; cases h1)]
    exact hvt h1 (fun _ e => by cases e)
  · rintro j (rfl | rfl | hj | ⟨v, hv, hj⟩)
    · exact L.sep _ (.inl rfl)
    · exact L.sep _ (.inr (.inl rfl))
    · simp [Value.ownBlock] at hj
      subst hj
      rcases hat with h1 | h1
      · exact L.sep _ (.inr (.inr (.inl h1)))
      · exact fun h2 => by have := (L.L.own_lt h2).2; omega
    · rcases List.mem_append.1 hv with hv | hv
      · exact L.sep _ (.inr (.inr (.inr ⟨v, hv, hj⟩)))
      · simp at hv; subst hv; exact hsb j hj
end
end Go.Proofs.Ytimpmgbahgganaa
