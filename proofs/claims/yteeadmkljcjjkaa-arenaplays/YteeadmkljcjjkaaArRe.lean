/- The document's Free. -/
import Derived.Test.YteeadmkljcjjkaaArRd
import Derived.Deep.CutRange
namespace Go.Proofs.Yteeadmkljcjjkaa
open Go.RowKit Go.Maps

theorem row_setS {w : World} {B n cap g m size : Nat} {e : TypeId} {xs : List Value} (h : w.ownsRow B e size (.slice (some ⟨g, 0, none⟩) n cap) n xs) (u : Value) : (w.setCell ⟨g, m, none⟩ u).ownsRow B e size (.slice (some ⟨g, 0, none⟩) n cap) n (xs.set m u) := by
  refine ⟨by rw [List.length_set]; exact h.1, ?_⟩
  rcases h.2 with ⟨h1, _⟩ | ⟨g', cap', cur, h1, h2, h3, h4, h5, h6, h7⟩
  · cases h1
  · cases h1
    refine .inr ⟨g, cap, _, rfl, h2, heap_setCell_same w g m u h3, h4, h5, by simpa using h6, ?_⟩
    rw [← h7]
    simp [List.take_set]
theorem set_keeps {α : Type} {l : List α} {j : Nat} {b : α} (h : l[j]? = some b) : l.set j b = l := by
  apply List.ext_getElem?
  intro i
  rw [List.getElem?_set]
  by_cases hi : j = i
  · subst hi; rw [if_pos rfl, if_pos (get_lt h), h]
  · rw [if_neg hi]
theorem rcells_free {ps : List Rp} {i : Nat} {q : Rp} (h : ps[i]? = some q) (t : Nat) : rcells (ps.set i ⟨q.a, q.n, true, t⟩) = ((rcells ps).set (i * 4 + 2) (.bool true)).set (i * 4 + 3) (.int .i64 t) := by
  obtain ⟨e1, e2, _, _⟩ := rcells_get h
  rw [rcells_set _ (get_lt h), set_keeps e1, set_keeps e2]
section
variable {B : Nat} {r : Rs} {vp vs : Value} {w : World}
theorem RL.freed (R : RL B w r vp vs) {g cap i : Nat} {q : Rp} (hv : vp = .slice (some ⟨g, 0, none⟩) r.ps.length cap) (hq : r.ps[i]? = some q) (hf : r.fd < 60000) :
    RL B ((w.setCell ⟨g, i * 4 + 2, none⟩ (.bool true)).setCell ⟨g, i * 4 + 3, none⟩ (.int .i64 ((r.fd + 1 : Nat) : Int))) (rFree r i q) vp vs := by
  subst hv
  refine ⟨?_, ownsRow_keep R.sto fun j hj => ?_, R.bw, R.bl, by show (r.ps.set i _).length ≤ _; rw [List.length_set]; exact R.bp, R.bs, by show r.fd + 1 ≤ _; omega, ?_, by simp; exact R.hB⟩
  · show World.ownsRow _ B 66 4 _ (r.ps.set i _).length (rcells (r.ps.set i ⟨q.a, q.n, true, r.fd + 1⟩))
    rw [List.length_set, rcells_free hq]
    exact row_setS (row_setS R.pcs _) _
  · have hne : j ≠ g := fun e => by
      rcases R.sto.2 with ⟨h1, _⟩ | ⟨g', cap', cur, h1, _, h2, _⟩
      · rw [h1] at hj; cases hj
      · rw [h1] at hj; cases hj
        rcases R.pcs.2 with ⟨h3, _⟩ | ⟨g2, cap2, cur2, h3, _, h4, _⟩
        · cases h3
        · cases h3; rw [show g' = g from e, h4] at h2; simp at h2
    rw [Below.heap_setCell _ _ _ _ hne, Below.heap_setCell _ _ _ _ hne]
  · intro j p hp
    have hp2 : (r.ps.set i ⟨q.a, q.n, true, r.fd + 1⟩)[j]? = some p := hp
    rw [List.getElem?_set] at hp2
    split at hp2
    · split at hp2
      · cases hp2
        obtain ⟨a, b, c⟩ := R.ba i q hq
        exact ⟨a, b, by show r.fd + 1 ≤ _; omega⟩
      · cases hp2
    · exact R.ba j p hp2
set_option maxHeartbeats 1000000 in
theorem rfree_any (x : Int) (R : RL B w r vp vs) (hf : r.fd < 60000) :
    Calls Try.prog 14 #[rv r vp vs, .int .i64 x] w fun e w' => (AtR r.ps x none ∧ e = .returned (.tuple #[.int .i64 6, rv r vp vs]) ∧ Below w.heap.size w w') ∨
      ∃ (j : Nat) (q : Rp) (vp' vs' : Value), AtR r.ps x (some j) ∧ r.ps[j]? = some q ∧ e = .returned (.tuple #[.int .i64 0, rv (rFree r j q) vp' vs']) ∧ ROut B w vp vs (rFree r j q) vp' vs' w' := by
  obtain ⟨aop, cpp, rfl⟩ := R.pform
  obtain ⟨aos, cps, rfl⟩ := R.sform
  obtain ⟨W1, hW1⟩ : ∃ W1, (w.alloc (.cells #[.int .i64 r.wd, .int .i64 r.ln, .slice aop r.ps.length cpp, .int .i64 r.fd, .slice aos r.st.length cps] 31)).alloc (.cells #[.int .i64 0, .int .i64 0, .slice none 0 0, .int .i64 0, .slice none 0 0] 31) = W1 := ⟨_, rfl⟩
  have z1 : W1.heap.size = w.heap.size + 1 + 1 := by rw [← hW1]; simp
  have HB := hide (show Below w.heap.size w W1 by rw [← hW1]; exact ((Below.refl _ _).alloc (Nat.le_refl _) _).alloc (by simp) _)
  have R1 := hide (R.below HB.out)
  have bx1 : W1.heap[w.heap.size]? = some (.cells #[.int .i64 r.wd, .int .i64 r.ln, .slice aop r.ps.length cpp, .int .i64 r.fd, .slice aos r.st.length cps] 31 (0, 0)) := by rw [← hW1, Below.heap_alloc _ _ _ (by simp), heap_new _ _ rfl]
  have bz1 : W1.heap[w.heap.size + 1]? = some (.cells #[.int .i64 0, .int .i64 0, .slice none 0 0, .int .i64 0, .slice none 0 0] 31 (0, 0)) := by rw [← hW1, heap_new _ _ (by simp)]
  have ha := rat_any x W1 R1.out
  have HBX := hide bx1
  have HBZ := hide bz1
  have HRB := hide R.hB
  clear R bx1 bz1
  have Z1 := hide z1
  clear z1
  subst hW1
  go_enter Try.func14, Try.ntmps14
  go_wp2_with fail
  refine ha.mono ?_
  rintro e w1 ⟨⟨o, ho, rfl⟩, hb⟩
  have bx := hide ((hb.block w.heap.size (by rw [Z1.out]; omega)).trans HBX.out)
  have bz := hide ((hb.block (w.heap.size + 1) (by rw [Z1.out]; omega)).trans HBZ.out)
  have R2 := hide (R1.out.below hb)
  have B2 := hide (HB.out.trans (hb.mono (by rw [Z1.out]; omega)))
  have zz1 : w.heap.size + 1 < w1.heap.size := by have h1 := hb.size; rw [Z1.out] at h1; omega
  clear hb ha R1 HB HBX HBZ Z1
  cases o with
  | none =>
    have HO := hide ho
    clear ho
    obtain ⟨c0, c1, c2, c3, c4, _⟩ := box_cells bx.out
    obtain ⟨d0, d1, d2, d3, d4, f0, f1, f2, f3, f4⟩ := box_cells bz.out
    go_wp2
    go_region
    all_goals go_wp2
    all_goals exact bodyPost_ret (v := .tuple #[.int .i64 6, rv r (.slice aop r.ps.length cpp) (.slice aos r.st.length cps)]) (by simp [results, Try.results14, go_sem, d0, d1, d2, d3, d4]) rfl (.inl ⟨HO.out, rfl, (below_five B2.out (Nat.le_succ _) _ _ _ _ _).drew⟩)
  | some j =>
    have HO := hide ho
    obtain ⟨q, hq, _, _⟩ := ho
    have hj := get_lt hq
    have hc := rcopied_any R2.out
    obtain ⟨c0, c1, c2, c3, c4, _⟩ := box_cells bx.out
    have ej : decide ((j : Int) < 0) = false := by simp
    have HQ := hide hq
    clear hq
    go_wp2_with fail
    refine hc.mono ?_
    rintro e w2 ⟨vp', vs', rfl, RC, bc⟩
    clear hc c0 c1 c2 c3 c4
    obtain ⟨aop', cpp', rfl⟩ := RC.pform
    obtain ⟨aos', cps', rfl⟩ := RC.sform
    obtain ⟨g, cap, hvp, hgl, k1, k2, k3, k4, kf⟩ := RC.piece HQ.out
    obtain rfl : aop' = some ⟨g, 0, none⟩ := (Value.slice.inj hvp).1
    have hbp := RC.bp
    have bj : (j : Int) < (r.ps.length : Int) := by omega
    have hgl2 := (RC.pcs.lt g rfl)
    have bx2 := hide ((bc.block w.heap.size (by omega)).trans bx.out)
    have bz2 := hide ((bc.block (w.heap.size + 1) (by omega)).trans bz.out)
    obtain ⟨c0, c1, c2, c3, c4, e0, e1, e2, e3, e4⟩ := box_cells bx2.out
    have zz2 := bc.size
    have hg1 : g ≠ w.heap.size := by omega
    have hg2 : g ≠ w.heap.size + 1 := by omega
    have bfd : (r.fd : Int) < 60000 := by omega
    have kf2 := kf (j * 4 + 2)
    have kf3 := kf (j * 4 + 3)
    have RCH := hide RC
    have BCH := hide (B2.out.trans (bc.mono (by omega)))
    clear hvp R2 B2 bx bz RC bc kf
    go_upto_region 5 with fail
    obtain ⟨W5, hW5⟩ : ∃ W5, ((((w2.setCell ⟨w.heap.size, 0, none⟩ (.int .i64 r.wd)).setCell ⟨w.heap.size, 1, none⟩ (.int .i64 r.ln)).setCell ⟨w.heap.size, 2, none⟩ (.slice (some ⟨g, 0, none⟩) r.ps.length cpp')).setCell ⟨w.heap.size, 3, none⟩ (.int .i64 r.fd)).setCell ⟨w.heap.size, 4, none⟩ (.slice aos' r.st.length cps') = W5 := ⟨_, rfl⟩
    rw [hW5]
    have hfar : ∀ q, (Value.slice (some ⟨g, 0, none⟩) r.ps.length cpp').ownBlock = some q → q ≠ w.heap.size := fun q hq => by simp [Value.ownBlock] at hq; omega
    have hfar2 : ∀ q, (Value.slice aos' r.st.length cps').ownBlock = some q → w.heap.size + 1 < q := fun q hq => by have := (RCH.out.sto.lt q hq).1; omega
    have R5 : RL w1.heap.size W5 r (.slice (some ⟨g, 0, none⟩) r.ps.length cpp') (.slice aos' r.st.length cps') := by
      rw [← hW5]; exact RCH.out.five hfar (fun q hq => by have := hfar2 q hq; omega) _ _ _ _ _
    have x5 : W5.heap[w.heap.size]? = some (.cells #[.int .i64 r.wd, .int .i64 r.ln, .slice (some ⟨g, 0, none⟩) r.ps.length cpp', .int .i64 r.fd, .slice aos' r.st.length cps'] 31 (0, 0)) := by
      rw [← hW5]; exact box_five bx2.out _ _ _ _ _
    have y5 : W5.heap[w.heap.size + 1]? = some (.cells #[.int .i64 0, .int .i64 0, .slice none 0 0, .int .i64 0, .slice none 0 0] 31 (0, 0)) := by
      rw [← hW5, five_cells _ _ _ _ _ _ _ _ (by omega)]; exact bz2.out
    have B5 : Below w.heap.size w W5 := by rw [← hW5]; exact below_five BCH.out (Nat.le_refl _) _ _ _ _ _
    -- the count of those that went back
    obtain ⟨W6, hW6⟩ : ∃ W6, W5.setCell ⟨w.heap.size, 3, none⟩ (.int .i64 ((r.fd : Int) + 1)) = W6 := ⟨_, rfl⟩
    have x6 : W6.heap[w.heap.size]? = some (.cells #[.int .i64 r.wd, .int .i64 r.ln, .slice (some ⟨g, 0, none⟩) r.ps.length cpp', .int .i64 ((r.fd : Int) + 1), .slice aos' r.st.length cps'] 31 (0, 0)) := by
      rw [← hW6, heap_setCell_same W5 _ 3 _ x5]; rfl
    have y6 : W6.heap[w.heap.size + 1]? = some (.cells #[.int .i64 0, .int .i64 0, .slice none 0 0, .int .i64 0, .slice none 0 0] 31 (0, 0)) := by
      rw [← hW6, Below.heap_setCell _ _ _ _ (by simp)]; exact y5
    have R6 : RL w1.heap.size W6 r (.slice (some ⟨g, 0, none⟩) r.ps.length cpp') (.slice aos' r.st.length cps') := by
      rw [← hW6]; exact R5.keep (fun q hq => Below.heap_setCell _ _ _ _ (hfar q hq)) (fun q hq => Below.heap_setCell _ _ _ _ (by have := hfar2 q hq; show q ≠ w.heap.size; omega)) (by simp)
    have B6 : Below w.heap.size w W6 := by rw [← hW6]; exact B5.setCell (Nat.le_refl _) _
    -- the piece
    obtain ⟨W8, hW8⟩ : ∃ W8, (W6.setCell ⟨g, j * 4 + 2, none⟩ (.bool true)).setCell ⟨g, j * 4 + 3, none⟩ (.int .i64 ((r.fd : Int) + 1)) = W8 := ⟨_, rfl⟩
    have R8 := hide (show RL w1.heap.size W8 (rFree r j q) (.slice (some ⟨g, 0, none⟩) r.ps.length cpp') (.slice aos' r.st.length cps') by
      rw [← hW8]; exact R6.freed rfl HQ.out hf)
    have x8 : W8.heap[w.heap.size]? = some (.cells #[.int .i64 r.wd, .int .i64 r.ln, .slice (some ⟨g, 0, none⟩) r.ps.length cpp', .int .i64 ((r.fd : Int) + 1), .slice aos' r.st.length cps'] 31 (0, 0)) := by
      rw [← hW8, Below.heap_setCell _ _ _ _ (Ne.symm hg1), Below.heap_setCell _ _ _ _ (Ne.symm hg1)]; exact x6
    have y8 : W8.heap[w.heap.size + 1]? = some (.cells #[.int .i64 0, .int .i64 0, .slice none 0 0, .int .i64 0, .slice none 0 0] 31 (0, 0)) := by
      rw [← hW8, Below.heap_setCell _ _ _ _ (Ne.symm hg2), Below.heap_setCell _ _ _ _ (Ne.symm hg2)]; exact y6
    have B8 := hide (show Below w.heap.size w W8 by rw [← hW8]; exact (B6.setCell (by show w.heap.size ≤ g; omega) _).setCell (by show w.heap.size ≤ g; omega) _)
    have HF1 := hide (show ∀ q, (Value.slice (some ⟨g, 0, none⟩) r.ps.length cpp').ownBlock = some q → (Value.slice aop r.ps.length cpp).ownBlock = some q ∨ w.heap.size ≤ q from fun q hq => by simp [Value.ownBlock] at hq; right; omega)
    have HF2 := hide (show ∀ q, (Value.slice aos' r.st.length cps').ownBlock = some q → (Value.slice aos r.st.length cps).ownBlock = some q ∨ w.heap.size ≤ q from fun q hq => by have := hfar2 q hq; right; omega)
    have HF3 := hide (show ∀ v1 v2 v3 v4 v5, RL B (((((W8.setCell ⟨w.heap.size + 1, 0, none⟩ v1).setCell ⟨w.heap.size + 1, 1, none⟩ v2).setCell ⟨w.heap.size + 1, 2, none⟩ v3).setCell ⟨w.heap.size + 1, 3, none⟩ v4).setCell ⟨w.heap.size + 1, 4, none⟩ v5).drew (rFree r j q) (.slice (some ⟨g, 0, none⟩) r.ps.length cpp') (.slice aos' r.st.length cps') from fun v1 v2 v3 v4 v5 =>
      (RL.five (b := w.heap.size + 1) (R8.out.mono (by have := HRB.out; omega)) (fun q hq => by simp [Value.ownBlock] at hq; omega) (fun q hq => by have := hfar2 q hq; omega) v1 v2 v3 v4 v5).drew)
    obtain ⟨p0, p1, p2, p3, p4, _, _, _, p5, _⟩ := box_cells x5
    obtain ⟨_, _, m2, m3, _⟩ := box_cells x6
    obtain ⟨g', cap', hvp', _, k1, k2, k3, k4, kf⟩ := R6.piece HQ.out
    obtain rfl : g = g' := by have := (Value.slice.inj hvp').1; cases this; rfl
    have kf2' := kf (j * 4 + 2)
    have kf3' := kf (j * 4 + 3)
    obtain ⟨x0, x1, x2, x3, x4, _⟩ := box_cells x8
    obtain ⟨y0, y1, y2, y3, y4, z0, z1, z2, z3, z4⟩ := box_cells y8
    clear hfar hfar2 x5 y5 x6 y6 x8 y8 c0 c1 c2 c3 c4 e0 e1 e2 e3 e4 hW5 bx2 bz2 R5 R6 B5 B6 RCH hvp' kf kf2 kf3 R8
    go_upto_region 6 with fail
    try rw [hW6]
    clear hW6 p0 p1 p2 p3 p4 p5
    go_upto_region 8 with fail
    try rw [hW8]
    clear hW8 m2 m3 k1 k2 k3 k4 kf2' kf3'
    go_region
    all_goals go_wp2
    all_goals exact bodyPost_ret (v := .tuple #[.int .i64 0, rv (rFree r j q) (.slice (some ⟨g, 0, none⟩) r.ps.length cpp') (.slice aos' r.st.length cps')]) (by simp [results, Try.results14, go_sem, y0, y1, y2, y3, y4, rFree]) rfl (.inr ⟨j, q, _, _, HO.out, HQ.out, rfl, ⟨HF3.out _ _ _ _ _, (below_five B8.out (Nat.le_succ _) _ _ _ _ _).drew, HF1.out, HF2.out⟩⟩)
end
end Go.Proofs.Yteeadmkljcjjkaa
