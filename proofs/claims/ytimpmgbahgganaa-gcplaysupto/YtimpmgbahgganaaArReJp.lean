/- The document's Free. -/
import Derived.Test.YtimpmgbahgganaaArRwJp
import Derived.Deep.CutRange
namespace Go.Proofs.Ytimpmgbahgganaa
open Go.RowKit Go.Maps

theorem row_setS {w : World} {B n cap g m size : Nat} {e : TypeId} {xs : List Value} (h : w.ownsRow B e size (.slice (some ⟨g, 0, none⟩) n cap) n xs) (u : Value) : (w.setCell ⟨g, m, none⟩ u).ownsRow B e size (.slice (some ⟨g, 0, none⟩) n cap) n (xs.set m u) := by
  refine ⟨by rw [List.length_set]; exact h.1, ?_⟩
  rcases h.2 with ⟨h1, _⟩ | ⟨g', cap', cur, h1, h2, h3, h4, h5, h6, h7⟩
  · cases h1
  · cases h1
    refine .inr ⟨g, cap, _, rfl, h2, heap_setCell_same w g m u h3, h4, h5, by simpa using h6, ?_⟩
    rw [← h7]
    simp [List.take_set]
theorem set_keeps {α : Type} {l : List α} {j : Nat} {b : α} (h : l[j]? = some b) : l.set j b = l := by
  apply List.ext_getElem?
  intro i
  rw [List.getElem?_set]
  by_cases hi : j = i
  · subst hi; rw [if_pos rfl, if_pos (get_lt h), h]
  · rw [if_neg hi]
theorem rcells_free {ps : List Rp} {i : Nat} {q : Rp} (h : ps[i]? = some q) (t : Nat) : rcells (ps.set i ⟨q.a, q.n, true, t⟩) = ((rcells ps).set (i * 4 + 2) (.bool true)).set (i * 4 + 3) (.int .i64 t) := by
  obtain ⟨e1, e2, _, _⟩ := rcells_get h
  rw [rcells_set _ (get_lt h), set_keeps e1, set_keeps e2]
section
variable {B : Nat} {r : Rs} {vp vs : Value} {w : World}
theorem RL.freed (R : RL B w r vp vs) {g cap i : Nat} {q : Rp} (hv : vp = .slice (some ⟨g, 0, none⟩) r.ps.length cap) (hq : r.ps[i]? = some q) (hf : r.fd < 60000) :
    RL B ((w.setCell ⟨g, i * 4 + 2, none⟩ (.bool true)).setCell ⟨g, i * 4 + 3, none⟩ (.int .i64 ((r.fd + 1 : Nat) : Int))) (rFree r i q) vp vs := by
  subst hv
  refine ⟨?_, ownsRow_keep R.sto fun j hj => ?_, R.bw, R.bl, by show (r.ps.set i _).length ≤ _; rw [List.length_set]; exact R.bp, R.bs, by show r.fd + 1 ≤ _; omega, ?_, by simp; exact R.hB⟩
  · show World.ownsRow _ B 116 4 _ (r.ps.set i _).length (rcells (r.ps.set i ⟨q.a, q.n, true, r.fd + 1⟩))
    rw [List.length_set, rcells_free hq]
    exact row_setS (row_setS R.pcs _) _
  · have hne : j ≠ g := fun e => by
      rcases R.sto.2 with ⟨h1, _⟩ | ⟨g', cap', cur, h1, _, h2, _⟩
      · rw [h1] at hj; cases hj
      · rw [h1] at hj; cases hj
        rcases R.pcs.2 with ⟨h3, _⟩ | ⟨g2, cap2, cur2, h3, _, h4, _⟩
        · cases h3
        · cases h3; rw [show g' = g from e, h4] at h2; simp at h2
    rw [Below.heap_setCell _ _ _ _ hne, Below.heap_setCell _ _ _ _ hne]
  · intro j p hp
    have hp2 : (r.ps.set i ⟨q.a, q.n, true, r.fd + 1⟩)[j]? = some p := hp
    rw [List.getElem?_set] at hp2
    split at hp2
    · split at hp2
      · cases hp2
        obtain ⟨a, b, c⟩ := R.ba i q hq
        exact ⟨a, b, by show r.fd + 1 ≤ _; omega⟩
      · cases hp2
    · exact R.ba j p hp2
set_option maxHeartbeats 1000000 in
theorem rfree_any (x : Int) (R : RL B w r vp vs) (hf : r.fd < 60000) :
    Calls Try.prog 42 #[rv r vp vs, .int .i64 x] w fun e w' => (AtR r.ps x none ∧ e = .returned (.tuple #[.int .i64 6, rv r vp vs]) ∧ Below w.heap.size w w') ∨
      ∃ (j : Nat) (q : Rp) (vp' vs' : Value), AtR r.ps x (some j) ∧ r.ps[j]? = some q ∧ e = .returned (.tuple #[.int .i64 0, rv (rFree r j q) vp' vs']) ∧ ROut B w vp vs (rFree r j q) vp' vs' w' := by
  obtain ⟨aop, cpp, rfl⟩ := R.pform
  obtain ⟨aos, cps, rfl⟩ := R.sform
  obtain ⟨W1, hW1⟩ : ∃ W1, (w.alloc (.cells #[.int .i64 r.wd, .int .i64 r.ln, .slice aop r.ps.length cpp, .int .i64 r.fd, .slice aos r.st.length cps] 33)).alloc (.cells #[.int .i64 0, .int .i64 0, .slice none 0 0, .int .i64 0, .slice none 0 0] 33) = W1 := ⟨_, rfl⟩
  have z1 : W1.heap.size = w.heap.size + 1 + 1 := by rw [← hW1]; simp
  have HB := hide (show Below w.heap.size w W1 by rw [← hW1]; exact ((Below.refl _ _).alloc (Nat.le_refl _) _).alloc (by simp) _)
  have R1 := hide (R.below HB.out)
  have bx1 : W1.heap[w.heap.size]? = some (.cells #[.int .i64 r.wd, .int .i64 r.ln, .slice aop r.ps.length cpp, .int .i64 r.fd, .slice aos r.st.length cps] 33 (0, 0)) := by rw [← hW1, Below.heap_alloc _ _ _ (by simp), heap_new _ _ rfl]
  have bz1 : W1.heap[w.heap.size + 1]? = some (.cells #[.int .i64 0, .int .i64 0, .slice none 0 0, .int .i64 0, .slice none 0 0] 33 (0, 0)) := by rw [← hW1, heap_new _ _ (by simp)]
  have ha := rat_any x W1 R1.out
  have HBX := hide bx1
  have HBZ := hide bz1
  have HRB := hide R.hB
  clear R bx1 bz1
  have Z1 := hide z1
  clear z1
  subst hW1
  go_enter Try.func42, Try.ntmps42
  go_wp2_with fail
  refine ha.mono ?_
  rintro e w1 ⟨⟨o, ho, rfl⟩, hb⟩
  have bx := hide ((hb.block w.heap.size (by rw [Z1.out]; omega)).trans HBX.out)
  have bz := hide ((hb.block (w.heap.size + 1) (by rw [Z1.out]; omega)).trans HBZ.out)
  have R2 := hide (R1.out.below hb)
  have B2 := hide (HB.out.trans (hb.mono (by rw [Z1.out]; omega)))
  have zz1 : w.heap.size + 1 < w1.heap.size := by have h1 := hb.size; rw [Z1.out] at h1; omega
  clear hb ha R1 HB HBX HBZ Z1
  cases o with
  | none =>
    have HO := hide ho
    clear ho
    obtain ⟨c0, c1, c2, c3, c4, _⟩ := box_cells bx.out
    obtain ⟨d0, d1, d2, d3, d4, f0, f1, f2, f3, f4⟩ := box_cells bz.out
    go_wp2
    go_region
    all_goals go_wp2
    all_goals exact bodyPost_ret (v := .tuple #[.int .i64 6, rv r (.slice aop r.ps.length cpp) (.slice aos r.st.length cps)]) (by simp [results, Try.results42, go_sem, d0, d1, d2, d3, d4]) rfl (.inl ⟨HO.out, rfl, (below_five B2.out (Nat.le_succ _) _ _ _ _ _).drew⟩)
  | some j =>
    have HO := hide ho
    obtain ⟨q, hq, _, _⟩ := ho
    have hj := get_lt hq
    have hc := rcopied_any R2.out
    obtain ⟨c0, c1, c2, c3, c4, _⟩ := box_cells bx.out
    have ej : decide ((j : Int) < 0) = false := by simp
    have HQ := hide hq
    clear hq
    go_wp2_with fail
    refine hc.mono ?_
    rintro e w2 ⟨vp', vs', rfl, RC, bc⟩
    clear hc c0 c1 c2 c3 c4
    obtain ⟨aop', cpp', rfl⟩ := RC.pform
    obtain ⟨aos', cps', rfl⟩ := RC.sform
    obtain ⟨g, cap, hvp, hgl, k1, k2, k3, k4, kf⟩ := RC.piece HQ.out
    obtain rfl : aop' = some ⟨g, 0, none⟩ := (Value.slice.inj hvp).1
    have hbp := RC.bp
    have bj : (j : Int) < (r.ps.length : Int) := by omega
    have hgl2 := (RC.pcs.lt g rfl)
    have bx2 := hide ((bc.block w.heap.size (by omega)).trans bx.out)
    have bz2 := hide ((bc.block (w.heap.size + 1) (by omega)).trans bz.out)
    obtain ⟨c0, c1, c2, c3, c4, e0, e1, e2, e3, e4⟩ := box_cells bx2.out
    have zz2 := bc.size
    have hg1 : g ≠ w.heap.size := by omega
    have hg2 : g ≠ w.heap.size + 1 := by omega
    have bfd : (r.fd : Int) < 60000 := by omega
    have kf2 := kf (j * 4 + 2)
    have kf3 := kf (j * 4 + 3)
    have RCH := hide RC
    have BCH := hide (B2.out.trans (bc.mono (by omega)))
    clear hvp R2 B2 bx bz RC bc kf
    go_upto_region 5 with fail
    obtain ⟨W5, hW5⟩ : ∃ W5, ((((w2.setCell ⟨w.heap.size, 0, none⟩ (.int .i64 r.wd)).setCell ⟨w.heap.size, 1, none⟩ (.int .i64 r.ln)).setCell ⟨w.heap.size, 2, none⟩ (.slice (some ⟨g, 0, none⟩) r.ps.length cpp')).setCell ⟨w.heap.size, 3, none⟩ (.int .i64 r.fd)).setCell ⟨w.heap.size, 4, none⟩ (.slice aos' r.st.length cps') = W5 := ⟨_, rfl⟩
    rw [hW5]
    have hfar : ∀ q, (Value.slice (some ⟨g, 0, none⟩) r.ps.length cpp').ownBlock = some q → q ≠ w.heap.size := fun q hq => by simp [Value.ownBlock] at hq; omega
    have hfar2 : ∀ q, (Value.slice aos' r.st.length cps').ownBlock = some q → w.heap.size + 1 < q := fun q hq => by have := (RCH.out.sto.lt q hq).1; omega
    have R5 : RL w1.heap.size W5 r (.slice (some ⟨g, 0, none⟩) r.ps.length cpp') (.slice aos' r.st.length cps') := by
      rw [← hW5]; exact RCH.out.five hfar (fun q hq => by have := hfar2 q hq; omega) _ _ _ _ _
    have x5 : W5.heap[w.heap.size]? = some (.cells #[.int .i64 r.wd, .int .i64 r.ln, .slice (some ⟨g, 0, none⟩) r.ps.length cpp', .int .i64 r.fd, .slice aos' r.st.length cps'] 33 (0, 0)) := by
      rw [← hW5]; exact box_five bx2.out _ _ _ _ _
    have y5 : W5.heap[w.heap.size + 1]? = some (.cells #[.int .i64 0, .int .i64 0, .slice none 0 0, .int .i64 0, .slice none 0 0] 33 (0, 0)) := by
      rw [← hW5, five_cells _ _ _ _ _ _ _ _ (by omega)]; exact bz2.out
    have B5 : Below w.heap.size w W5 := by rw [← hW5]; exact below_five BCH.out (Nat.le_refl _) _ _ _ _ _
    -- the count of those that went back
    obtain ⟨W6, hW6⟩ : ∃ W6, W5.setCell ⟨w.heap.size, 3, none⟩ (.int .i64 ((r.fd : Int) + 1)) = W6 := ⟨_, rfl⟩
    have x6 : W6.heap[w.heap.size]? = some (.cells #[.int .i64 r.wd, .int .i64 r.ln, .slice (some ⟨g, 0, none⟩) r.ps.length cpp', .int .i64 ((r.fd : Int) + 1), .slice aos' r.st.length cps'] 33 (0, 0)) := by
      rw [← hW6, heap_setCell_same W5 _ 3 _ x5]; rfl
    have y6 : W6.heap[w.heap.size + 1]? = some (.cells #[.int .i64 0, .int .i64 0, .slice none 0 0, .int .i64 0, .slice none 0 0] 33 (0, 0)) := by
      rw [← hW6, Below.heap_setCell _ _ _ _ (by simp)]; exact y5
    have R6 : RL w1.heap.size W6 r (.slice (some ⟨g, 0, none⟩) r.ps.length cpp') (.slice aos' r.st.length cps') := by
      rw [← hW6]; exact R5.keep (fun q hq => Below.heap_setCell _ _ _ _ (hfar q hq)) (fun q hq => Below.heap_setCell _ _ _ _ (by have := hfar2 q hq; show q ≠ w.heap.size; omega)) (by simp)
    have B6 : Below w.heap.size w W6 := by rw [← hW6]; exact B5.setCell (Nat.le_refl _) _
    -- the piece
    obtain ⟨W8, hW8⟩ : ∃ W8, (W6.setCell ⟨g, j * 4 + 2, none⟩ (.bool true)).setCell ⟨g, j * 4 + 3, none⟩ (.int .i64 ((r.fd : Int) + 1)) = W8 := ⟨_, rfl⟩
    have R8 := hide (show RL w1.heap.size W8 (rFree r j q) (.slice (some ⟨g, 0, none⟩) r.ps.length cpp') (.slice aos' r.st.length cps') by
      rw [← hW8]; exact R6.freed rfl HQ.out hf)
    have x8 : W8.heap[w.heap.size]? = some (.cells #[.int .i64 r.wd, .int .i64 r.ln, .slice (some ⟨g, 0, none⟩) r.ps.length cpp', .int .i64 ((r.fd : Int) + 1), .slice aos' r.st.length cps'] 33 (0, 0)) := by
      rw [← hW8, Below.heap_setCell _ _ _ _ (Ne.symm hg1), Below.heap_setCell _ _ _ _ (Ne.symm hg1)]; exact x6
    have y8 : W8.heap[w.heap.size + 1]? = some (.cells #[.int .i64 0, .int .i64 0, .slice none 0 0, .int .i64 0, .slice none 0 0] 33 (0, 0)) := by
      rw [← hW8, Below.heap_setCell _ _ _ _ (Ne.symm hg2), Below.heap_setCell _ _ _ _ (Ne.symm hg2)]; exact y6
    have B8 := hide (show Below w.heap.size w W8 by rw [← hW8]; exact (B6.setCell (by show w.heap.size ≤ g; omega) _).setCell (by show w.heap.size ≤ g; omega) _)
    have HF1 := hide (show ∀ q, (Value.slice (some ⟨g, 0, none⟩) r.ps.length cpp').ownBlock = some q → (Value.slice aop r.ps.length cpp).ownBlock = some q ∨ w.heap.size ≤ q from fun q hq => by simp [Value.ownBlock] at hq; right; omega)
    have HF2 := hide (show ∀ q, (Value.slice aos' r.st.length cps').ownBlock = some q → (Value.slice aos r.st.length cps).ownBlock = some q ∨ w.heap.size ≤ q from fun q hq => by have := hfar2 q hq; right; omega)
    have HF3 := hide (show ∀ v1 v2 v3 v4 v5, RL B (((((W8.setCell ⟨w.heap.size + 1, 0, none⟩ v1).setCell ⟨w.heap.size + 1, 1, none⟩ v2).setCell ⟨w.heap.size + 1, 2, none⟩ v3).setCell ⟨w.heap.size + 1, 3, none⟩ v4).setCell ⟨w.heap.size + 1, 4, none⟩ v5).drew (rFree r j q) (.slice (some ⟨g, 0, none⟩) r.ps.length cpp') (.slice aos' r.st.length cps') from fun v1 v2 v3 v4 v5 =>
      (RL.five (b := w.heap.size + 1) (R8.out.mono (by have := HRB.out; omega)) (fun q hq => by simp [Value.ownBlock] at hq; omega) (fun q hq => by have := hfar2 q hq; omega) v1 v2 v3 v4 v5).drew)
    obtain ⟨p0, p1, p2, p3, p4, _, _, _, p5, _⟩ := box_cells x5
    obtain ⟨_, _, m2, m3, _⟩ := box_cells x6
    obtain ⟨g', cap', hvp', _, k1, k2, k3, k4, kf⟩ := R6.piece HQ.out
    obtain rfl : g = g' := by have := (Value.slice.inj hvp').1; cases this; rfl
    have kf2' := kf (j * 4 + 2)
    have kf3' := kf (j * 4 + 3)
    obtain ⟨x0, x1, x2, x3, x4, _⟩ := box_cells x8
    obtain ⟨y0, y1, y2, y3, y4, z0, z1, z2, z3, z4⟩ := box_cells y8
    clear hfar hfar2 x5 y5 x6 y6 x8 y8 c0 c1 c2 c3 c4 e0 e1 e2 e3 e4 hW5 bx2 bz2 R5 R6 B5 B6 RCH hvp' kf kf2 kf3 R8
    go_upto_region 6 with fail
    try rw [hW6]
    clear hW6 p0 p1 p2 p3 p4 p5
    go_upto_region 8 with fail
    try rw [hW8]
    clear hW8 m2 m3 k1 k2 k3 k4 kf2' kf3'
    go_region
    all_goals go_wp2
    all_goals exact bodyPost_ret (v := .tuple #[.int .i64 0, rv (rFree r j q) (.slice (some ⟨g, 0, none⟩) r.ps.length cpp') (.slice aos' r.st.length cps')]) (by simp [results, Try.results42, go_sem, y0, y1, y2, y3, y4, rFree]) rfl (.inr ⟨j, q, _, _, HO.out, HQ.out, rfl, ⟨HF3.out _ _ _ _ _, (below_five B8.out (Nat.le_succ _) _ _ _ _ _).drew, HF1.out, HF2.out⟩⟩)
end
end Go.Proofs.Ytimpmgbahgganaa

namespace Go.Proofs.Ytimpmgbahgganaa
open Go.RowKit Go.Maps

theorem clr_set {st : List Int} {o t : Nat} (h : o + t < st.length) : (clr st o t).set (o + t) 0 = clr st o (t + 1) := by
  apply List.ext_getElem?
  intro i
  rw [List.getElem?_set, clr_get (by omega), clr_get (by omega), clr_length (by omega)]
  by_cases h1 : o + t = i
  · subst h1; rw [if_pos rfl, if_pos h, if_pos (by omega)]
  · rw [if_neg h1]
    by_cases h2 : o ≤ i ∧ i < o + t
    · rw [if_pos h2, if_pos (by omega)]
    · rw [if_neg h2, if_neg (by omega)]
theorem clr_zero (st : List Int) (o : Nat) : clr st o 0 = st := by simp [clr]
section
variable {B : Nat} {r : Rs} {vp vs : Value} {w : World}
theorem RL.apart (R : RL B w r vp vs) {g : Nat} (hg : vp.ownBlock = some g) : ∀ j, vs.ownBlock = some j → j ≠ g := by
  intro j hj e
  rcases R.sto.2 with ⟨h1, _⟩ | ⟨g', cap', cur, h1, _, h2, _⟩
  · rw [h1] at hj; cases hj
  · rw [h1] at hj; cases hj
    rcases R.pcs.2 with ⟨h3, _⟩ | ⟨g2, cap2, cur2, h3, _, h4, _⟩
    · rw [h3] at hg; cases hg
    · rw [h3] at hg; cases hg; rw [show g' = g2 from e, h4] at h2; simp at h2
/-- A piece is given anew. -/
theorem RL.repl (R : RL B w r vp vs) {g cap b n : Nat} {q : Rp} (hv : vp = .slice (some ⟨g, 0, none⟩) r.ps.length cap) (hq : r.ps[b]? = some q) (hn : n ≤ 65536) :
    RL B ((((w.setCell ⟨g, b * 4, none⟩ (.int .i64 q.a)).setCell ⟨g, b * 4 + 1, none⟩ (.int .i64 n)).setCell ⟨g, b * 4 + 2, none⟩ (.bool false)).setCell ⟨g, b * 4 + 3, none⟩ (.int .i64 0)) { r with ps := r.ps.set b ⟨q.a, n, false, 0⟩ } vp vs := by
  have hap := R.apart (g := g) (by rw [hv]; rfl)
  subst hv
  refine ⟨?_, ownsRow_keep R.sto fun j hj => ?_, R.bw, R.bl, by show (r.ps.set b _).length ≤ _; rw [List.length_set]; exact R.bp, R.bs, R.bf, ?_, by simp; exact R.hB⟩
  · show World.ownsRow _ B 116 4 _ (r.ps.set b _).length (rcells (r.ps.set b ⟨q.a, n, false, 0⟩))
    rw [List.length_set, rcells_set _ (get_lt hq)]
    exact row_setS (row_setS (row_setS (row_setS R.pcs _) _) _) _
  · have hne := hap j hj
    rw [Below.heap_setCell _ _ _ _ hne, Below.heap_setCell _ _ _ _ hne, Below.heap_setCell _ _ _ _ hne, Below.heap_setCell _ _ _ _ hne]
  · intro j p hp
    have hp2 : (r.ps.set b ⟨q.a, n, false, 0⟩)[j]? = some p := hp
    rw [List.getElem?_set] at hp2
    split at hp2
    · split at hp2
      · cases hp2
        obtain ⟨a, _, _⟩ := R.ba b q hq
        exact ⟨a, hn, Nat.zero_le _⟩
      · cases hp2
    · exact R.ba j p hp2
theorem four_cells (w : World) (b j o : Nat) (v1 v2 v3 v4 : Value) (h2 : j ≠ b) :
    ((((w.setCell ⟨b, o, none⟩ v1).setCell ⟨b, o + 1, none⟩ v2).setCell ⟨b, o + 2, none⟩ v3).setCell ⟨b, o + 3, none⟩ v4).heap[j]? = w.heap[j]? := by
  rw [Below.heap_setCell _ _ _ _ h2, Below.heap_setCell _ _ _ _ h2, Below.heap_setCell _ _ _ _ h2, Below.heap_setCell _ _ _ _ h2]
/-- A word of the store is emptied. -/
theorem RL.zero {a t g cap : Nat} (R : RL B w { r with st := clr r.st a t } vp vs) (hv : vs = .slice (some ⟨g, 0, none⟩) r.st.length cap) (h : a + t < r.st.length) : RL B (w.setCell ⟨g, a + t, none⟩ (.int .i64 0)) { r with st := clr r.st a (t + 1) } vp vs := by
  have h1 := R.set (m := a + t) (g := g) (cap := cap) (by rw [hv]; show _ = Value.slice _ (clr r.st a t).length _; rw [clr_length (by omega)]) 0
  have e : rSet { r with st := clr r.st a t } (a + t) 0 = { r with st := clr r.st a (t + 1) } := by
    unfold rSet
    rw [← clr_set h]
  rw [e] at h1
  exact h1
end
end Go.Proofs.Ytimpmgbahgganaa

namespace Go.Proofs.Ytimpmgbahgganaa
open Go.RowKit Go.Maps

section
variable {B : Nat} {r : Rs} {vp vs : Value} {w : World}
/-- A piece more, at the line. -/
def rMore (r : Rs) (c n : Nat) : Rs := { r with ln := r.ln + c, ps := r.ps ++ [⟨r.ln, n, false, 0⟩] }
theorem RL.grow (R : RL B w r vp vs) {c : Nat} (hl : r.ln + c ≤ 65537) (hp : r.ps.length < 65536) (H : Nat) (hH : w.heap.size = H) :
    ∃ g cap w4, (Builtin.append_ #[30, 30] 30 #[vp, .slice (some ⟨H, 0, none⟩) 1 1]).run Try.prog (w.alloc (.cells #[.int .i64 r.ln, .int .i64 0, .bool false, .int .i64 0] 116)) = .ok (.slice (some ⟨g, 0, none⟩) (r.ps.length + 1) cap) w4 ∧
      RL B w4 (rMore r c 0) (.slice (some ⟨g, 0, none⟩) (r.ps.length + 1) cap) vs ∧ (w.alloc (.cells #[.int .i64 r.ln, .int .i64 0, .bool false, .int .i64 0] 116)).grownBy w4 vp.ownBlock ∧ (vp.ownBlock = some g ∨ g = H + 1) ∧ g < w4.heap.size := by
  subst hH
  obtain ⟨i0, hi, hz0, hz1, hz2⟩ := info_parts Try.info116
  have hB := R.hB
  have Ra := R.alloc (.cells #[.int .i64 r.ln, .int .i64 0, .bool false, .int .i64 0] 116)
  have hnb : (w.alloc (.cells #[.int .i64 r.ln, .int .i64 0, .bool false, .int .i64 0] 116)).heap[w.heap.size]? = some (.cells #[.int .i64 r.ln, .int .i64 0, .bool false, .int .i64 0] 116 (0, 0)) := heap_new _ _ rfl
  obtain ⟨g, cap, w4, hrun, hown, hgrow, hat, hlt⟩ := run_append_lies (P := Try.prog) (w.alloc (.cells #[.int .i64 r.ln, .int .i64 0, .bool false, .int .i64 0] 116)) 30 30 B 116 i0 _ 4 32 Try.underlying30 hi hz0 hz1 hz2 rfl (by decide) vp _ _ Ra.pcs ⟨w.heap.size, 0, none⟩ 1 1 [.int .i64 r.ln, .int .i64 0, .bool false, .int .i64 0] rfl (World.news_of_block hnb)
    (by intro u hu; simp at hu; rcases hu with rfl | rfl | rfl | rfl <;> rfl) (by decide) (by unfold maxLen; omega) (by omega) (by simp; omega) (w.heap.size + 1) (by simp)
  refine ⟨g, cap, w4, hrun, ⟨?_, ownsRow_keep R.sto fun j hj => ?_, R.bw, hl, by simp [rMore]; omega, R.bs, R.bf, ?_, ?_⟩, hgrow, hat, hlt⟩
  · have e : rcells (rMore r c 0).ps = rcells r.ps ++ [.int .i64 r.ln, .int .i64 0, .bool false, .int .i64 0] := by
      show rcells (r.ps ++ [_]) = _; rw [rcells_append]; rfl
    have e2 : (rMore r c 0).ps.length = r.ps.length + 1 := by simp [rMore]
    rw [e, e2]; exact hown
  · rw [hgrow.block j (by have := (R.sto.lt j hj).2; simp; omega) (fun e => R.apart e.symm j hj rfl), Below.heap_alloc _ _ _ (R.sto.lt j hj).2]
  · intro i p h
    have h2 : (r.ps ++ [(⟨r.ln, 0, false, 0⟩ : Rp)])[i]? = some p := h
    rw [List.getElem?_append] at h2
    split at h2
    · exact R.ba i p h2
    · have h3 := List.mem_of_getElem? h2
      simp at h3; subst h3
      have := R.bl
      exact ⟨by show r.ln ≤ _; omega, by simp, by simp⟩
  · have := hgrow.size; simp at this; omega
theorem RL.reset {g cap c n : Nat} (R : RL B w (rMore r c 0) (.slice (some ⟨g, 0, none⟩) (r.ps.length + 1) cap) vs) (hn : n ≤ 65536) :
    RL B ((((w.setCell ⟨g, r.ps.length * 4, none⟩ (.int .i64 r.ln)).setCell ⟨g, r.ps.length * 4 + 1, none⟩ (.int .i64 n)).setCell ⟨g, r.ps.length * 4 + 2, none⟩ (.bool false)).setCell ⟨g, r.ps.length * 4 + 3, none⟩ (.int .i64 0)) (rMore r c n) (.slice (some ⟨g, 0, none⟩) (r.ps.length + 1) cap) vs := by
  have h := R.repl (g := g) (cap := cap) (b := r.ps.length) (n := n) (q := ⟨r.ln, 0, false, 0⟩) (by simp [rMore]) (by simp [rMore]) hn
  have e : ({ rMore r c 0 with ps := (rMore r c 0).ps.set r.ps.length ⟨r.ln, n, false, 0⟩ } : Rs) = rMore r c n := by simp [rMore]
  rw [e] at h
  exact h
end
end Go.Proofs.Ytimpmgbahgganaa

namespace Go.Proofs.Ytimpmgbahgganaa
open Go.RowKit Go.Maps

/-- Of the first j pieces of a class that went back the one that went back last. -/
def BestTo (ps : List Rp) (c j : Nat) : Option Nat → Prop
  | some b => ∃ p, ps[b]? = some p ∧ b < j ∧ p.f = true ∧ clsN p.n = c ∧ ∀ (i : Nat) (q : Rp), i < j → ps[i]? = some q → q.f = true → clsN q.n = c → q.t ≤ p.t
  | none => ∀ (i : Nat) (q : Rp), i < j → ps[i]? = some q → ¬ (q.f = true ∧ clsN q.n = c)
def bI : Option Nat → Int
  | some b => b
  | none => -1
theorem best_skip {ps : List Rp} {c j : Nat} {o : Option Nat} {p : Rp} (h : BestTo ps c j o) (hp : ps[j]? = some p) (hn : ¬ (p.f = true ∧ clsN p.n = c)) : BestTo ps c (j + 1) o := by
  cases o with
  | none =>
    intro i q hi hq
    rcases Nat.lt_or_ge i j with h1 | h1
    · exact h i q h1 hq
    · obtain rfl : i = j := by omega
      rw [hp] at hq; cases hq; exact hn
  | some b =>
    obtain ⟨q, h1, h2, h3, h4, h5⟩ := h
    refine ⟨q, h1, by omega, h3, h4, fun i q' hi hq' hf hc => ?_⟩
    rcases Nat.lt_or_ge i j with g | g
    · exact h5 i q' g hq' hf hc
    · obtain rfl : i = j := by omega
      rw [hp] at hq'; cases hq'; exact absurd ⟨hf, hc⟩ hn
theorem best_take {ps : List Rp} {c j : Nat} {o : Option Nat} {p : Rp} (h : BestTo ps c j o) (hp : ps[j]? = some p) (hf : p.f = true) (hc : clsN p.n = c) (ht : ∀ b q, o = some b → ps[b]? = some q → q.t ≤ p.t) : BestTo ps c (j + 1) (some j) := by
  refine ⟨p, hp, by omega, hf, hc, fun i q hi hq hf' hc' => ?_⟩
  rcases Nat.lt_or_ge i j with g | g
  · cases o with
    | none => exact absurd ⟨hf', hc'⟩ (h i q g hq)
    | some b =>
      obtain ⟨q', h1, h2, h3, h4, h5⟩ := h
      exact Nat.le_trans (h5 i q g hq hf' hc') (ht b q' rfl h1)
  · obtain rfl : i = j := by omega
    rw [hp] at hq; cases hq; exact Nat.le_refl _
theorem best_leave {ps : List Rp} {c j b : Nat} {p q : Rp} (h : BestTo ps c j (some b)) (hp : ps[j]? = some p) (hq : ps[b]? = some q) (ht : p.t ≤ q.t) : BestTo ps c (j + 1) (some b) := by
  obtain ⟨q', h1, h2, h3, h4, h5⟩ := h
  rw [hq] at h1; cases h1
  refine ⟨q, hq, by omega, h3, h4, fun i q' hi hq' hf hc => ?_⟩
  rcases Nat.lt_or_ge i j with g | g
  · exact h5 i q' g hq' hf hc
  · obtain rfl : i = j := by omega
    rw [hp] at hq'; cases hq'; exact ht
theorem best_all {ps : List Rp} {c : Nat} {o : Option Nat} (h : BestTo ps c ps.length o) : BestR ps c o := by
  cases o with
  | none => exact fun i q hq => h i q (get_lt hq) hq
  | some b =>
    obtain ⟨p, h1, _, h3, h4, h5⟩ := h
    exact ⟨p, h1, h3, h4, fun i q hq hf hc => h5 i q (get_lt hq) hq hf hc⟩
section
variable {B : Nat} {r : Rs} {vp vs : Value} {w : World}
theorem RL.drewN (R : RL B w r vp vs) (q : Nat) : RL B (w.drewN q) r vp vs := R.keep (fun _ _ => rfl) (fun _ _ => rfl) (Nat.le_refl _)
theorem heap_drewN (w : World) (q j : Nat) : (w.drewN q).heap[j]? = w.heap[j]? := rfl
/-- What the document's Alloc answers. -/
inductive RAlloc (B : Nat) (w : World) (r : Rs) (vp vs : Value) (n : Int) (e : Ending) (w' : World) : Prop where
  | arg (h : clsN n.toNat = 0) (he : e = .returned (.tuple #[.int .i64 0, .int .i64 1, rv r vp vs])) (hb : Below w.heap.size w w')
  | full (h : clsN n.toNat ≠ 0) (hbest : BestR r.ps (clsN n.toNat) none) (hroom : r.wd < r.ln + clsN n.toNat - 1) (he : e = .returned (.tuple #[.int .i64 0, .int .i64 7, rv r vp vs])) (hb : Below w.heap.size w w')
  | again (b : Nat) (q : Rp) (vp' vs' : Value) (h : clsN n.toNat ≠ 0) (hbest : BestR r.ps (clsN n.toNat) (some b)) (hq : r.ps[b]? = some q) (he : e = .returned (.tuple #[.int .i64 q.a, .int .i64 0, rv (rAgain r b q.a n.toNat) vp' vs'])) (ho : ROut B w vp vs (rAgain r b q.a n.toNat) vp' vs' w')
  | cut (vp' vs' : Value) (h : clsN n.toNat ≠ 0) (hbest : BestR r.ps (clsN n.toNat) none) (hroom : ¬ r.wd < r.ln + clsN n.toNat - 1) (he : e = .returned (.tuple #[.int .i64 r.ln, .int .i64 0, rv (rCut r (clsN n.toNat) n.toNat) vp' vs'])) (ho : ROut B w vp vs (rCut r (clsN n.toNat) n.toNat) vp' vs' w')
theorem ralloc_again {m c b : Nat} {q : Rp} {vp' vs' : Value} {w' : World} (hcg : clsN m = c) (h : c ≠ 0) (hbest : BestR r.ps c (some b)) (hq : r.ps[b]? = some q) (RR : RL B w' { { r with ps := r.ps.set b ⟨q.a, m, false, 0⟩ } with st := clr r.st q.a m } vp' vs') (hb : Below w.heap.size w w') (fp : ∀ g, vp'.ownBlock = some g → vp.ownBlock = some g ∨ w.heap.size ≤ g) (fs : ∀ g, vs'.ownBlock = some g → vs.ownBlock = some g ∨ w.heap.size ≤ g) :
    RAlloc B w r vp vs (m : Int) (.returned (.tuple #[.int .i64 q.a, .int .i64 0, rv (rAgain r b q.a m) vp' vs'])) w' := by
  have e : ((m : Int)).toNat = m := Int.toNat_natCast m
  exact .again b q vp' vs' (by rw [e, hcg]; exact h) (by rw [e, hcg]; exact hbest) hq (by rw [e]) (by rw [e]; exact ⟨RR, hb, fp, fs⟩)
theorem ralloc_cut {m c : Nat} {vp' vs' : Value} {w' : World} (hcg : clsN m = c) (h : c ≠ 0) (hbest : BestR r.ps c none) (hroom : ¬ r.wd < r.ln + c - 1) (RR : RL B w' { { r with ln := r.ln + c, ps := r.ps ++ [(⟨r.ln, m, false, 0⟩ : Rp)] } with st := clr r.st r.ln m } vp' vs') (hb : Below w.heap.size w w') (fp : ∀ g, vp'.ownBlock = some g → vp.ownBlock = some g ∨ w.heap.size ≤ g) (fs : ∀ g, vs'.ownBlock = some g → vs.ownBlock = some g ∨ w.heap.size ≤ g) :
    RAlloc B w r vp vs (m : Int) (.returned (.tuple #[.int .i64 r.ln, .int .i64 0, rv (rCut r c m) vp' vs'])) w' := by
  have e : ((m : Int)).toNat = m := Int.toNat_natCast m
  exact .cut vp' vs' (by rw [e, hcg]; exact h) (by rw [e, hcg]; exact hbest) (by rw [e, hcg]; exact hroom) (by rw [e, hcg]) (by rw [e, hcg]; exact ⟨RR, hb, fp, fs⟩)
set_option maxRecDepth 100000 in
set_option maxHeartbeats 8000000 in
theorem ralloc_any (n : Int) (R : RL B w r vp vs) (hf1 : ∀ b q, BestR r.ps (clsN n.toNat) (some b) → r.ps[b]? = some q → 1 ≤ q.a ∧ q.a + n.toNat ≤ r.st.length) (hf2 : clsN n.toNat ≠ 0 → ¬ r.wd < r.ln + clsN n.toNat - 1 → 1 ≤ r.ln ∧ r.ln + n.toNat ≤ r.st.length ∧ r.ps.length < 65536) :
    Calls Try.prog 29 #[rv r vp vs, .int .i64 n] w fun e w' => RAlloc B w r vp vs n e w' := by
  obtain ⟨aop, cpp, rfl⟩ := R.pform
  obtain ⟨aos, cps, rfl⟩ := R.sform
  obtain ⟨W1, hW1⟩ : ∃ W1, (w.alloc (.cells #[.int .i64 r.wd, .int .i64 r.ln, .slice aop r.ps.length cpp, .int .i64 r.fd, .slice aos r.st.length cps] 33)).alloc (.cells #[.int .i64 0, .int .i64 0, .slice none 0 0, .int .i64 0, .slice none 0 0] 33) = W1 := ⟨_, rfl⟩
  have z1 : W1.heap.size = w.heap.size + 1 + 1 := by rw [← hW1]; simp
  have HB := hide (show Below w.heap.size w W1 by rw [← hW1]; exact ((Below.refl _ _).alloc (Nat.le_refl _) _).alloc (by simp) _)
  have R1 := hide (R.below HB.out)
  have bx := hide (show W1.heap[w.heap.size]? = some (.cells #[.int .i64 r.wd, .int .i64 r.ln, .slice aop r.ps.length cpp, .int .i64 r.fd, .slice aos r.st.length cps] 33 (0, 0)) by rw [← hW1, Below.heap_alloc _ _ _ (by simp), heap_new _ _ rfl])
  have bz := hide (show W1.heap[w.heap.size + 1]? = some (.cells #[.int .i64 0, .int .i64 0, .slice none 0 0, .int .i64 0, .slice none 0 0] 33 (0, 0)) by rw [← hW1, heap_new _ _ (by simp)])
  have hc := rclass_any n W1
  have RH := hide R
  have HF1 := hide hf1
  have HF2 := hide hf2
  have Z1 := hide z1
  clear R hf1 hf2 z1
  go_enter Try.func29, Try.ntmps29
  go_wp2_with fail
  refine hc.mono ?_
  rintro e w1 ⟨rfl, rfl⟩
  clear hc hW1
  by_cases hcz : clsN n.toNat = 0
  · have e1 : ((clsN n.toNat : Int) == 0) = true := by simp [hcz]
    have HC := hide hcz
    obtain ⟨c0, c1, c2, c3, c4, _⟩ := box_cells bx.out
    obtain ⟨d0, d1, d2, d3, d4, f0, f1, f2, f3, f4⟩ := box_cells bz.out
    clear hcz
    go_wp2
    go_region
    all_goals go_wp2
    all_goals exact bodyPost_ret (v := .tuple #[.int .i64 0, .int .i64 1, rv r (.slice aop r.ps.length cpp) (.slice aos r.st.length cps)]) (by simp [results, Try.results29, go_sem, d0, d1, d2, d3, d4]) rfl (.arg HC.out rfl (below_five HB.out (Nat.le_succ _) _ _ _ _ _).drew)
  · have e1 : ((clsN n.toNat : Int) == 0) = false := by simp; omega
    obtain ⟨hn1, hn2⟩ := cls_pos hcz
    obtain ⟨m, rfl⟩ := Int.eq_ofNat_of_zero_le (show 0 ≤ n by omega)
    rw [Int.toNat_natCast] at *
    have HCN := hide hcz
    have hcl := cls_le hn1 hn2
    generalize hcg : clsN m = c at *
    have HCG := hide hcg
    clear hcz hcg
    have hlen := RH.out.bp
    have Z := hide (show w.heap.size + 1 < w1.heap.size by rw [Z1.out]; omega)
    clear Z1
    go_wp2
    go_loopw [8, 9] (fun bv iv wr => ∃ (j : Nat) (o : Option Nat), j ≤ r.ps.length ∧ iv = .int .i64 j ∧ bv = .int .i64 (bI o) ∧ Hid (BestTo r.ps c j o) ∧ Hid (RL B wr r (.slice aop r.ps.length cpp) (.slice aos r.st.length cps)) ∧ Hid (Below w.heap.size w wr) ∧ Hid (wr.heap[w.heap.size]? = some (.cells #[.int .i64 r.wd, .int .i64 r.ln, .slice aop r.ps.length cpp, .int .i64 r.fd, .slice aos r.st.length cps] 33 (0, 0))) ∧ Hid (wr.heap[w.heap.size + 1]? = some (.cells #[.int .i64 0, .int .i64 0, .slice none 0 0, .int .i64 0, .slice none 0 0] 33 (0, 0))) ∧ Hid (w.heap.size + 1 < wr.heap.size)) (fun _ iv _ => r.ps.length - (intOf iv).toNat)
    case atStart => exact ⟨0, none, Nat.zero_le _, rfl, rfl, fun i q h => absurd h (Nat.not_lt_zero _), R1, HB, bx, bz, Z⟩
    case round =>
      obtain ⟨j, o, hj, rfl, rfl, bt, RR, BB, bx, bz, Z⟩ := hrel
      clear R1 HB
      obtain ⟨c0, c1, c2, c3, c4, ff0, ff1, ff2, ff3, ff4⟩ := box_cells bx.out
      by_cases hlt : j < r.ps.length
      · skip
        obtain ⟨p, hp⟩ : ∃ p, r.ps[j]? = some p := ⟨r.ps[j], by simp⟩
        obtain ⟨g, cap, hv, hg, k1, k2, k3, k4, _⟩ := RR.out.piece hp
        obtain ⟨ba1, ba2, ba3⟩ := RR.out.ba j p hp
        obtain rfl : aop = some ⟨g, 0, none⟩ := (Value.slice.inj hv).1
        have bj : (j : Int) < (r.ps.length : Int) := by omega
        have dj : decide ((j : Int) < (r.ps.length : Int)) = true := by simp; omega
        have HP := hide hp
        have zz := Z.out
        have zz0 : w.heap.size < wr.heap.size := by omega
        have hcl2 := fun w' => rclass_any (p.n : Int) w'
        simp only [Int.toNat_natCast] at hcl2
        have fin : Hid (∀ (ob : Obj) (q : Nat), Hid (RL B ((wr.alloc ob).drewN q) r (.slice (some ⟨g, 0, none⟩) r.ps.length cpp) (.slice aos r.st.length cps)) ∧ Hid (Below w.heap.size w ((wr.alloc ob).drewN q)) ∧ Hid (((wr.alloc ob).drewN q).heap[w.heap.size]? = some (.cells #[.int .i64 r.wd, .int .i64 r.ln, .slice (some ⟨g, 0, none⟩) r.ps.length cpp, .int .i64 r.fd, .slice aos r.st.length cps] 33 (0, 0))) ∧ Hid (((wr.alloc ob).drewN q).heap[w.heap.size + 1]? = some (.cells #[.int .i64 0, .int .i64 0, .slice none 0 0, .int .i64 0, .slice none 0 0] 33 (0, 0))) ∧ Hid (w.heap.size + 1 < ((wr.alloc ob).drewN q).heap.size)) := fun ob q =>
          ⟨(RR.out.alloc ob).drewN q, below_drewN (BB.out.alloc (by omega) ob) q, (heap_drewN _ _ _).trans ((Below.heap_alloc wr ob _ (by omega)).trans bx.out), (heap_drewN _ _ _).trans ((Below.heap_alloc wr ob _ (by omega)).trans bz.out), by show w.heap.size + 1 < (wr.alloc ob).heap.size; rw [World.size_alloc]; omega⟩
        clear hv hp
        cases hf : p.f with
        | false =>
          rw [hf] at k3
          have HS := hide (best_skip bt.out HP.out (fun h => by rw [hf] at h; cases h.1))
          clear hf
          go_wp2
          go_quiet (fail)
          go_wp2
          go_roundw
          case rel => exact ⟨j + 1, o, by omega, by go_num, rfl, HS, (fin.out _ _).1, (fin.out _ _).2.1, (fin.out _ _).2.2.1, (fin.out _ _).2.2.2.1, (fin.out _ _).2.2.2.2⟩
          case measure => simp [intOf]; omega
        | true =>
          rw [hf] at k3
          by_cases hcc : clsN p.n = c
          · rw [hcc] at hcl2
            have ec : ((c : Int) == (c : Int)) = true := by simp
            cases o with
            | none =>
              have HS := hide (best_take bt.out HP.out hf hcc (fun b q h => by cases h))
              have hb0 : bI none = -1 := rfl
              rw [hb0]
              clear hf hcc hb0
              go_wp2
              go_quiet ((go_at_call 52; exact Calls.quiet_of_same (hcl2 _)))
              go_wp2
              go_roundw
              case rel => exact ⟨j + 1, some j, by omega, by go_num, rfl, HS, (fin.out _ _).1, (fin.out _ _).2.1, (fin.out _ _).2.2.1, (fin.out _ _).2.2.2.1, (fin.out _ _).2.2.2.2⟩
              case measure => simp [intOf]; omega
            | some b =>
              have hb0 : bI (some b) = (b : Int) := rfl
              rw [hb0]
              clear hb0
              obtain ⟨q, hq, hbj, _, _, _⟩ := id bt.out
              obtain ⟨g2, cap2, hv2, _, m1, m2, m3, m4, _⟩ := RR.out.piece hq
              obtain rfl : g = g2 := by have := (Value.slice.inj hv2).1; cases this; rfl
              have bb : (b : Int) < (r.ps.length : Int) := by omega
              have eb : decide ((b : Int) < 0) = false := by simp
              have HQ := hide hq
              clear hv2 hq
              by_cases htt : q.t < p.t
              · have et : decide ((q.t : Int) < (p.t : Int)) = true := by simp; omega
                have HS := hide (best_take bt.out HP.out hf hcc (fun b' q' h h' => by cases h; rw [HQ.out] at h'; cases h'; omega))
                clear hf hcc
                go_wp2
                go_quiet ((go_at_call 52; exact Calls.quiet_of_same (hcl2 _)))
                go_wp2
                go_roundw
                case rel => exact ⟨j + 1, some j, by omega, by go_num, rfl, HS, (fin.out _ _).1, (fin.out _ _).2.1, (fin.out _ _).2.2.1, (fin.out _ _).2.2.2.1, (fin.out _ _).2.2.2.2⟩
                case measure => simp [intOf]; omega
              · have et : decide ((q.t : Int) < (p.t : Int)) = false := by simp; omega
                have HS := hide (best_leave bt.out HP.out HQ.out (by omega))
                clear hf hcc
                go_wp2
                go_quiet ((go_at_call 52; exact Calls.quiet_of_same (hcl2 _)))
                go_wp2
                go_roundw
                case rel => exact ⟨j + 1, some b, by omega, by go_num, rfl, HS, (fin.out _ _).1, (fin.out _ _).2.1, (fin.out _ _).2.2.1, (fin.out _ _).2.2.2.1, (fin.out _ _).2.2.2.2⟩
                case measure => simp [intOf]; omega
          · have ec : ((clsN p.n : Int) == (c : Int)) = false := by simp; omega
            have HS := hide (best_skip bt.out HP.out (fun h => hcc h.2))
            clear hf hcc
            generalize clsN p.n = cp at *
            go_wp2
            go_quiet ((go_at_call 52; exact Calls.quiet_of_same (hcl2 _)))
            go_wp2
            go_roundw
            case rel => exact ⟨j + 1, o, by omega, by go_num, rfl, HS, (fin.out _ _).1, (fin.out _ _).2.1, (fin.out _ _).2.2.1, (fin.out _ _).2.2.2.1, (fin.out _ _).2.2.2.2⟩
            case measure => simp [intOf]; omega
      · obtain rfl : j = r.ps.length := by omega
        have BT := hide (best_all bt.out)
        clear bt
        obtain ⟨d0, d1, d2, d3, d4, f0, f1, f2, f3, f4⟩ := box_cells bz.out
        have hbl := RH.out.bl
        have hbw := RH.out.bw
        have bl1 : (r.ln : Int) ≤ 65537 := by omega
        have bw1 : (r.wd : Int) ≤ 65536 := by omega
        have bc1 : (c : Int) ≤ 65536 := by omega
        have bc0 : 1 ≤ (c : Int) := by omega
        cases o with
        | none =>
          have hb0 : bI none = -1 := rfl
          rw [hb0]
          clear hb0
          by_cases hroom : r.wd < r.ln + c - 1
          · skip
            have e3 : decide ((r.wd : Int) < (r.ln : Int) + c - 1) = true := by simp; omega
            have HRM := hide hroom
            clear hroom
            go_wp2
            go_region
            all_goals go_wp2
            all_goals exact bodyPost_ret (v := .tuple #[.int .i64 0, .int .i64 7, rv r (.slice aop r.ps.length cpp) (.slice aos r.st.length cps)]) (by simp [results, Try.results29, go_sem, d0, d1, d2, d3, d4]) rfl (.full (by rw [Int.toNat_natCast, HCG.out]; exact HCN.out) (by rw [Int.toNat_natCast, HCG.out]; exact BT.out) (by rw [Int.toNat_natCast, HCG.out]; exact HRM.out) rfl (below_five BB.out (Nat.le_succ _) _ _ _ _ _).drew)
          · skip
            have e3 : decide ((r.wd : Int) < (r.ln : Int) + c - 1) = false := by simp; omega
            have HRM := hide hroom
            have hroom2 : r.ln + c ≤ 65537 := by omega
            obtain ⟨hqa, hfit, hpl⟩ := HF2.out HCN.out hroom
            have hc := rcopied_any RR.out
            have zz := Z.out
            clear hroom
            go_wp2_with fail
            refine hc.mono ?_
            rintro e w2 ⟨vp', vs', rfl, RC, bc⟩
            clear hc
            obtain ⟨aop', cpp', rfl⟩ := RC.pform
            obtain ⟨aos', cps', rfl⟩ := RC.sform
            obtain ⟨gs, caps, hvs, _, _, _⟩ := row_cell RC.sto (ints_get (j := 0) (a := r.st[0]'(by omega)) (by simp))
            obtain rfl : aos' = some ⟨gs, 0, none⟩ := (Value.slice.inj hvs).1
            have hgl := hide (show ∀ g, (Value.slice aop' r.ps.length cpp').ownBlock = some g → wr.heap.size ≤ g ∧ g < w2.heap.size from fun g hg => RC.pcs.lt g hg)
            have hga := hide (show ∀ g, (Value.slice aop' r.ps.length cpp').ownBlock = some g → gs ≠ g from fun g hg => RC.apart hg gs rfl)
            have hgs2 := (RC.sto.lt gs rfl)
            have zz2 := bc.size
            have bx2 := hide ((bc.block w.heap.size (by omega)).trans bx.out)
            have bz2 := hide ((bc.block (w.heap.size + 1) (by omega)).trans bz.out)
            have RCH := hide RC
            have BCH := hide (BB.out.trans (bc.mono (by omega)))
            have hs1 : gs ≠ w.heap.size := by omega
            have hs2 : gs ≠ w.heap.size + 1 := by omega
            clear hvs RR BB bx bz RC bc c0 c1 c2 c3 c4 ff0 ff1 ff2 ff3 ff4 d0 d1 d2 d3 d4 f0 f1 f2 f3 f4
            obtain ⟨c0, c1, c2, c3, c4, e0, e1', e2, e3', e4⟩ := box_cells bx2.out
            go_upto_region 14 with fail
            obtain ⟨W5, hW5⟩ : ∃ W5, ((((w2.setCell ⟨w.heap.size, 0, none⟩ (.int .i64 r.wd)).setCell ⟨w.heap.size, 1, none⟩ (.int .i64 r.ln)).setCell ⟨w.heap.size, 2, none⟩ (.slice aop' r.ps.length cpp')).setCell ⟨w.heap.size, 3, none⟩ (.int .i64 r.fd)).setCell ⟨w.heap.size, 4, none⟩ (.slice (some ⟨gs, 0, none⟩) r.st.length cps') = W5 := ⟨_, rfl⟩
            have z5 : W5.heap.size = w2.heap.size := by rw [← hW5]; simp
            rw [hW5]
            have R5 : RL wr.heap.size W5 r (.slice aop' r.ps.length cpp') (.slice (some ⟨gs, 0, none⟩) r.st.length cps') := by
              rw [← hW5]; exact RCH.out.five (fun q hq => by have := hgl.out q hq; omega) (fun q hq => by simp [Value.ownBlock] at hq; omega) _ _ _ _ _
            have x5 : W5.heap[w.heap.size]? = some (.cells #[.int .i64 r.wd, .int .i64 r.ln, .slice aop' r.ps.length cpp', .int .i64 r.fd, .slice (some ⟨gs, 0, none⟩) r.st.length cps'] 33 (0, 0)) := by
              rw [← hW5]; exact box_five bx2.out _ _ _ _ _
            have y5 : W5.heap[w.heap.size + 1]? = some (.cells #[.int .i64 0, .int .i64 0, .slice none 0 0, .int .i64 0, .slice none 0 0] 33 (0, 0)) := by
              rw [← hW5, five_cells _ _ _ _ _ _ _ _ (by omega)]; exact bz2.out
            have B5 : Below w.heap.size w W5 := by rw [← hW5]; exact below_five BCH.out (Nat.le_refl _) _ _ _ _ _
            clear c0 c1 c2 c3 c4 e0 e1' e2 e3' e4 hW5 bx2 bz2 RCH BCH
            obtain ⟨g, cap, w4, hrun, R4, hgr, hat, hlt⟩ := R5.grow hroom2 hpl w2.heap.size z5
            have hg4 : wr.heap.size ≤ g := by
              rcases hat with h | h
              · exact (hgl.out g h).1
              · omega
            have hfar : ∀ k, k < wr.heap.size → w4.heap[k]? = W5.heap[k]? := fun k hk => (hgr.block k (by simp; omega) (fun e => by have := hgl.out _ e.symm; omega)).trans (Below.heap_alloc _ _ _ (by omega))
            have x4 := (hfar w.heap.size (by omega)).trans x5
            have y4 := (hfar (w.heap.size + 1) (by omega)).trans y5
            have B4 : Below w.heap.size w w4 := B5.trans ⟨hgr.os, hgr.tape, hgr.output, by have := hgr.size; simp at this; omega, fun k hk => hfar k (by omega)⟩
            have hg1 : g ≠ w.heap.size := by omega
            have hg2 : g ≠ w.heap.size + 1 := by omega
            obtain ⟨W6, hW6⟩ : ∃ W6, (w4.setCell ⟨w.heap.size, 2, none⟩ (.slice (some ⟨g, 0, none⟩) (r.ps.length + 1) cap)).setCell ⟨w.heap.size, 1, none⟩ (.int .i64 ((r.ln : Int) + c)) = W6 := ⟨_, rfl⟩
            have R6 : RL wr.heap.size W6 (rMore r c 0) (.slice (some ⟨g, 0, none⟩) (r.ps.length + 1) cap) (.slice (some ⟨gs, 0, none⟩) r.st.length cps') := by
              rw [← hW6]
              exact R4.keep (fun j hj => by simp [Value.ownBlock] at hj; rw [Below.heap_setCell _ _ _ _ (show j ≠ w.heap.size by omega), Below.heap_setCell _ _ _ _ (show j ≠ w.heap.size by omega)]) (fun j hj => by simp [Value.ownBlock] at hj; rw [Below.heap_setCell _ _ _ _ (show j ≠ w.heap.size by omega), Below.heap_setCell _ _ _ _ (show j ≠ w.heap.size by omega)]) (by simp)
            have x6 : W6.heap[w.heap.size]? = some (.cells #[.int .i64 r.wd, .int .i64 ((r.ln : Int) + c), .slice (some ⟨g, 0, none⟩) (r.ps.length + 1) cap, .int .i64 r.fd, .slice (some ⟨gs, 0, none⟩) r.st.length cps'] 33 (0, 0)) := by
              rw [← hW6]; exact (heap_setCell_same _ w.heap.size 1 _ (heap_setCell_same w4 w.heap.size 2 _ x4)).trans rfl
            have y6 : W6.heap[w.heap.size + 1]? = some (.cells #[.int .i64 0, .int .i64 0, .slice none 0 0, .int .i64 0, .slice none 0 0] 33 (0, 0)) := by
              rw [← hW6, Below.heap_setCell _ _ _ _ (show w.heap.size + 1 ≠ w.heap.size by omega), Below.heap_setCell _ _ _ _ (show w.heap.size + 1 ≠ w.heap.size by omega)]; exact y4
            have B6 : Below w.heap.size w W6 := by rw [← hW6]; exact (B4.setCell (Nat.le_refl _) _).setCell (Nat.le_refl _) _
            obtain ⟨c0, c1, c2, c3, c4, e0, e1', e2, e3', e4⟩ := box_cells x4
            obtain ⟨u0, u1, u2, u3, u4, _⟩ := box_cells x5
            have HW6 := hide hW6
            have X6 := hide x6
            have Y6 := hide y6
            have R6H := hide R6
            have B6H := hide B6
            have bln : (r.ln : Int) + c ≤ 65537 := by omega
            clear x4 y4 B4 R4 hgr hat hfar x5 y5 R5 B5 hlt x6 y6 R6 B6 hW6
            go_upto_region 18 with (at_builtin; refine wpList_append_eq rfl _ _ 30 rfl rfl rfl hrun ?_)
            rw [HW6.out]
            clear HW6 c0 c1 c2 c3 c4 e0 e1' e2 e3' e4 u0 u1 u2 u3 u4 hrun
            obtain ⟨W7, hW7⟩ : ∃ W7, (((W6.setCell ⟨g, r.ps.length * 4, none⟩ (.int .i64 r.ln)).setCell ⟨g, r.ps.length * 4 + 1, none⟩ (.int .i64 m)).setCell ⟨g, r.ps.length * 4 + 2, none⟩ (.bool false)).setCell ⟨g, r.ps.length * 4 + 3, none⟩ (.int .i64 0) = W7 := ⟨_, rfl⟩
            have R7 := hide (show RL wr.heap.size W7 (rMore r c m) (.slice (some ⟨g, 0, none⟩) (r.ps.length + 1) cap) (.slice (some ⟨gs, 0, none⟩) r.st.length cps') by rw [← hW7]; exact R6H.out.reset hn2)
            have x7 := hide (show W7.heap[w.heap.size]? = some (.cells #[.int .i64 r.wd, .int .i64 ((r.ln : Int) + c), .slice (some ⟨g, 0, none⟩) (r.ps.length + 1) cap, .int .i64 r.fd, .slice (some ⟨gs, 0, none⟩) r.st.length cps'] 33 (0, 0)) by rw [← hW7, four_cells _ _ _ _ _ _ _ _ (Ne.symm hg1)]; exact X6.out)
            have y7 := hide (show W7.heap[w.heap.size + 1]? = some (.cells #[.int .i64 0, .int .i64 0, .slice none 0 0, .int .i64 0, .slice none 0 0] 33 (0, 0)) by rw [← hW7, four_cells _ _ _ _ _ _ _ _ (Ne.symm hg2)]; exact Y6.out)
            have B7 := hide (show Below w.heap.size w W7 by rw [← hW7]; exact (((B6H.out.setCell (by show w.heap.size ≤ g; omega) _).setCell (by show w.heap.size ≤ g; omega) _).setCell (by show w.heap.size ≤ g; omega) _).setCell (by show w.heap.size ≤ g; omega) _)
            obtain ⟨p0, p1, p2, p3, p4, _⟩ := box_cells X6.out
            obtain ⟨g', cap', hvp', _, k1, k2, k3, k4, kf⟩ := R6H.out.piece (i := r.ps.length) (p := ⟨r.ln, 0, false, 0⟩) (by simp [rMore])
            obtain rfl : g = g' := by have := (Value.slice.inj hvp').1; cases this; rfl
            have kf0 := kf (r.ps.length * 4)
            have kf1 := kf (r.ps.length * 4 + 1)
            have kf2 := kf (r.ps.length * 4 + 2)
            have kf3 := kf (r.ps.length * 4 + 3)
            have hst := RH.out.bs
            have bb : (r.ps.length : Int) < (r.ps.length : Int) + 1 := by omega
            have bqa : (r.ln : Int) ≤ 65537 := by omega
            have bm : (m : Int) ≤ 65536 := by omega
            clear X6 Y6 R6H B6H hvp' kf
            go_wp2
            try rw [hW7]
            clear hW7 p0 p1 p2 p3 p4 k1 k2 k3 k4 kf0 kf1 kf2 kf3
            go_loopw [12] (fun iv wx => ∃ t : Nat, t ≤ m ∧ iv = .int .i64 t ∧ Hid (RL wr.heap.size wx { rMore r c m with st := clr r.st r.ln t } (.slice (some ⟨g, 0, none⟩) (r.ps.length + 1) cap) (.slice (some ⟨gs, 0, none⟩) r.st.length cps')) ∧ Hid (Below w.heap.size w wx) ∧ Hid (wx.heap[w.heap.size]? = some (.cells #[.int .i64 r.wd, .int .i64 ((r.ln : Int) + c), .slice (some ⟨g, 0, none⟩) (r.ps.length + 1) cap, .int .i64 r.fd, .slice (some ⟨gs, 0, none⟩) r.st.length cps'] 33 (0, 0))) ∧ Hid (wx.heap[w.heap.size + 1]? = some (.cells #[.int .i64 0, .int .i64 0, .slice none 0 0, .int .i64 0, .slice none 0 0] 33 (0, 0)))) (fun iv _ => m - (intOf iv).toNat)
            case atStart => exact ⟨0, Nat.zero_le _, rfl, (by rw [clr_zero]; exact R7.out), B7, x7, y7⟩
            case round =>
              obtain ⟨t, ht, rfl, RT, BT7, xt, yt⟩ := hrel
              clear R7 B7 x7 y7
              obtain ⟨c0, c1, c2, c3, c4, _⟩ := box_cells xt.out
              by_cases htm : t < m
              · have et : decide ((t : Int) < (m : Int)) = true := by simp; omega
                have hcl0 : (clr r.st r.ln t)[r.ln + t]? = some (r.st[r.ln + t]'(by omega)) := by rw [clr_get (by omega), if_neg (by omega)]; simp
                obtain ⟨gs', caps', hvs', hcell, hfz, _⟩ := row_cell RT.out.sto (ints_get hcl0)
                obtain rfl : gs = gs' := by have := (Value.slice.inj hvs').1; cases this; rfl
                have bt1 : (r.ln : Int) + t < (r.st.length : Int) := by omega
                have RT2 := hide (RT.out.zero (r := rMore r c m) (a := r.ln) (t := t) (g := gs) (cap := cps') rfl (show r.ln + t < r.st.length by omega))
                clear hvs' hcl0
                go_wp2
                go_roundw
                case rel => exact ⟨t + 1, by omega, by go_num, RT2, BT7.out.setCell (by show w.heap.size ≤ gs; omega) _, (Below.heap_setCell _ _ _ _ (Ne.symm hs1)).trans xt.out, (Below.heap_setCell _ _ _ _ (Ne.symm hs2)).trans yt.out⟩
                case measure => simp [intOf]; omega
              · obtain rfl : t = m := by omega
                have et : decide ((t : Int) < (t : Int)) = false := by simp
                obtain ⟨d0, d1, d2, d3, d4, f0, f1, f2, f3, f4⟩ := box_cells yt.out
                have HG1 := hide (show ∀ q', (Value.slice (some ⟨g, 0, none⟩) (r.ps.length + 1) cap).ownBlock = some q' → (Value.slice aop r.ps.length cpp).ownBlock = some q' ∨ w.heap.size ≤ q' from fun q' hq' => by simp [Value.ownBlock] at hq'; right; omega)
                have HG2 := hide (show ∀ q', (Value.slice (some ⟨gs, 0, none⟩) r.st.length cps').ownBlock = some q' → (Value.slice aos r.st.length cps).ownBlock = some q' ∨ w.heap.size ≤ q' from fun q' hq' => by simp [Value.ownBlock] at hq'; right; omega)
                have HG3 := hide (fun v1 v2 v3 v4 v5 => (RL.five (b := w.heap.size + 1) (RT.out.mono (C := B) (by have := RH.out.hB; omega)) (fun q hq => by simp [Value.ownBlock] at hq; omega) (fun q hq => by simp [Value.ownBlock] at hq; omega) v1 v2 v3 v4 v5).drew)
                clear RT
                go_wp2
                go_region
                all_goals go_wp2
                all_goals refine bodyPost_ret (v := .tuple #[.int .i64 r.ln, .int .i64 0, rv (rCut r c t) (.slice (some ⟨g, 0, none⟩) (r.ps.length + 1) cap) (.slice (some ⟨gs, 0, none⟩) r.st.length cps')]) ?_ rfl ?_
                · simp [results, Try.results29, go_sem, d0, d1, d2, d3, d4, rCut]
                · refine ralloc_cut HCG.out HCN.out BT.out HRM.out ?_ ?_ HG1.out HG2.out
                  · exact HG3.out _ _ _ _ _
                  · exact (below_five BT7.out (Nat.le_succ _) _ _ _ _ _).drew
        | some b =>
          have hb0 : bI (some b) = (b : Int) := rfl
          rw [hb0]
          clear hb0
          obtain ⟨q, hq, _, _, _⟩ := id BT.out
          obtain ⟨hqa, hfit⟩ := HF1.out b q BT.out hq
          have HQ := hide hq
          have eb : decide ((b : Int) < 0) = false := by simp
          have hbl2 := get_lt hq
          have bb : (b : Int) < (r.ps.length : Int) := by omega
          have hc := rcopied_any RR.out
          have zz := Z.out
          clear hq
          go_wp2_with fail
          refine hc.mono ?_
          rintro e w2 ⟨vp', vs', rfl, RC, bc⟩
          clear hc
          obtain ⟨aop', cpp', rfl⟩ := RC.pform
          obtain ⟨aos', cps', rfl⟩ := RC.sform
          obtain ⟨g, cap, hvp, hgl, _⟩ := RC.piece HQ.out
          obtain rfl : aop' = some ⟨g, 0, none⟩ := (Value.slice.inj hvp).1
          obtain ⟨gs, caps, hvs, _, _, _⟩ := row_cell RC.sto (ints_get (j := 0) (a := r.st[0]'(by omega)) (by simp))
          obtain rfl : aos' = some ⟨gs, 0, none⟩ := (Value.slice.inj hvs).1
          have hgl2 := (RC.pcs.lt g rfl)
          have hgs2 := (RC.sto.lt gs rfl)
          have hgg := RC.apart (g := g) rfl gs rfl
          have zz2 := bc.size
          have bx2 := hide ((bc.block w.heap.size (by omega)).trans bx.out)
          have bz2 := hide ((bc.block (w.heap.size + 1) (by omega)).trans bz.out)
          have RCH := hide RC
          have BCH := hide (BB.out.trans (bc.mono (by omega)))
          have hg1 : g ≠ w.heap.size := by omega
          have hg2 : g ≠ w.heap.size + 1 := by omega
          have hs1 : gs ≠ w.heap.size := by omega
          have hs2 : gs ≠ w.heap.size + 1 := by omega
          clear hvp hvs RR BB bx bz RC bc c0 c1 c2 c3 c4 ff0 ff1 ff2 ff3 ff4 d0 d1 d2 d3 d4 f0 f1 f2 f3 f4
          obtain ⟨c0, c1, c2, c3, c4, e0, e1', e2, e3, e4⟩ := box_cells bx2.out
          go_upto_region 14 with fail
          obtain ⟨W5, hW5⟩ : ∃ W5, ((((w2.setCell ⟨w.heap.size, 0, none⟩ (.int .i64 r.wd)).setCell ⟨w.heap.size, 1, none⟩ (.int .i64 r.ln)).setCell ⟨w.heap.size, 2, none⟩ (.slice (some ⟨g, 0, none⟩) r.ps.length cpp')).setCell ⟨w.heap.size, 3, none⟩ (.int .i64 r.fd)).setCell ⟨w.heap.size, 4, none⟩ (.slice (some ⟨gs, 0, none⟩) r.st.length cps') = W5 := ⟨_, rfl⟩
          rw [hW5]
          have R5 : RL wr.heap.size W5 r (.slice (some ⟨g, 0, none⟩) r.ps.length cpp') (.slice (some ⟨gs, 0, none⟩) r.st.length cps') := by
            rw [← hW5]; exact RCH.out.five (fun q hq => by simp [Value.ownBlock] at hq; omega) (fun q hq => by simp [Value.ownBlock] at hq; omega) _ _ _ _ _
          have x5 : W5.heap[w.heap.size]? = some (.cells #[.int .i64 r.wd, .int .i64 r.ln, .slice (some ⟨g, 0, none⟩) r.ps.length cpp', .int .i64 r.fd, .slice (some ⟨gs, 0, none⟩) r.st.length cps'] 33 (0, 0)) := by
            rw [← hW5]; exact box_five bx2.out _ _ _ _ _
          have y5 : W5.heap[w.heap.size + 1]? = some (.cells #[.int .i64 0, .int .i64 0, .slice none 0 0, .int .i64 0, .slice none 0 0] 33 (0, 0)) := by
            rw [← hW5, five_cells _ _ _ _ _ _ _ _ (by omega)]; exact bz2.out
          have B5 : Below w.heap.size w W5 := by rw [← hW5]; exact below_five BCH.out (Nat.le_refl _) _ _ _ _ _
          clear c0 c1 c2 c3 c4 e0 e1' e2 e3 e4 hW5 bx2 bz2 RCH BCH
          obtain ⟨W7, hW7⟩ : ∃ W7, (((W5.setCell ⟨g, b * 4, none⟩ (.int .i64 q.a)).setCell ⟨g, b * 4 + 1, none⟩ (.int .i64 m)).setCell ⟨g, b * 4 + 2, none⟩ (.bool false)).setCell ⟨g, b * 4 + 3, none⟩ (.int .i64 0) = W7 := ⟨_, rfl⟩
          have R7 := hide (show RL wr.heap.size W7 { r with ps := r.ps.set b ⟨q.a, m, false, 0⟩ } (.slice (some ⟨g, 0, none⟩) r.ps.length cpp') (.slice (some ⟨gs, 0, none⟩) r.st.length cps') by rw [← hW7]; exact R5.repl rfl HQ.out hn2)
          have x7 := hide (show W7.heap[w.heap.size]? = some (.cells #[.int .i64 r.wd, .int .i64 r.ln, .slice (some ⟨g, 0, none⟩) r.ps.length cpp', .int .i64 r.fd, .slice (some ⟨gs, 0, none⟩) r.st.length cps'] 33 (0, 0)) by rw [← hW7, four_cells _ _ _ _ _ _ _ _ (Ne.symm hg1)]; exact x5)
          have y7 := hide (show W7.heap[w.heap.size + 1]? = some (.cells #[.int .i64 0, .int .i64 0, .slice none 0 0, .int .i64 0, .slice none 0 0] 33 (0, 0)) by rw [← hW7, four_cells _ _ _ _ _ _ _ _ (Ne.symm hg2)]; exact y5)
          have B7 := hide (show Below w.heap.size w W7 by rw [← hW7]; exact (((B5.setCell (by show w.heap.size ≤ g; omega) _).setCell (by show w.heap.size ≤ g; omega) _).setCell (by show w.heap.size ≤ g; omega) _).setCell (by show w.heap.size ≤ g; omega) _)
          obtain ⟨p0, p1, p2, p3, p4, _⟩ := box_cells x5
          obtain ⟨g', cap', hvp', _, k1, k2, k3, k4, kf⟩ := R5.piece HQ.out
          obtain rfl : g = g' := by have := (Value.slice.inj hvp').1; cases this; rfl
          have kf0 := kf (b * 4)
          have kf1 := kf (b * 4 + 1)
          have kf2 := kf (b * 4 + 2)
          have kf3 := kf (b * 4 + 3)
          have hst := RH.out.bs
          have bqa : (q.a : Int) ≤ 65537 := by omega
          have bm : (m : Int) ≤ 65536 := by omega
          clear x5 y5 R5 B5 hvp' kf
          go_wp2
          try rw [hW7]
          clear hW7 p0 p1 p2 p3 p4 k1 k2 k3 k4 kf0 kf1 kf2 kf3
          go_loopw [12] (fun iv wx => ∃ t : Nat, t ≤ m ∧ iv = .int .i64 t ∧ Hid (RL wr.heap.size wx { { r with ps := r.ps.set b ⟨q.a, m, false, 0⟩ } with st := clr r.st q.a t } (.slice (some ⟨g, 0, none⟩) r.ps.length cpp') (.slice (some ⟨gs, 0, none⟩) r.st.length cps')) ∧ Hid (Below w.heap.size w wx) ∧ Hid (wx.heap[w.heap.size]? = some (.cells #[.int .i64 r.wd, .int .i64 r.ln, .slice (some ⟨g, 0, none⟩) r.ps.length cpp', .int .i64 r.fd, .slice (some ⟨gs, 0, none⟩) r.st.length cps'] 33 (0, 0))) ∧ Hid (wx.heap[w.heap.size + 1]? = some (.cells #[.int .i64 0, .int .i64 0, .slice none 0 0, .int .i64 0, .slice none 0 0] 33 (0, 0)))) (fun iv _ => m - (intOf iv).toNat)
          case atStart => exact ⟨0, Nat.zero_le _, rfl, (by rw [clr_zero]; exact R7.out), B7, x7, y7⟩
          case round =>
            obtain ⟨t, ht, rfl, RT, BT7, xt, yt⟩ := hrel
            clear R7 B7 x7 y7
            obtain ⟨c0, c1, c2, c3, c4, _⟩ := box_cells xt.out
            by_cases htm : t < m
            · have et : decide ((t : Int) < (m : Int)) = true := by simp; omega
              have hcl0 : (clr r.st q.a t)[q.a + t]? = some (r.st[q.a + t]'(by omega)) := by rw [clr_get (by omega), if_neg (by omega)]; simp
              obtain ⟨gs', caps', hvs', hcell, hfz, _⟩ := row_cell RT.out.sto (ints_get hcl0)
              obtain rfl : gs = gs' := by have := (Value.slice.inj hvs').1; cases this; rfl
              have bt1 : (q.a : Int) + t < (r.st.length : Int) := by omega
              have RT2 := hide (RT.out.zero (r := { r with ps := r.ps.set b ⟨q.a, m, false, 0⟩ }) (a := q.a) (t := t) (g := gs) (cap := cps') rfl (show q.a + t < r.st.length by omega))
              clear hvs' hcl0
              go_wp2
              go_roundw
              case rel => exact ⟨t + 1, by omega, by go_num, RT2, BT7.out.setCell (by show w.heap.size ≤ gs; omega) _, (Below.heap_setCell _ _ _ _ (Ne.symm hs1)).trans xt.out, (Below.heap_setCell _ _ _ _ (Ne.symm hs2)).trans yt.out⟩
              case measure => simp [intOf]; omega
            · obtain rfl : t = m := by omega
              have et : decide ((t : Int) < (t : Int)) = false := by simp
              obtain ⟨d0, d1, d2, d3, d4, f0, f1, f2, f3, f4⟩ := box_cells yt.out
              have HG1 := hide (show ∀ q', (Value.slice (some ⟨g, 0, none⟩) r.ps.length cpp').ownBlock = some q' → (Value.slice aop r.ps.length cpp).ownBlock = some q' ∨ w.heap.size ≤ q' from fun q' hq' => by simp [Value.ownBlock] at hq'; right; omega)
              have HG2 := hide (show ∀ q', (Value.slice (some ⟨gs, 0, none⟩) r.st.length cps').ownBlock = some q' → (Value.slice aos r.st.length cps).ownBlock = some q' ∨ w.heap.size ≤ q' from fun q' hq' => by simp [Value.ownBlock] at hq'; right; omega)
              have HG3 := hide (fun v1 v2 v3 v4 v5 => (RL.five (b := w.heap.size + 1) (RT.out.mono (C := B) (by have := RH.out.hB; omega)) (fun q hq => by simp [Value.ownBlock] at hq; omega) (fun q hq => by simp [Value.ownBlock] at hq; omega) v1 v2 v3 v4 v5).drew)
              clear RT
              go_wp2
              go_region
              all_goals go_wp2
              all_goals refine bodyPost_ret (v := .tuple #[.int .i64 q.a, .int .i64 0, rv (rAgain r b q.a t) (.slice (some ⟨g, 0, none⟩) r.ps.length cpp') (.slice (some ⟨gs, 0, none⟩) r.st.length cps')]) ?_ rfl ?_
              · simp [results, Try.results29, go_sem, d0, d1, d2, d3, d4, rAgain]
              · refine ralloc_again HCG.out HCN.out BT.out HQ.out ?_ ?_ HG1.out HG2.out
                · exact HG3.out _ _ _ _ _
                · exact (below_five BT7.out (Nat.le_succ _) _ _ _ _ _).drew
end
end Go.Proofs.Ytimpmgbahgganaa
