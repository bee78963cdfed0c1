/- The document's Set and Free. -/
import Derived.Test.YteeadmkljcjjkaaArRc
namespace Go.Proofs.Yteeadmkljcjjkaa
open Go.RowKit Go.Maps

theorem box_cells {w : World} {b : Nat} {v0 v1 v2 v3 v4 : Value} {t : TypeId} (h : w.heap[b]? = some (.cells #[v0, v1, v2, v3, v4] t (0, 0))) :
    w.cell? ⟨b, 0, none⟩ = some v0 ∧ w.cell? ⟨b, 1, none⟩ = some v1 ∧ w.cell? ⟨b, 2, none⟩ = some v2 ∧ w.cell? ⟨b, 3, none⟩ = some v3 ∧ w.cell? ⟨b, 4, none⟩ = some v4 ∧
    w.frozen? ⟨b, 0, none⟩ = false ∧ w.frozen? ⟨b, 1, none⟩ = false ∧ w.frozen? ⟨b, 2, none⟩ = false ∧ w.frozen? ⟨b, 3, none⟩ = false ∧ w.frozen? ⟨b, 4, none⟩ = false := by
  simp [World.cell?, World.frozen?, h]
theorem five_cells (w : World) (b j : Nat) (v1 v2 v3 v4 v5 : Value) (h2 : j ≠ b) :
    (((((w.setCell ⟨b, 0, none⟩ v1).setCell ⟨b, 1, none⟩ v2).setCell ⟨b, 2, none⟩ v3).setCell ⟨b, 3, none⟩ v4).setCell ⟨b, 4, none⟩ v5).heap[j]? = w.heap[j]? := by
  rw [Below.heap_setCell _ _ _ _ h2, Below.heap_setCell _ _ _ _ h2, Below.heap_setCell _ _ _ _ h2, Below.heap_setCell _ _ _ _ h2, Below.heap_setCell _ _ _ _ h2]
theorem below_five {B : Nat} {a w : World} (h : Below B a w) {b : Nat} (hb : B ≤ b) (v1 v2 v3 v4 v5 : Value) :
    Below B a (((((w.setCell ⟨b, 0, none⟩ v1).setCell ⟨b, 1, none⟩ v2).setCell ⟨b, 2, none⟩ v3).setCell ⟨b, 3, none⟩ v4).setCell ⟨b, 4, none⟩ v5) :=
  ((((h.setCell hb _).setCell hb _).setCell hb _).setCell hb _).setCell hb _
theorem box_five {w : World} {b : Nat} {a0 a1 a2 a3 a4 : Value} {t : TypeId} (h : w.heap[b]? = some (.cells #[a0, a1, a2, a3, a4] t (0, 0))) (v1 v2 v3 v4 v5 : Value) :
    (((((w.setCell ⟨b, 0, none⟩ v1).setCell ⟨b, 1, none⟩ v2).setCell ⟨b, 2, none⟩ v3).setCell ⟨b, 3, none⟩ v4).setCell ⟨b, 4, none⟩ v5).heap[b]? = some (.cells #[v1, v2, v3, v4, v5] t (0, 0)) := by
  have h1 := heap_setCell_same w b 0 v1 h
  have h2 := heap_setCell_same _ b 1 v2 h1
  have h3 := heap_setCell_same _ b 2 v3 h2
  have h4 := heap_setCell_same _ b 3 v4 h3
  have h5 := heap_setCell_same _ b 4 v5 h4
  rw [h5]; rfl
theorem row_set {w : World} {B n cap g m : Nat} {e : TypeId} {xs : List Value} (h : w.ownsRow B e 1 (.slice (some ⟨g, 0, none⟩) n cap) n xs) (u : Value) : (w.setCell ⟨g, m, none⟩ u).ownsRow B e 1 (.slice (some ⟨g, 0, none⟩) n cap) n (xs.set m u) := by
  refine ⟨by rw [List.length_set]; exact h.1, ?_⟩
  rcases h.2 with ⟨h1, _⟩ | ⟨g', cap', cur, h1, h2, h3, h4, h5, h6, h7⟩
  · cases h1
  · cases h1
    refine .inr ⟨g, cap, _, rfl, h2, heap_setCell_same w g m u h3, h4, h5, by simpa using h6, ?_⟩
    rw [← h7]
    simp [List.take_set]
section
variable {B : Nat} {r : Rs} {vp vs : Value} {w : World}
theorem RL.five (R : RL B w r vp vs) {b : Nat} (h1 : ∀ g, vp.ownBlock = some g → g ≠ b) (h2 : ∀ g, vs.ownBlock = some g → g ≠ b) (v1 v2 v3 v4 v5 : Value) :
    RL B (((((w.setCell ⟨b, 0, none⟩ v1).setCell ⟨b, 1, none⟩ v2).setCell ⟨b, 2, none⟩ v3).setCell ⟨b, 3, none⟩ v4).setCell ⟨b, 4, none⟩ v5) r vp vs :=
  R.keep (fun g hg => five_cells w b g v1 v2 v3 v4 v5 (h1 g hg)) (fun g hg => five_cells w b g v1 v2 v3 v4 v5 (h2 g hg)) (by simp)
theorem RL.drew (R : RL B w r vp vs) : RL B w.drew r vp vs := R.keep (fun _ _ => rfl) (fun _ _ => rfl) (Nat.le_refl _)
theorem RL.mono (R : RL B w r vp vs) {C : Nat} (h : C ≤ B) : RL C w r vp vs :=
  ⟨⟨R.pcs.1, R.pcs.2.imp id (fun ⟨g, cap, cur, e, hb, rest⟩ => ⟨g, cap, cur, e, by omega, rest⟩)⟩, ⟨R.sto.1, R.sto.2.imp id (fun ⟨g, cap, cur, e, hb, rest⟩ => ⟨g, cap, cur, e, by omega, rest⟩)⟩, R.bw, R.bl, R.bp, R.bs, R.bf, R.ba, Nat.le_trans h R.hB⟩
theorem RL.set (R : RL B w r vp vs) {g cap m : Nat} (hv : vs = .slice (some ⟨g, 0, none⟩) r.st.length cap) (v : Int) : RL B (w.setCell ⟨g, m, none⟩ (.int .i64 v)) (rSet r m v) vp vs := by
  subst hv
  refine ⟨ownsRow_keep R.pcs fun q hq => Below.heap_setCell _ _ _ _ (fun e => ?_), ?_, R.bw, R.bl, R.bp, by show (r.st.set m v).length ≤ _; rw [List.length_set]; exact R.bs, R.bf, R.ba, by simp; exact R.hB⟩
  · rcases R.pcs.2 with ⟨h1, _⟩ | ⟨g', cap', cur, h1, _, h2, _⟩
    · rw [h1] at hq; cases hq
    · rw [h1] at hq; cases hq
      rcases R.sto.2 with ⟨h3, _⟩ | ⟨g2, cap2, cur2, h3, _, h4, _⟩
      · cases h3
      · cases h3; rw [show g' = g from e, h4] at h2; simp at h2
  · have h1 := row_set (m := m) R.sto (.int .i64 v)
    show (w.setCell ⟨g, m, none⟩ (.int .i64 v)).ownsRow B 3 1 _ (r.st.set m v).length (ints (r.st.set m v))
    rw [List.length_set, show ints (r.st.set m v) = (ints r.st).set m (.int .i64 v) by simp [ints, List.map_set]]
    exact h1
/-- What a call of the document's leaves: a new arena beside the old one. -/
structure ROut (B : Nat) (w : World) (vp vs : Value) (r' : Rs) (vp' vs' : Value) (w' : World) : Prop where
  rl : RL B w' r' vp' vs'
  below : Below w.heap.size w w'
  fp : ∀ g, vp'.ownBlock = some g → vp.ownBlock = some g ∨ w.heap.size ≤ g
  fs : ∀ g, vs'.ownBlock = some g → vs.ownBlock = some g ∨ w.heap.size ≤ g
set_option maxHeartbeats 1000000 in
theorem rset_any (x v : Int) (R : RL B w r vp vs) (hin : ∀ j, FindR r.ps x (some j) → ∃ m : Nat, x = m ∧ m < r.st.length) :
    Calls Try.prog 20 #[rv r vp vs, .int .i64 x, .int .i64 v] w fun e w' => (FindR r.ps x none ∧ e = .returned (.tuple #[.int .i64 6, rv r vp vs]) ∧ Below w.heap.size w w') ∨
      ∃ (j m : Nat) (vp' vs' : Value), FindR r.ps x (some j) ∧ x = m ∧ e = .returned (.tuple #[.int .i64 0, rv (rSet r m v) vp' vs']) ∧ ROut B w vp vs (rSet r m v) vp' vs' w' := by
  obtain ⟨aop, cpp, rfl⟩ := R.pform
  obtain ⟨aos, cps, rfl⟩ := R.sform
  obtain ⟨W1, hW1⟩ : ∃ W1, (w.alloc (.cells #[.int .i64 r.wd, .int .i64 r.ln, .slice aop r.ps.length cpp, .int .i64 r.fd, .slice aos r.st.length cps] 31)).alloc (.cells #[.int .i64 0, .int .i64 0, .slice none 0 0, .int .i64 0, .slice none 0 0] 31) = W1 := ⟨_, rfl⟩
  have z1 : W1.heap.size = w.heap.size + 1 + 1 := by rw [← hW1]; simp
  have HB := hide (show Below w.heap.size w W1 by rw [← hW1]; exact ((Below.refl _ _).alloc (Nat.le_refl _) _).alloc (by simp) _)
  have R1 := hide (R.below HB.out)
  have bx1 : W1.heap[w.heap.size]? = some (.cells #[.int .i64 r.wd, .int .i64 r.ln, .slice aop r.ps.length cpp, .int .i64 r.fd, .slice aos r.st.length cps] 31 (0, 0)) := by rw [← hW1, Below.heap_alloc _ _ _ (by simp), heap_new _ _ rfl]
  have bz1 : W1.heap[w.heap.size + 1]? = some (.cells #[.int .i64 0, .int .i64 0, .slice none 0 0, .int .i64 0, .slice none 0 0] 31 (0, 0)) := by rw [← hW1, heap_new _ _ (by simp)]
  have ha := rfind_any (w := W1) x R1.out
  have HIN := hide hin
  have HBX := hide bx1
  have HBZ := hide bz1
  have HRB := hide R.hB
  clear R hin bx1 bz1
  have Z1 := hide z1
  clear z1
  subst hW1
  go_enter Try.func20, Try.ntmps20
  go_wp2_with fail
  refine ha.mono ?_
  rintro e w1 ⟨ho, hb⟩
  have bx := hide ((hb.block w.heap.size (by rw [Z1.out]; omega)).trans HBX.out)
  have bz := hide ((hb.block (w.heap.size + 1) (by rw [Z1.out]; omega)).trans HBZ.out)
  have R2 := hide (R1.out.below hb)
  have B2 := hide (HB.out.trans (hb.mono (by rw [Z1.out]; omega)))
  have zz1 : w.heap.size + 1 < w1.heap.size := by have h1 := hb.size; rw [Z1.out] at h1; omega
  clear hb ha R1 HB HBX HBZ Z1
  rcases ho with ⟨ho, rfl⟩ | ⟨j, p, ho, hp, rfl⟩
  · have HO := hide ho
    clear ho
    obtain ⟨c0, c1, c2, c3, c4, _⟩ := box_cells bx.out
    obtain ⟨d0, d1, d2, d3, d4, f0, f1, f2, f3, f4⟩ := box_cells bz.out
    go_wp2
    go_region
    all_goals go_wp2
    all_goals exact bodyPost_ret (v := .tuple #[.int .i64 6, rv r (.slice aop r.ps.length cpp) (.slice aos r.st.length cps)]) (by simp [results, Try.results20, go_sem, d0, d1, d2, d3, d4]) rfl (.inl ⟨HO.out, rfl, (below_five B2.out (Nat.le_succ _) _ _ _ _ _).drew⟩)
  · obtain ⟨m, hx, hm⟩ := HIN.out j ho
    have HO := hide ho
    have hc := rcopied_any R2.out
    obtain ⟨c0, c1, c2, c3, c4, _⟩ := box_cells bx.out
    clear ho hp
    go_wp2_with fail
    refine hc.mono ?_
    rintro e w2 ⟨vp', vs', rfl, RC, bc⟩
    clear hc c0 c1 c2 c3 c4
    obtain ⟨aop', cpp', rfl⟩ := RC.pform
    obtain ⟨aos', cps', rfl⟩ := RC.sform
    obtain ⟨u, hu⟩ : ∃ u, r.st[m]? = some u := ⟨r.st[m], by simp⟩
    obtain ⟨g, cap, hvs, hcell, hfz, _⟩ := row_cell RC.sto (ints_get hu)
    obtain rfl : aos' = some ⟨g, 0, none⟩ := (Value.slice.inj hvs).1
    have hbs := RC.bs
    have bm : (m : Int) < (r.st.length : Int) := by omega
    have hgl := (RC.sto.lt g rfl)
    have bx2 := hide ((bc.block w.heap.size (by omega)).trans bx.out)
    have bz2 := hide ((bc.block (w.heap.size + 1) (by omega)).trans bz.out)
    obtain ⟨c0, c1, c2, c3, c4, e0, e1, e2, e3, e4⟩ := box_cells bx2.out
    obtain ⟨d0, d1, d2, d3, d4, f0, f1, f2, f3, f4⟩ := box_cells bz2.out
    have zz2 := bc.size
    have hg1 : g ≠ w.heap.size := by omega
    have hg2 : g ≠ w.heap.size + 1 := by omega
    have RCH := hide RC
    have BCH := hide (B2.out.trans (bc.mono (by omega)))
    subst hx
    clear hvs hu R2 B2 bx bz RC bc
    go_wp2
    obtain ⟨W5, hW5⟩ : ∃ W5, (((((w2.setCell ⟨w.heap.size, 0, none⟩ (.int .i64 r.wd)).setCell ⟨w.heap.size, 1, none⟩ (.int .i64 r.ln)).setCell ⟨w.heap.size, 2, none⟩ (.slice aop' r.ps.length cpp')).setCell ⟨w.heap.size, 3, none⟩ (.int .i64 r.fd)).setCell ⟨w.heap.size, 4, none⟩ (.slice (some ⟨g, 0, none⟩) r.st.length cps')).setCell ⟨g, m, none⟩ (.int .i64 v) = W5 := ⟨_, rfl⟩
    rw [hW5]
    have hfar : ∀ q, (Value.slice aop' r.ps.length cpp').ownBlock = some q → q ≠ w.heap.size := fun q hq => by have := (RCH.out.pcs.lt q hq).1; omega
    have hfar2 : ∀ q, (Value.slice (some ⟨g, 0, none⟩) r.st.length cps').ownBlock = some q → q ≠ w.heap.size := fun q hq => by simp [Value.ownBlock] at hq; omega
    have R5 := hide (show RL w1.heap.size W5 (rSet r m v) (.slice aop' r.ps.length cpp') (.slice (some ⟨g, 0, none⟩) r.st.length cps') by
      rw [← hW5]; exact (RCH.out.five hfar hfar2 _ _ _ _ _).set rfl v)
    have x5 : W5.heap[w.heap.size]? = some (.cells #[.int .i64 r.wd, .int .i64 r.ln, .slice aop' r.ps.length cpp', .int .i64 r.fd, .slice (some ⟨g, 0, none⟩) r.st.length cps'] 31 (0, 0)) := by
      rw [← hW5, Below.heap_setCell _ _ _ _ (Ne.symm hg1)]; exact box_five bx2.out _ _ _ _ _
    have y5 : W5.heap[w.heap.size + 1]? = some (.cells #[.int .i64 0, .int .i64 0, .slice none 0 0, .int .i64 0, .slice none 0 0] 31 (0, 0)) := by
      rw [← hW5, Below.heap_setCell _ _ _ _ (Ne.symm hg2), five_cells _ _ _ _ _ _ _ _ (by omega)]; exact bz2.out
    have B5 := hide (show Below w.heap.size w W5 by rw [← hW5]; exact (below_five BCH.out (Nat.le_refl _) _ _ _ _ _).setCell (by show w.heap.size ≤ g; omega) _)
    obtain ⟨x0, x1, x2, x3, x4, _⟩ := box_cells x5
    obtain ⟨y0, y1, y2, y3, y4, z0, z1, z2, z3, z4⟩ := box_cells y5
    have HF1 := hide (show ∀ q, (Value.slice aop' r.ps.length cpp').ownBlock = some q → (Value.slice aop r.ps.length cpp).ownBlock = some q ∨ w.heap.size ≤ q from fun q hq => by have := (RCH.out.pcs.lt q hq).1; right; omega)
    have HF2 := hide (show ∀ q, (Value.slice (some ⟨g, 0, none⟩) r.st.length cps').ownBlock = some q → (Value.slice aos r.st.length cps).ownBlock = some q ∨ w.heap.size ≤ q from fun q hq => by simp [Value.ownBlock] at hq; right; omega)
    have HF3 := hide (show ∀ v1 v2 v3 v4 v5, RL B (((((W5.setCell ⟨w.heap.size + 1, 0, none⟩ v1).setCell ⟨w.heap.size + 1, 1, none⟩ v2).setCell ⟨w.heap.size + 1, 2, none⟩ v3).setCell ⟨w.heap.size + 1, 3, none⟩ v4).setCell ⟨w.heap.size + 1, 4, none⟩ v5).drew (rSet r m v) (.slice aop' r.ps.length cpp') (.slice (some ⟨g, 0, none⟩) r.st.length cps') from fun v1 v2 v3 v4 v5 =>
      (RL.five (b := w.heap.size + 1) (R5.out.mono (by have := HRB.out; omega)) (fun q hq => by have := (RCH.out.pcs.lt q hq).1; omega) (fun q hq => by simp [Value.ownBlock] at hq; omega) v1 v2 v3 v4 v5).drew)
    clear hfar hfar2 x5 y5 c0 c1 c2 c3 c4 e0 e1 e2 e3 e4 d0 d1 d2 d3 d4 f0 f1 f2 f3 f4 hcell hfz hW5 bx2 bz2 R5 RCH
    go_region
    all_goals go_wp2
    all_goals exact bodyPost_ret (v := .tuple #[.int .i64 0, rv (rSet r m v) (.slice aop' r.ps.length cpp') (.slice (some ⟨g, 0, none⟩) r.st.length cps')]) (by simp [results, Try.results20, go_sem, y0, y1, y2, y3, y4, rSet]) rfl (.inr ⟨j, m, _, _, HO.out, rfl, rfl, ⟨HF3.out _ _ _ _ _, (below_five B5.out (Nat.le_succ _) _ _ _ _ _).drew, HF1.out, HF2.out⟩⟩)
end
end Go.Proofs.Yteeadmkljcjjkaa
