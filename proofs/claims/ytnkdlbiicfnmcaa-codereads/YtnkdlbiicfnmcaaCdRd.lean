/- CodeReads, where the document's Decode answers as it should. -/
import Derived.Test.YtnkdlbiicfnmcaaCdEJt
import Derived.Test.YtnkdlbiicfnmcaaCdSm
namespace Go.Proofs.Ytnkdlbiicfnmcaa
open Go.RowKit
/-- What Decode owes. -/
def DecC (f : Nat) : Prop := ∀ (B : Nat) (w : World) (v : Value) (b : By), BytesAt B w v b → B ≤ w.heap.size →
  Calls Try.prog f #[v] w fun e w' => ∃ v1 v2 v3 v4, e = .returned (.tuple #[.agg #[v1, v2, v3, v4], .int .i64 (decP b).2]) ∧ PgAt w'.heap.size w' v1 v2 v3 v4 (decP b).1 ∧ Below w.heap.size w w'
set_option maxRecDepth 100000 in
set_option maxHeartbeats 1500000 in
theorem reads_of (HG : DecC 14) {B : Nat} {w : World} {vb : Value} {b : By} (RB : BytesAt B w vb b) (hB : B ≤ w.heap.size) :
    Calls Try.prog 4 #[vb] w fun e w' => e = .returned (.bool true) ∧ Below w.heap.size w w' := by
  have C1 := hide (decode_any RB hB)
  have KB := hide (show ∀ W, Below w.heap.size w W → BytesAt B W vb b ∧ B ≤ W.heap.size from fun W h => ⟨RB.keep fun j hj => h.block j (by omega), by have := h.size; omega⟩)
  have AW := hide awake_any
  have HGG := hide HG
  obtain ⟨ab, cb, hvb, _⟩ := id RB
  subst hvb
  generalize hbl : b.length = bl at *
  clear RB hB HG hbl
  generalize hdb : decP b = D at *
  have HDB := hide hdb
  clear hdb
  obtain ⟨q, er⟩ := D
  simp only at C1
  go_enter Try.func4, Try.ntmps4
  go_wp2_with fail
  refine C1.out.mono ?_
  rintro e w1 ⟨x1, x2, x3, x4, rfl, PA, hb1⟩
  have HB1 := hide hb1
  have HPA := hide PA
  obtain ⟨b1, m1, hx1, _⟩ := PA.ty
  obtain ⟨b2, m2, hx2, _⟩ := PA.fu
  obtain ⟨b3, m3, hx3, _⟩ := PA.ta
  obtain ⟨b4, m4, hx4, _⟩ := PA.st
  subst hx1 hx2 hx3 hx4
  obtain ⟨W2, hW2⟩ : ∃ W2, w1.alloc (.cells #[.slice b1 q.ty.length m1, .slice b2 q.fu.length m2, .slice b3 q.ta.length m3, .slice b4 q.st.length m4] 27) = W2 := ⟨_, rfl⟩
  have h2 : W2.heap[w1.heap.size]? = some (.cells #[.slice b1 q.ty.length m1, .slice b2 q.fu.length m2, .slice b3 q.ta.length m3, .slice b4 q.st.length m4] 27 (0, 0)) := by rw [← hW2]; exact heap_new _ _ rfl
  have B2 : Below w1.heap.size w1 W2 := by rw [← hW2]; exact (Below.refl _ _).alloc (Nat.le_refl _) _
  have HB2 := hide (HB1.out.trans (B2.mono HB1.out.size))
  have K2 := hide (show ∀ W, Below W2.heap.size W2 W → PgAt W.heap.size W (.slice b1 q.ty.length m1) (.slice b2 q.fu.length m2) (.slice b3 q.ta.length m3) (.slice b4 q.st.length m4) q ∧ W.heap[w1.heap.size]? = some (.cells #[.slice b1 q.ty.length m1, .slice b2 q.fu.length m2, .slice b3 q.ta.length m3, .slice b4 q.st.length m4] 27 (0, 0)) from fun W h =>
    ⟨HPA.out.grow (B2.trans (h.mono B2.size)) (Nat.le_trans B2.size h.size), (h.block _ (lt_of_block h2)).trans h2⟩)
  have C2 := hide (HGG.out B W2 _ b (KB.out W2 HB2.out).1 (KB.out W2 HB2.out).2)
  rw [HDB.out] at C2
  clear PA hb1 C1 h2 B2 HPA HGG
  go_wp2_with fail
  refine C2.out.mono ?_
  rintro e w3 ⟨y1, y2, y3, y4, rfl, PB, hb3⟩
  have HPB := hide PB
  have G3 := hide hb3
  have HB3 := hide (HB2.out.trans (hb3.mono HB2.out.size))
  obtain ⟨d1, o1, hy1, _⟩ := PB.ty
  obtain ⟨d2, o2, hy2, _⟩ := PB.fu
  obtain ⟨d3, o3, hy3, _⟩ := PB.ta
  obtain ⟨d4, o4, hy4, _⟩ := PB.st
  subst hy1 hy2 hy3 hy4
  obtain ⟨W4, hW4⟩ : ∃ W4, w3.alloc (.cells #[.slice d1 q.ty.length o1, .slice d2 q.fu.length o2, .slice d3 q.ta.length o3, .slice d4 q.st.length o4] 27) = W4 := ⟨_, rfl⟩
  have h4 : W4.heap[w3.heap.size]? = some (.cells #[.slice d1 q.ty.length o1, .slice d2 q.fu.length o2, .slice d3 q.ta.length o3, .slice d4 q.st.length o4] 27 (0, 0)) := by rw [← hW4]; exact heap_new _ _ rfl
  have B4 : Below w3.heap.size w3 W4 := by rw [← hW4]; exact (Below.refl _ _).alloc (Nat.le_refl _) _
  have HB4 := hide (HB3.out.trans (B4.mono HB3.out.size))
  have K4 := hide (show ∀ W, Below W4.heap.size W4 W → PgAt W.heap.size W (.slice d1 q.ty.length o1) (.slice d2 q.fu.length o2) (.slice d3 q.ta.length o3) (.slice d4 q.st.length o4) q ∧ W.heap[w3.heap.size]? = some (.cells #[.slice d1 q.ty.length o1, .slice d2 q.fu.length o2, .slice d3 q.ta.length o3, .slice d4 q.st.length o4] 27 (0, 0)) ∧ Below W2.heap.size W2 W ∧ Below w.heap.size w W from fun W h =>
    ⟨HPB.out.grow (B4.trans (h.mono B4.size)) (Nat.le_trans B4.size h.size), (h.block _ (lt_of_block h4)).trans h4, (G3.out.trans ((B4.trans (h.mono B4.size)).mono G3.out.size)), HB4.out.trans (h.mono HB4.out.size)⟩)
  have x1 : (er == er) = true := by simp
  clear PB hb3 C2 h4 B4 HPB G3 HB2 HB3
  go_wp2_with fail
  refine (AW.out W4).mono ?_
  rintro e w5 ⟨rfl, hb5⟩
  obtain ⟨P4, k4, g4, f4⟩ := K4.out w5 hb5
  obtain ⟨P2, k2⟩ := K2.out w5 g4
  have c0 : w5.cell? ⟨w1.heap.size, 0, none⟩ = some (.slice b1 q.ty.length m1) := cell_of k2 rfl
  have c1 : w5.cell? ⟨w1.heap.size, 1, none⟩ = some (.slice b2 q.fu.length m2) := cell_of k2 rfl
  have c2 : w5.cell? ⟨w1.heap.size, 2, none⟩ = some (.slice b3 q.ta.length m3) := cell_of k2 rfl
  have c3 : w5.cell? ⟨w1.heap.size, 3, none⟩ = some (.slice b4 q.st.length m4) := cell_of k2 rfl
  have d0' : w5.cell? ⟨w3.heap.size, 0, none⟩ = some (.slice d1 q.ty.length o1) := cell_of k4 rfl
  have d1' : w5.cell? ⟨w3.heap.size, 1, none⟩ = some (.slice d2 q.fu.length o2) := cell_of k4 rfl
  have d2' : w5.cell? ⟨w3.heap.size, 2, none⟩ = some (.slice d3 q.ta.length o3) := cell_of k4 rfl
  have d3' : w5.cell? ⟨w3.heap.size, 3, none⟩ = some (.slice d4 q.st.length o4) := cell_of k4 rfl
  have C6 := hide (same_any P2 P4 (Nat.le_refl _))
  have HF := hide f4
  clear P4 k4 g4 f4 P2 k2 hb5 K2 K4 hW2 hW4
  go_wp2_with fail
  refine C6.out.mono ?_
  rintro e w6 ⟨rfl, hb6⟩
  have HB6 := hide (HF.out.trans (hb6.mono HF.out.size))
  clear hb6 C6
  go_wp2
  go_ret
  exact ⟨rfl, HB6.out⟩
end Go.Proofs.Ytnkdlbiicfnmcaa
