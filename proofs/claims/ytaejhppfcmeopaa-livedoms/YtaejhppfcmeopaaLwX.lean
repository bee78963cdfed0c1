/- order's closure. -/
import Derived.Test.YtaejhppfcmeopaaLwV
namespace Go.Proofs.Ytaejhppfcmeopaa
open Go.RowKit
/-- What the closure has at hand. -/
structure Od (w0 w : World) (p1 p2 p3 p4 : Nat) (ao : Option Addr) (n cap : Nat) (s : Nat × List Nat) (vl : Value) : Prop where
  b : w.heap[p2]? = some (.cells #[.slice ao n cap] 22 (0, 0))
  f : w.heap[p3]? = some (.cells #[.func (.func 40) #[] #[pp p1, pp p2, pp p3, pp p4]] 70 (0, 0))
  m : BoxS w p1 s.1
  l : w.heap[p4]? = some (.cells #[vl] 34 (0, 0))
  r : w.ownsRow w0.heap.size 3 1 vl s.2.length (ints (zs s.2))
  bel : Below w0.heap.size w0 w
  lo : w0.heap.size ≤ p1 ∧ w0.heap.size ≤ p4
section
variable {w0 w w' : World} {p1 p2 p3 p4 n cap : Nat} {ao : Option Addr} {s : Nat × List Nat} {vl : Value}
theorem ne_ty {i j : Nat} {c d : Array Value} {t t2 : TypeId} {z z2 : Nat × Nat} (h1 : w.heap[i]? = some (.cells c t z)) (h2 : w.heap[j]? = some (.cells d t2 z2)) (ht : t ≠ t2) : i ≠ j := fun e => by
  rw [e, h2] at h1; simp at h1; exact ht h1.2.1.symm
theorem Od.ne_own (V : Od w0 w p1 p2 p3 p4 ao n cap s vl) {j : Nat} {c : Array Value} {t : TypeId} {z : Nat × Nat} (h : w.heap[j]? = some (.cells c t z)) (ht : t ≠ 3) : vl.ownBlock ≠ some j := fun e => by
  obtain ⟨cur, h1⟩ := row_type V.r e
  exact ne_ty h h1 ht rfl
theorem Od.under (V : Od w0 w p1 p2 p3 p4 ao n cap s vl) (h : Below w.heap.size w w') : Od w0 w' p1 p2 p3 p4 ao n cap s vl :=
  ⟨(h.block _ (lt_of_block V.b)).trans V.b, (h.block _ (lt_of_block V.f)).trans V.f, V.m.keep (h.block _ V.m.lt), (h.block _ (lt_of_block V.l)).trans V.l, ownsRow_keep V.r (fun g hg => h.block g (V.r.lt g hg).2), V.bel.trans (h.mono V.bel.size), V.lo⟩
theorem Od.mark (V : Od w0 w p1 p2 p3 p4 ao n cap s vl) {m' : Nat} (h : Kp (fun j => j = p1) w w') (hm : BoxS w' p1 m') : Od w0 w' p1 p2 p3 p4 ao n cap (m', s.2) vl := by
  have hm0 : w.heap[p1]? = some (.cells (wc s.1) 64 (0, 0)) := V.m
  exact ⟨(h.block _ (lt_of_block V.b) (ne_ty V.b hm0 (by decide))).trans V.b, (h.block _ (lt_of_block V.f) (ne_ty V.f hm0 (by decide))).trans V.f, hm, (h.block _ (lt_of_block V.l) (ne_ty V.l hm0 (by decide))).trans V.l, ownsRow_keep V.r (fun g hg => h.block g (V.r.lt g hg).2 (fun e => V.ne_own hm0 (by decide) (by rw [hg, e]))), h.below (Nat.le_refl _) V.bel (fun j hj => by rw [hj]; exact V.lo.1), V.lo⟩
theorem Od.push (V : Od w0 w p1 p2 p3 p4 ao n cap s vl) (x : Nat) (hl : s.2.length ≤ 512) : ∃ g2 cp w', (Builtin.append_ #[34, 34] 34 #[vl, .slice (some ⟨w.heap.size, 0, none⟩) 1 1]).run Try.prog (w.alloc (.cells #[.int .i64 x] 3)) = .ok (.slice (some ⟨g2, 0, none⟩) (s.2.length + 1) cp) w' ∧ w'.cell? ⟨p4, 0, none⟩ = some vl ∧ w'.frozen? ⟨p4, 0, none⟩ = false ∧ p4 < w'.heap.size ∧ Od w0 (w'.setCell ⟨p4, 0, none⟩ (.slice (some ⟨g2, 0, none⟩) (s.2.length + 1) cp)) p1 p2 p3 p4 ao n cap (s.1, s.2 ++ [x]) (.slice (some ⟨g2, 0, none⟩) (s.2.length + 1) cp) := by
  have hB1 := (Below.refl w.heap.size w).alloc (Nat.le_refl _) (.cells #[.int .i64 x] 3)
  obtain ⟨g2, cp, w3, hr, hown, hgrow, hat, _⟩ := run_appI (x := (x : Int)) (ownsRow_keep V.r (fun h hh => hB1.block h (V.r.lt h hh).2)) (heap_new w (.cells #[.int .i64 x] 3) rfl) (by omega) (Nat.le_trans V.bel.size hB1.size)
  have hk : ∀ (j : Nat) (c : Array Value) (t : TypeId) (z : Nat × Nat), w.heap[j]? = some (.cells c t z) → t ≠ 3 → w3.heap[j]? = some (.cells c t z) := fun j c t z h ht => ((hgrow.block j (Nat.lt_of_lt_of_le (lt_of_block h) hB1.size) (fun e => V.ne_own h ht e.symm)).trans (hB1.block j (lt_of_block h))).trans h
  have l3 := hk _ _ _ _ V.l (by decide)
  have b3 := hk _ _ _ _ V.b (by decide)
  have f3 := hk _ _ _ _ V.f (by decide)
  have m3 : w3.heap[p1]? = some (.cells (wc s.1) 64 (0, 0)) := hk _ _ _ _ V.m (by decide)
  refine ⟨g2, cp, w3, hr, cell_of l3 rfl, fz_of _ l3, lt_of_block l3, (Below.heap_setCell _ _ _ _ (ne_ty b3 l3 (by decide))).trans b3, (Below.heap_setCell _ _ _ _ (ne_ty f3 l3 (by decide))).trans f3, (Below.heap_setCell _ _ _ _ (ne_ty m3 l3 (by decide))).trans m3, heap_setCell_same _ p4 0 _ l3, ?_, ?_, V.lo⟩
  · have e1 : zs (s.2 ++ [x]) = zs s.2 ++ [(x : Int)] := by simp [zs]
    have e2 : ints (zs s.2 ++ [(x : Int)]) = ints (zs s.2) ++ [.int .i64 x] := by simp [ints]
    rw [e1, e2]
    simp only [List.length_append, List.length_cons, List.length_nil]
    refine ownsRow_keep hown (fun h hh => Below.heap_setCell _ _ _ _ ?_)
    obtain ⟨cur, h1⟩ := row_type hown hh
    exact ne_ty h1 l3 (by decide)
  · refine Below.setCell ⟨hgrow.os.trans (hB1.os.trans V.bel.os), hgrow.tape.trans (hB1.tape.trans V.bel.tape), hgrow.output.trans (hB1.output.trans V.bel.output), Nat.le_trans V.bel.size (Nat.le_trans hB1.size hgrow.size), fun j hj => ?_⟩ V.lo.2 _
    have hj2 := Nat.lt_of_lt_of_le hj V.bel.size
    exact ((hgrow.block j (Nat.lt_of_lt_of_le hj2 hB1.size) (fun e => by have := (V.r.lt j e.symm).1; omega)).trans (hB1.block j hj2)).trans (V.bel.block j hj)
end
end Go.Proofs.Ytaejhppfcmeopaa
