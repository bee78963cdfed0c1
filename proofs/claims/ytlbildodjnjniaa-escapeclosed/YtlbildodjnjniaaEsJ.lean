/- Does what is told of r and x mark x?: the program's closure. -/
import Derived.Test.YtlbildodjnjniaaEsI
namespace Go.Proofs.Ytlbildodjnjniaa
open Go.RowKit

/-- The memory while points are marked: the boxes of the points and of the marks, the marks. -/
structure Em (w0 w : World) (bp be bb n : Nat) (vp : Value) (E : Nat → Bool) : Prop where
  pb : w.heap[bp]? = some (.cells #[vp] 22 (0, 0))
  eb : w.heap[be]? = some (.cells #[.slice (some ⟨bb, 0, none⟩) n n] 34 (0, 0))
  ee : ∃ arr, w.heap[bb]? = some (.cells arr 4 (0, 0)) ∧ arr.size = n ∧ ∀ i, i < n → arr[i]? = some (.bool (E i))
  bel : Below w0.heap.size w0 w
  lo : w0.heap.size ≤ bb
section
variable {w0 w w' : World} {bp be bb n : Nat} {vp : Value} {E : Nat → Bool} {ps : List Pt}
theorem Em.under (M : Em w0 w bp be bb n vp E) (hb : Below w.heap.size w w') : Em w0 w' bp be bb n vp E := by
  obtain ⟨arr, h1, h2, h3⟩ := M.ee
  exact ⟨(hb.block _ (lt_of_block M.pb)).trans M.pb, (hb.block _ (lt_of_block M.eb)).trans M.eb, ⟨arr, (hb.block _ (lt_of_block h1)).trans h1, h2, h3⟩, M.bel.trans (hb.mono M.bel.size), M.lo⟩
theorem Em.cells (M : Em w0 w bp be bb n vp E) : w.cell? ⟨bp, 0, none⟩ = some vp ∧ w.cell? ⟨be, 0, none⟩ = some (.slice (some ⟨bb, 0, none⟩) n n) ∧ (∀ i, i < n → w.cell? ⟨bb, i, none⟩ = some (.bool (E i))) ∧ (∀ i, w.frozen? ⟨bb, i, none⟩ = false) ∧ bp < w.heap.size ∧ be < w.heap.size ∧ bb < w.heap.size := by
  obtain ⟨arr, h1, h2, h3⟩ := M.ee
  exact ⟨cell_of M.pb rfl, cell_of M.eb rfl, fun i hi => cell_of h1 (h3 i hi), fun i => fz_of _ h1, lt_of_block M.pb, lt_of_block M.eb, lt_of_block h1⟩
theorem Em.set (M : Em w0 w bp be bb n vp E) {x : Nat} (hx : x < n) : Em w0 (w.setCell ⟨bb, x, none⟩ (.bool true)) bp be bb n vp (upf E x true) := by
  obtain ⟨arr, h1, h2, h3⟩ := M.ee
  refine ⟨(Below.heap_setCell _ _ _ _ fun e => ?_).trans M.pb, (Below.heap_setCell _ _ _ _ fun e => ?_).trans M.eb, ⟨_, heap_setCell_same _ _ _ _ h1, by simpa using h2, fun i hi => ?_⟩, M.bel.setCell M.lo _, M.lo⟩
  · have := M.pb; rw [e, h1] at this; simp at this
  · have := M.eb; rw [e, h1] at this; simp at this
  · by_cases e : i = x
    · subst e; rw [upf_same, Array.getElem?_setIfInBounds, if_pos rfl, if_pos (by omega)]
    · rw [upf_other _ _ e, Array.getElem?_setIfInBounds, if_neg (fun h => e h.symm)]; exact h3 i hi
set_option maxHeartbeats 1000000 in
theorem marked_any (M : Em w0 w bp be bb n vp E) (R : PtsAt w vp ps) (hn : ps.length = n) {r x : Int} (h1 : -1 ≤ r) (h2 : r < n) (h3 : 0 ≤ x) (h4 : x < n) :
    Calls Try.prog 28 #[.agg #[.int .i64 r, .int .i64 x], .pointer (some ⟨bp, 0, none⟩), .pointer (some ⟨be, 0, none⟩)] w fun e w' => e = .returned (.bool (mkB ps E (r, x))) ∧ Below w.heap.size w w' := by
  obtain ⟨cp, ce, cb, cf, l1, l2, l3⟩ := M.cells
  by_cases hr : r = -1
  · have g1 : (r == -1) = true := by simpa using hr
    have HE := hide (show mkB ps E (r, x) = true by unfold mkB; rw [g1]; rfl)
    clear M R cb cf
    go_enter Try.func28, Try.ntmps28
    go_wp2
    go_quiet (fail)
    go_wp2
    go_ret
    exact ⟨ret_bool HE.out.symm, below_drewN ((Below.refl _ _).alloc (Nat.le_refl _) _) nq⟩
  · have g1 : (r == -1) = false := by simpa using hr
    obtain ⟨rn, rfl⟩ : ∃ rn : Nat, r = rn := ⟨r.toNat, by omega⟩
    obtain ⟨xn, rfl⟩ : ∃ xn : Nat, x = xn := ⟨x.toNat, by omega⟩
    obtain ⟨ao, cap, rfl, hcell⟩ := R
    obtain ⟨p, hp⟩ : ∃ p, ps[rn]? = some p := ⟨ps[rn]'(by omega), by simp⟩
    obtain ⟨q, hq⟩ : ∃ q, ps[xn]? = some q := ⟨ps[xn]'(by omega), by simp⟩
    obtain ⟨g, o, rfl, hg, d0, _⟩ := hcell rn p hp
    obtain ⟨g', o', hgo, hg', d1, _⟩ := hcell xn q hq
    cases hgo
    have e0 := cb rn (by omega)
    have HE := hide (show mkB ps E ((rn : Int), (xn : Int)) = (decide (p.d < q.d) || E rn) by
      unfold mkB
      simp only [Int.toNat_natCast, hp, hq, Option.getD_some]
      rw [g1]; rfl)
    rw [hn] at cp
    generalize hpd : p.d = pd at *
    generalize hqd : q.d = qd at *
    generalize hen : E rn = en at *
    clear M hcell cb cf hpd hqd hen hp hq hn
    cases hd : decide (pd < qd) with
    | true =>
      rw [hd] at HE
      go_enter Try.func28, Try.ntmps28
      go_wp2
      go_quiet (fail)
      go_wp2
      go_ret
      exact ⟨ret_bool (by rw [HE.out]; rfl), below_drewN ((Below.refl _ _).alloc (Nat.le_refl _) _) nq⟩
    | false =>
      rw [hd, Bool.false_or] at HE
      go_enter Try.func28, Try.ntmps28
      go_wp2
      go_quiet (fail)
      go_wp2
      go_ret
      exact ⟨ret_bool (by rw [HE.out]), below_drewN ((Below.refl _ _).alloc (Nat.le_refl _) _) nq⟩
end
end Go.Proofs.Ytlbildodjnjniaa
