/- A set's methods: add, less, join. -/
import Derived.Test.YtaejhppfcmeopaaLvA
namespace Go.Proofs.Ytaejhppfcmeopaa
open Go.RowKit
theorem bits_andNot_u64_nat (a b c : Nat) (ha : a < 18446744073709551616) (hb : b < 18446744073709551616) (hc : c < 18446744073709551616) (h : ∀ i, c.testBit i = (a.testBit i && !b.testBit i)) :
    bits .andNot .u64 (a : Int) (b : Int) = (c : Int) := by
  have h1 : (BitVec.ofInt 64 (a : Int)).toNat = a := by
    rw [BitVec.ofInt_natCast, BitVec.toNat_ofNat]; exact Nat.mod_eq_of_lt (by omega)
  have h2 : (BitVec.ofInt 64 (b : Int)).toNat = b := by
    rw [BitVec.ofInt_natCast, BitVec.toNat_ofNat]; exact Nat.mod_eq_of_lt (by omega)
  show IntKind.u64.wrap ((BitVec.ofInt 64 (a : Int) &&& ~~~BitVec.ofInt 64 (b : Int)).toNat : Int) = _
  have he : (BitVec.ofInt 64 (a : Int) &&& ~~~BitVec.ofInt 64 (b : Int)).toNat = c := by
    apply Nat.eq_of_testBit_eq
    intro i
    rw [BitVec.toNat_and, BitVec.toNat_not, h1, h2, Nat.testBit_and, h i]
    by_cases hi : i < 64
    · rw [show 2 ^ 64 - 1 - b = 2 ^ 64 - (b + 1) by omega, Nat.testBit_two_pow_sub_succ (by omega), decide_eq_true hi, Bool.true_and]
    · have : a.testBit i = false := Nat.testBit_lt_two_pow (Nat.lt_of_lt_of_le (show a < 2 ^ 64 from ha) (Nat.pow_le_pow_right (by decide) (by omega)))
      rw [this, Bool.false_and, Bool.false_and]
  rw [he, IntKind.wrap_u64]
  omega
/-- Words of two sets: those below i of p. -/
def mixc (i p q : Nat) : Array Value := ((List.range 8).map fun k => if k < i then Value.int .u64 (wd p k) else Value.int .u64 (wd q k)).toArray
theorem mixc_get {i p q k : Nat} (h : k < 8) : (mixc i p q)[k]? = some (if k < i then Value.int .u64 (wd p k) else Value.int .u64 (wd q k)) := by simp [mixc, h]
theorem mixc_size (i p q : Nat) : (mixc i p q).size = 8 := by simp [mixc]
theorem mixc_zero (p q : Nat) : mixc 0 p q = wc q := wc_of (mixc_size _ _ _) fun k hk => by rw [mixc_get hk, if_neg (by omega)]
theorem mixc_full (p q : Nat) : mixc 8 p q = wc p := wc_of (mixc_size _ _ _) fun k hk => by rw [mixc_get hk, if_pos hk]
theorem mixc_next {i : Nat} (p q : Nat) : (mixc i p q).setIfInBounds i (.int .u64 (wd p i)) = mixc (i + 1) p q := by
  apply Array.ext_getElem?
  intro k
  rcases Nat.lt_or_ge k 8 with h | h
  · rw [Array.getElem?_setIfInBounds, mixc_get h, mixc_get h, mixc_size]
    by_cases e : i = k
    · subst e; simp [h]
    · rw [if_neg e]
      by_cases e2 : k < i
      · rw [if_pos e2, if_pos (by omega)]
      · rw [if_neg e2, if_neg (by omega)]
  · rw [Array.getElem?_eq_none (by simpa [mixc_size] using h), Array.getElem?_eq_none (by simpa [mixc_size] using h)]
theorem mixc_cur {i p q : Nat} (h : i < 8) : (mixc i p q)[i]? = some (.int .u64 (wd q i)) := by rw [mixc_get h, if_neg (by omega)]
section
variable {w w' : World}
set_option maxHeartbeats 1000000 in
/-- add: the word is stored. -/
theorem add_any {g o m b : Nat} (h : SetAt w g o m) (hf : w.frozen? ⟨g, o + b / 64, none⟩ = false) (hb : b < 512) :
    Calls Try.prog 42 #[.pointer (some ⟨g, o, none⟩), .int .i64 b] w fun e w' => (∃ v, e = .returned v) ∧ w' = (w.setCell ⟨g, o + b / 64, none⟩ (.int .u64 (wd (m ||| 2 ^ b) (b / 64) : Nat))).drew := by
  have hc := h (b / 64) (by omega)
  have hor := or_word (wd m (b / 64)) b (wd_lt _ _)
  rw [← wd_add_same] at hor
  have e1 : (b : Int) / 64 = ((b / 64 : Nat) : Int) := by omega
  have e2 : (b : Int) % 64 = ((b % 64 : Nat) : Int) := by omega
  have b1 : b / 64 < 8 := by omega
  have b2 : b % 64 < 64 := Nat.mod_lt _ (by decide)
  have b3 : (b : Int) < 512 := by omega
  clear h
  generalize wd m (b / 64) = x at *
  generalize wd (m ||| 2 ^ b) (b / 64) = y at *
  generalize b / 64 = k at *
  generalize b % 64 = r at *
  go_enter Try.func42, Try.ntmps42
  go_wp2_with fail
  go_region
  go_returns
  exact ⟨⟨_, rfl⟩, rfl⟩
/-- Between two rounds of less. -/
structure Lm (w wr : World) (m t j : Nat) : Prop where
  bel : Below w.heap.size w wr
  a : wr.heap[w.heap.size]? = some (.cells (mixc j (less m t) m) 64 (0, 0))
  b : BoxS wr (w.heap.size + 1) t
  c : wr.heap[w.heap.size + 1 + 1]? = some (.cells zc 64 (0, 0))
theorem Lm.next {wr : World} {m t j : Nat} (L : Lm w wr m t j) : Lm w (wr.setCell ⟨w.heap.size, j, none⟩ (.int .u64 (wd (less m t) j))).drew m t (j + 1) := by
  refine ⟨(L.bel.setCell (Nat.le_refl _) _).drew, ?_, ?_, ?_⟩
  · show (wr.setCell ⟨w.heap.size, j, none⟩ _).heap[w.heap.size]? = _
    rw [heap_setCell_same _ _ _ _ L.a, mixc_next]
  · exact L.b.keep (Below.heap_setCell _ _ _ _ (by simp))
  · exact (Below.heap_setCell _ _ _ _ (show w.heap.size + 1 + 1 ≠ w.heap.size by omega)).trans L.c
set_option maxHeartbeats 1000000 in
theorem less_any {m t : Nat} (hm : Sm m) : Calls Try.prog 50 #[setV m, setV t] w fun e w' => e = .returned (setV (less m t)) ∧ Below w.heap.size w w' := by
  have L0 : Lm w (((w.alloc (.cells (wc m) 64)).alloc (.cells (wc t) 64)).alloc (.cells zc 64)) m t 0 := by
    refine ⟨(((Below.refl _ _).alloc (Nat.le_refl _) _).alloc (by simp) _).alloc (by simp; omega) _, ?_, ?_, ?_⟩
    · rw [mixc_zero, heap_under _ _ (by simp; omega), heap_under _ _ (by simp)]; exact heap_new _ _ rfl
    · unfold BoxS; rw [heap_under _ _ (by simp)]; exact heap_new _ _ (by simp)
    · exact heap_new _ _ (by simp)
  go_enter Try.func50, Try.ntmps50
  go_wp2
  go_loopw [5, 6] (fun _ i wr => ∃ j : Nat, j ≤ 8 ∧ i = .int .i64 j ∧ Hid (Lm w wr m t j)) (fun _ i _ => 8 - (intOf i).toNat)
  case atStart => exact ⟨0, Nat.zero_le _, rfl, L0⟩
  case round =>
    obtain ⟨j, hj, rfl, HL⟩ := hrel
    by_cases hlt : j < 8
    · have L := HL.out
      have c0 : wr.cell? ⟨w.heap.size, j, none⟩ = some (.int .u64 (wd m j)) := cell_of L.a (mixc_cur hlt)
      have c1 := L.b.at j hlt
      rw [Nat.zero_add] at c1
      have f0 := fz_of j L.a
      have s0 : w.heap.size < wr.heap.size := lt_of_block L.a
      have s1 : w.heap.size + 1 < wr.heap.size := L.b.lt
      have hw := bits_andNot_u64_nat (wd m j) (wd t j) (wd (less m t) j) (wd_lt _ _) (wd_lt _ _) (wd_lt _ _) (wd_less hm j)
      have b1 : (j : Int) < 8 := by omega
      clear HL
      have HN := hide L.next
      clear L
      generalize wd m j = x at *
      generalize wd t j = y at *
      generalize wd (less m t) j = z at *
      go_wp2_with fail
      go_region
      go_wp2
      go_roundw
      case rel => exact ⟨j + 1, by omega, by go_num, HN.out⟩
      case measure => simp [intOf]; omega
    · obtain rfl : j = 8 := by omega
      have L := HL.out
      have la := L.a
      rw [mixc_full] at la
      have lc := L.c
      have s0 : w.heap.size < wr.heap.size := lt_of_block L.a
      have s2 : w.heap.size + 1 + 1 < wr.heap.size := lt_of_block L.c
      have HB := hide L.bel
      obtain ⟨a0, a1, a2, a3, a4, a5, a6, a7⟩ := BoxS.all la
      obtain ⟨⟨c0, c1, c2, c3, c4, c5, c6, c7⟩, f0, f1, f2, f3, f4, f5, f6, f7⟩ := zbox lc
      have LC := hide lc
      have hv : setV (less m t) = .agg #[.int .u64 (wd (less m t) 0), .int .u64 (wd (less m t) 1), .int .u64 (wd (less m t) 2), .int .u64 (wd (less m t) 3), .int .u64 (wd (less m t) 4), .int .u64 (wd (less m t) 5), .int .u64 (wd (less m t) 6), .int .u64 (wd (less m t) 7)] := rfl
      clear HL L la lc
      generalize wd (less m t) 0 = x0 at *
      generalize wd (less m t) 1 = x1 at *
      generalize wd (less m t) 2 = x2 at *
      generalize wd (less m t) 3 = x3 at *
      generalize wd (less m t) 4 = x4 at *
      generalize wd (less m t) 5 = x5 at *
      generalize wd (less m t) 6 = x6 at *
      generalize wd (less m t) 7 = x7 at *
      go_wp2
      have hk : Kp (fun j => j = w.heap.size + 1 + 1) wr (((((((((wr).setCell ⟨w.heap.size + 1 + 1, 0, none⟩ (.int .u64 x0)).setCell ⟨w.heap.size + 1 + 1, 1, none⟩ (.int .u64 x1)).setCell ⟨w.heap.size + 1 + 1, 2, none⟩ (.int .u64 x2)).setCell ⟨w.heap.size + 1 + 1, 3, none⟩ (.int .u64 x3)).setCell ⟨w.heap.size + 1 + 1, 4, none⟩ (.int .u64 x4)).setCell ⟨w.heap.size + 1 + 1, 5, none⟩ (.int .u64 x5)).setCell ⟨w.heap.size + 1 + 1, 6, none⟩ (.int .u64 x6)).setCell ⟨w.heap.size + 1 + 1, 7, none⟩ (.int .u64 x7)) := st8_kp wr _ _ _ _ _ _ _ _ _
      obtain ⟨⟨y0, y1, y2, y3, y4, y5, y6, y7⟩, _⟩ := zbox (w := ((((((((wr).setCell ⟨w.heap.size + 1 + 1, 0, none⟩ (.int .u64 x0)).setCell ⟨w.heap.size + 1 + 1, 1, none⟩ (.int .u64 x1)).setCell ⟨w.heap.size + 1 + 1, 2, none⟩ (.int .u64 x2)).setCell ⟨w.heap.size + 1 + 1, 3, none⟩ (.int .u64 x3)).setCell ⟨w.heap.size + 1 + 1, 4, none⟩ (.int .u64 x4)).setCell ⟨w.heap.size + 1 + 1, 5, none⟩ (.int .u64 x5)).setCell ⟨w.heap.size + 1 + 1, 6, none⟩ (.int .u64 x6)).setCell ⟨w.heap.size + 1 + 1, 7, none⟩ (.int .u64 x7)) (st8_heap (x0 := .int .u64 x0) (x1 := .int .u64 x1) (x2 := .int .u64 x2) (x3 := .int .u64 x3) (x4 := .int .u64 x4) (x5 := .int .u64 x5) (x6 := .int .u64 x6) (x7 := .int .u64 x7) LC.out)
      generalize ((((((((wr).setCell ⟨w.heap.size + 1 + 1, 0, none⟩ (.int .u64 x0)).setCell ⟨w.heap.size + 1 + 1, 1, none⟩ (.int .u64 x1)).setCell ⟨w.heap.size + 1 + 1, 2, none⟩ (.int .u64 x2)).setCell ⟨w.heap.size + 1 + 1, 3, none⟩ (.int .u64 x3)).setCell ⟨w.heap.size + 1 + 1, 4, none⟩ (.int .u64 x4)).setCell ⟨w.heap.size + 1 + 1, 5, none⟩ (.int .u64 x5)).setCell ⟨w.heap.size + 1 + 1, 6, none⟩ (.int .u64 x6)).setCell ⟨w.heap.size + 1 + 1, 7, none⟩ (.int .u64 x7) = W at *
      refine bodyPost_ret (by simp [results, Try.results50, go_sem, y0, y1, y2, y3, y4, y5, y6, y7]; try rfl) rfl ?_
      exact ⟨by rw [hv], hk.below (Nat.le_refl _) HB.out (fun j hj => by omega)⟩
/-- Between two rounds of join. -/
structure Jm (w wr : World) (g m t j : Nat) : Prop where
  kp : Kp (fun j => j = g) w wr
  a : wr.heap[g]? = some (.cells (mixc j (m ||| t) m) 64 (0, 0))
  b : BoxS wr w.heap.size t
theorem Jm.next {wr : World} {g m t j : Nat} (L : Jm w wr g m t j) (hg : g < w.heap.size) : Jm w (wr.setCell ⟨g, j, none⟩ (.int .u64 (wd (m ||| t) j))).drew g m t (j + 1) := by
  refine ⟨(L.kp.trans (Kp.setCell _ _ _)).drew, ?_, ?_⟩
  · show (wr.setCell ⟨g, j, none⟩ _).heap[g]? = _
    rw [heap_setCell_same _ _ _ _ L.a, mixc_next]
  · exact L.b.keep (Below.heap_setCell _ _ _ _ (by simp; omega))
set_option maxHeartbeats 1000000 in
theorem join_any {g m t : Nat} (h : BoxS w g m) : Calls Try.prog 51 #[.pointer (some ⟨g, 0, none⟩), setV t] w fun e w' => (∃ v, e = .returned v) ∧ BoxS w' g (m ||| t) ∧ Kp (fun j => j = g) w w' := by
  have hg := h.lt
  have L0 : Jm w (w.alloc (.cells (wc t) 64)) g m t 0 := by
    refine ⟨Kp.of_below ((Below.refl _ _).alloc (Nat.le_refl _) _), ?_, BoxS.new _ _⟩
    rw [mixc_zero, heap_under _ _ hg]; exact h
  have HG := hide hg
  clear h
  go_enter Try.func51, Try.ntmps51
  go_wp2
  go_loopw [4, 5] (fun _ i wr => ∃ j : Nat, j ≤ 8 ∧ i = .int .i64 j ∧ Hid (Jm w wr g m t j)) (fun _ i _ => 8 - (intOf i).toNat)
  case atStart => exact ⟨0, Nat.zero_le _, rfl, L0⟩
  case round =>
    obtain ⟨j, hj, rfl, HL⟩ := hrel
    by_cases hlt : j < 8
    · have L := HL.out
      have c0 : wr.cell? ⟨g, j, none⟩ = some (.int .u64 (wd m j)) := cell_of L.a (mixc_cur hlt)
      have c1 := L.b.at j hlt
      rw [Nat.zero_add] at c1
      have f0 := fz_of j L.a
      have s0 : g < wr.heap.size := lt_of_block L.a
      have s1 : w.heap.size < wr.heap.size := L.b.lt
      have hw : bits .or .u64 (wd m j : Int) (wd t j : Int) = ((wd (m ||| t) j : Nat) : Int) := by rw [wd_or]; exact bits_or_u64_nat _ _ (wd_lt _ _) (wd_lt _ _)
      have b1 : (j : Int) < 8 := by omega
      clear HL
      have HN := hide (L.next HG.out)
      clear L
      generalize wd m j = x at *
      generalize wd t j = y at *
      generalize wd (m ||| t) j = z at *
      go_wp2_with fail
      go_region
      go_wp2
      go_roundw
      case rel => exact ⟨j + 1, by omega, by go_num, HN.out⟩
      case measure => simp [intOf]; omega
    · obtain rfl : j = 8 := by omega
      have L := HL.out
      have la := L.a
      rw [mixc_full] at la
      have HA := hide la
      have HK := hide L.kp
      clear HL L la
      go_wp2
      go_returns
      exact ⟨⟨_, rfl⟩, HA.out, HK.out⟩
end
end Go.Proofs.Ytaejhppfcmeopaa
