/- The reader's way: numbers, layout. -/
import Derived.Test.YtnkdlbiicfnmcaaCdKN
namespace Go.Proofs.Ytnkdlbiicfnmcaa
open Go.RowKit
section
variable {B A : Nat} {w w' : World} {s : Rs} {g o : Nat} {c : Array Value} {t : TypeId}
set_option maxHeartbeats 1000000 in
theorem rnumbers_any (L : Rl B A w s) (hl : s.rest.length ≤ MB) (hc : w.heap[g]? = some (.cells c t (0, 0))) (hg : B ≤ g) (hA : g ≠ A) (hco : c[o]? = some (.slice none 0 0)) (htT : t ≠ 3) (hwt : 48 ≠ t) :
    Calls Try.prog 38 #[.agg #[ri A], .pointer (some ⟨g, o, none⟩)] w fun e w' => e = .returned (.tuple #[]) ∧ ∃ v, Rl B A w' (intsR s).2 ∧ RowP 3 1 IntP 0 w' v (intsR s).1 ∧ RPut A g o [v] w w' := by
  have hAl := L.lt
  have hgl := lt_of_block hc
  obtain ⟨W1, hW1⟩ : ∃ W1, w.alloc (.cells #[ri A] 48) = W1 := ⟨_, rfl⟩
  have hb : W1.heap[w.heap.size]? = some (.cells #[ri A] 48 (0, 0)) := by rw [← hW1]; exact heap_new _ _ rfl
  have z1 : W1.heap.size = w.heap.size + 1 := by rw [← hW1]; simp
  have cb : W1.cell? ⟨w.heap.size, 0, none⟩ = some (ri A) := cell_of hb rfl
  have F0 := hide (show Fr A w W1.drew from hW1 ▸ Fr.of_below (below_drew ((Below.refl _ _).alloc (Nat.le_refl _) _)))
  have L1 := hide (show Rl B A W1.drew s from hW1 ▸ (L.alloc _).drew)
  have HC := hide (rlistN_any L1.out hl (g := g) (o := o) ((F0.out.block g hgl hA).trans hc) hg hA hco htT hwt)
  have HB := hide hb
  have HZ := hide z1
  have HGL := hide hgl
  have HAL := hide hAl
  have HA := hide hA
  clear hb L hc hg hA hco htT hwt z1 hgl hAl hl
  go_enter Try.func38, Try.ntmps38
  go_wp2_with fail
  clear hW1
  go_region_held3 (fun W => W.cell? ⟨w.heap.size, 0, none⟩ = some (ri A)) (first | exact cb | exact cb2 | go_keep) ((go_simp; go_at_call 44; refine HC.out.mono ?_; rintro e w2 ⟨rfl, v2, LX, RX, PX⟩; have cb2 : w2.cell? ⟨w.heap.size, 0, none⟩ = some (ri A) := cell_of ((PX.block w.heap.size (show w.heap.size < W1.heap.size by rw [HZ.out]; omega) (by have := HAL.out; omega) (by have := HGL.out; omega)).trans HB.out) rfl))
  have HLX := hide LX
  have HRX := hide RX
  have HPX := hide (F0.out.put PX HGL.out HA.out)
  clear LX RX PX cb cb2 HC F0 L1 HB
  go_wp2
  go_returns
  exact ⟨rfl, v2, HLX.out, HRX.out, HPX.out⟩
set_option maxHeartbeats 1000000 in
theorem rlayout_any (L : Rl B A w s) (hl : s.rest.length ≤ MB) (hc : w.heap[g]? = some (.cells c t (0, 0))) (hg : B ≤ g) (hA : g ≠ A) (hco : c[o]? = some (.slice none 0 0)) (htT : t ≠ 3) (hwt : 48 ≠ t) :
    Calls Try.prog 34 #[.agg #[ri A], .pointer (some ⟨g, o, none⟩)] w fun e w' => e = .returned (.tuple #[]) ∧ ∃ v, Rl B A w' (intsR s).2 ∧ RowP 3 1 IntP 0 w' v (intsR s).1 ∧ RPut A g o [v] w w' := by
  have hAl := L.lt
  have hgl := lt_of_block hc
  obtain ⟨W1, hW1⟩ : ∃ W1, w.alloc (.cells #[ri A] 48) = W1 := ⟨_, rfl⟩
  have hb : W1.heap[w.heap.size]? = some (.cells #[ri A] 48 (0, 0)) := by rw [← hW1]; exact heap_new _ _ rfl
  have z1 : W1.heap.size = w.heap.size + 1 := by rw [← hW1]; simp
  have cb : W1.cell? ⟨w.heap.size, 0, none⟩ = some (ri A) := cell_of hb rfl
  have F0 := hide (show Fr A w W1.drew from hW1 ▸ Fr.of_below (below_drew ((Below.refl _ _).alloc (Nat.le_refl _) _)))
  have L1 := hide (show Rl B A W1.drew s from hW1 ▸ (L.alloc _).drew)
  have HC := hide (rnumbers_any L1.out hl (g := g) (o := o) ((F0.out.block g hgl hA).trans hc) hg hA hco htT hwt)
  have HB := hide hb
  have HZ := hide z1
  have HGL := hide hgl
  have HAL := hide hAl
  have HA := hide hA
  clear hb L hc hg hA hco htT hwt z1 hgl hAl hl
  go_enter Try.func34, Try.ntmps34
  go_wp2_with fail
  clear hW1
  go_region_held3 (fun W => W.cell? ⟨w.heap.size, 0, none⟩ = some (ri A)) (first | exact cb | exact cb2 | go_keep) ((go_simp; go_at_call 38; refine HC.out.mono ?_; rintro e w2 ⟨rfl, v2, LX, RX, PX⟩; have cb2 : w2.cell? ⟨w.heap.size, 0, none⟩ = some (ri A) := cell_of ((PX.block w.heap.size (show w.heap.size < W1.heap.size by rw [HZ.out]; omega) (by have := HAL.out; omega) (by have := HGL.out; omega)).trans HB.out) rfl))
  have HLX := hide LX
  have HRX := hide RX
  have HPX := hide (F0.out.put PX HGL.out HA.out)
  clear LX RX PX cb cb2 HC F0 L1 HB
  go_wp2
  go_returns
  exact ⟨rfl, v2, HLX.out, HRX.out, HPX.out⟩
theorem ritem_L (L : Rl B A w s) (hl : s.rest.length ≤ MB) (hc : w.heap[g]? = some (.cells c 55 (0, 0))) (hg : B ≤ g) (hA : g ≠ A) (_ho : o + 1 ≤ c.size) (hz : ∀ (r : Nat) (u : Value), (#[.slice none 0 0] : Array Value)[r]? = some u → c[o + r]? = some u) :
    RItem 1 RLst intsR 34 (fun p => #[.agg #[ri A], p]) B A g o w s := by
  refine (rlayout_any L hl hc hg hA (hz 0 _ rfl) (by decide) (by decide)).mono ?_
  rintro e w' ⟨rfl, v, h1, h2, h3⟩
  exact ⟨rfl, _, rfl, h1, ⟨v, rfl, h2⟩, h3⟩
theorem ritem_T (L : Rl B A w s) (hl : s.rest.length ≤ MB) (hc : w.heap[g]? = some (.cells c 53 (0, 0))) (hg : B ≤ g) (hA : g ≠ A) (_ho : o + 1 ≤ c.size) (hz : ∀ (r : Nat) (u : Value), (#[.slice none 0 0] : Array Value)[r]? = some u → c[o + r]? = some u) :
    RItem 1 RLst intsR 38 (fun p => #[.agg #[ri A], p]) B A g o w s := by
  refine (rnumbers_any L hl hc hg hA (hz 0 _ rfl) (by decide) (by decide)).mono ?_
  rintro e w' ⟨rfl, v, h1, h2, h3⟩
  exact ⟨rfl, _, rfl, h1, ⟨v, rfl, h2⟩, h3⟩
end
end Go.Proofs.Ytnkdlbiicfnmcaa
