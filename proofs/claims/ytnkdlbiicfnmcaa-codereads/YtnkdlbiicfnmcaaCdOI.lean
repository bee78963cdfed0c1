/- The reader's way: instruction. -/
import Derived.Test.YtnkdlbiicfnmcaaCdR4
namespace Go.Proofs.Ytnkdlbiicfnmcaa
open Go.RowKit
theorem RPut.drew {A g o : Nat} {cs : List Value} {w w' : World} (h : RPut A g o cs w w') : RPut A g o cs w w'.drew := ⟨h.os, h.tape, h.output, h.size, h.block, h.self⟩
section
variable {B A : Nat} {w w' : World} {s : Rs} {g o : Nat} {c : Array Value} {t : TypeId}
set_option maxHeartbeats 2000000 in
theorem rinstr_any (L : Rl B A w s) (hl : s.rest.length ≤ MB) (hc : w.heap[g]? = some (.cells c t (0, 0))) (hg : B ≤ g) (hA : g ≠ A) (ho : o + 3 ≤ c.size) :
    Calls Try.prog 43 #[.agg #[ri A], .pointer (some ⟨g, o, none⟩)] w fun e w' => e = .returned (.tuple #[]) ∧ Rl B A w' (insR s).2 ∧ RPut A g o [.int .i64 (insR s).1.o, .int .i64 (insR s).1.a, .int .i64 (insR s).1.b] w w' := by
  have hAl := L.lt
  have hgl := lt_of_block hc
  obtain ⟨W1, hW1⟩ : ∃ W1, w.alloc (.cells #[ri A] 48) = W1 := ⟨_, rfl⟩
  have hb : W1.heap[w.heap.size]? = some (.cells #[ri A] 48 (0, 0)) := by rw [← hW1]; exact heap_new _ _ rfl
  have z1 : W1.heap.size = w.heap.size + 1 := by rw [← hW1]; simp
  have cb0 : W1.cell? ⟨w.heap.size, 0, none⟩ = some (ri A) := cell_of hb rfl
  have F0 := hide (show Fr A w W1.drew from hW1 ▸ Fr.of_below (below_drew ((Below.refl _ _).alloc (Nat.le_refl _) _)))
  have L0 := hide (show Rl B A W1.drew s from hW1 ▸ (L.alloc _).drew)
  have K0 := hide ((F0.out.block g hgl hA).trans hc)
  have HB0 := hide hb
  have HZ := hide z1
  have HGL := hide hgl
  have HAL := hide hAl
  have HA := hide hA
  have HG := hide hg
  have P0 := hide (F0.out.put_same (g := g) (o := o) (cs := []) hc hA (fun r u hu => by simp at hu))
  have SZ0 := hide (show w.heap.size + 1 ≤ W1.drew.heap.size from Nat.le_of_eq z1.symm)
  have M1 := hide (show (numR s).2.rest.length ≤ MB by
    rcases numR_eats s with h | h
    · rw [h]; decide
    · omega)
  have M1' := M1.out
  have M2 := hide (show (numR (numR s).2).2.rest.length ≤ MB by
    rcases numR_eats (numR s).2 with h | h
    · rw [h]; decide
    · omega)
  have HO := hide ho
  have C1 := hide (rnumber_any L0.out hl (g := g) (o := o) K0.out hg hA (by omega))
  have HE := hide (show insR s = (⟨(numR s).1, (numR (numR s).2).1, (numR (numR (numR s).2).2).1⟩, (numR (numR (numR s).2).2).2) from rfl)
  have HSZ := hide (show ∀ (os : List Value) (W : World), RPut A g o os w W → ∃ c', W.heap[g]? = some (.cells c' t (0, 0)) ∧ o + 3 ≤ c'.size from fun os W h => by
    obtain ⟨c', h1, h2, _⟩ := h.self c t hc
    exact ⟨c', h1, by omega⟩)
  clear hb L hc hg hA z1 hgl hAl hl ho M1'
  generalize hn1 : numR s = n1 at *
  generalize hn2 : numR n1.2 = n2 at *
  generalize hn3 : numR n2.2 = n3 at *
  have HN2 := hide hn2
  have HN3 := hide hn3
  clear hn1 hn2 hn3
  go_enter Try.func43, Try.ntmps43
  go_wp2_with fail
  clear hW1
  go_region_held3 (fun W => W.cell? ⟨w.heap.size, 0, none⟩ = some (ri A)) (first | exact cb0 | exact cb1 | go_keep) ((go_simp; go_upon; go_at_call 68; refine C1.out.mono ?_; rintro e w1 ⟨rfl, LX, PX⟩; have cb1 : w1.cell? ⟨w.heap.size, 0, none⟩ = some (ri A) := cell_of ((PX.block w.heap.size (Nat.lt_of_lt_of_le (show w.heap.size < w.heap.size + 1 by omega) SZ0.out) (by have := HAL.out; omega) (by have := HGL.out; omega)).trans HB0.out) rfl))
  have HB1 := hide (show w1.drew.heap[w.heap.size]? = some (.cells #[ri A] 48 (0, 0)) from ((PX.block w.heap.size (Nat.lt_of_lt_of_le (show w.heap.size < w.heap.size + 1 by omega) SZ0.out) (by have := HAL.out; omega) (by have := HGL.out; omega)).trans HB0.out))
  have SZ1 := hide (show w.heap.size + 1 ≤ w1.drew.heap.size from Nat.le_trans SZ0.out PX.size)
  have L1 := hide LX.drew
  have P1 := hide (show RPut A g o ([] ++ [.int .i64 n1.1]) w w1.drew from P0.out.snoc PX.drew)
  clear LX PX cb0 C1 F0 L0 K0 HB0 SZ0 P0
  have C2 := hide (by
    obtain ⟨c', h1, h2⟩ := HSZ.out _ _ P1.out
    have := rnumber_any L1.out M1.out (g := g) (o := o + 1) h1 HG.out HA.out (by omega)
    rw [HN2.out] at this
    exact this)
  go_wp2_with fail
  go_region_held3 (fun W => W.cell? ⟨w.heap.size, 0, none⟩ = some (ri A)) (first | exact cb1 | exact cb2 | go_keep) ((go_simp; go_upon; go_at_call 68; refine C2.out.mono ?_; rintro e w2 ⟨rfl, LX, PX⟩; have cb2 : w2.cell? ⟨w.heap.size, 0, none⟩ = some (ri A) := cell_of ((PX.block w.heap.size (Nat.lt_of_lt_of_le (show w.heap.size < w.heap.size + 1 by omega) SZ1.out) (by have := HAL.out; omega) (by have := HGL.out; omega)).trans HB1.out) rfl))
  have HB2 := hide (show w2.drew.heap[w.heap.size]? = some (.cells #[ri A] 48 (0, 0)) from ((PX.block w.heap.size (Nat.lt_of_lt_of_le (show w.heap.size < w.heap.size + 1 by omega) SZ1.out) (by have := HAL.out; omega) (by have := HGL.out; omega)).trans HB1.out))
  have SZ2 := hide (show w.heap.size + 1 ≤ w2.drew.heap.size from Nat.le_trans SZ1.out PX.size)
  have L2 := hide LX.drew
  have P2 := hide (show RPut A g o ([] ++ [.int .i64 n1.1] ++ [.int .i64 n2.1]) w w2.drew from P1.out.snoc PX.drew)
  clear LX PX cb1 C2 L1 HB1 SZ1 P1
  have C3 := hide (by
    obtain ⟨c', h1, h2⟩ := HSZ.out _ _ P2.out
    have := rnumber_any L2.out M2.out (g := g) (o := o + 2) h1 HG.out HA.out (by omega)
    rw [HN3.out] at this
    exact this)
  go_wp2_with fail
  go_region_held3 (fun W => W.cell? ⟨w.heap.size, 0, none⟩ = some (ri A)) (first | exact cb2 | exact cb3 | go_keep) ((go_simp; go_upon; go_at_call 68; refine C3.out.mono ?_; rintro e w3 ⟨rfl, LX, PX⟩; have cb3 : w3.cell? ⟨w.heap.size, 0, none⟩ = some (ri A) := cell_of ((PX.block w.heap.size (Nat.lt_of_lt_of_le (show w.heap.size < w.heap.size + 1 by omega) SZ2.out) (by have := HAL.out; omega) (by have := HGL.out; omega)).trans HB2.out) rfl))
  have HB3 := hide (show w3.drew.heap[w.heap.size]? = some (.cells #[ri A] 48 (0, 0)) from ((PX.block w.heap.size (Nat.lt_of_lt_of_le (show w.heap.size < w.heap.size + 1 by omega) SZ2.out) (by have := HAL.out; omega) (by have := HGL.out; omega)).trans HB2.out))
  have SZ3 := hide (show w.heap.size + 1 ≤ w3.drew.heap.size from Nat.le_trans SZ2.out PX.size)
  have L3 := hide LX.drew
  have P3 := hide (show RPut A g o ([] ++ [.int .i64 n1.1] ++ [.int .i64 n2.1] ++ [.int .i64 n3.1]) w w3 from P2.out.snoc PX)
  have HL := hide LX
  clear LX PX cb2 cb3 C3 L2 HB2 SZ2 P2 HB3 SZ3 L3
  go_wp2
  go_returns
  rw [HE.out]
  exact ⟨rfl, HL.out, P3.out⟩
theorem ritem_I (L : Rl B A w s) (hl : s.rest.length ≤ MB) (hc : w.heap[g]? = some (.cells c 60 (0, 0))) (hg : B ≤ g) (hA : g ≠ A) (ho : o + 3 ≤ c.size) (_hz : ∀ (r : Nat) (u : Value), (#[.int .i64 0, .int .i64 0, .int .i64 0] : Array Value)[r]? = some u → c[o + r]? = some u) :
    RItem 3 InsP insR 43 (fun p => #[.agg #[ri A], p]) B A g o w s := by
  refine (rinstr_any L hl hc hg hA ho).mono ?_
  rintro e w' ⟨rfl, h1, h2⟩
  exact ⟨rfl, _, rfl, h1, ⟨rfl, numR_in _, numR_in _, numR_in _⟩, h2⟩
end
end Go.Proofs.Ytnkdlbiicfnmcaa
