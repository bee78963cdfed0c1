/- The reader's way: function. -/
import Derived.Test.YtnkdlbiicfnmcaaCdKI
import Derived.Test.YtnkdlbiicfnmcaaCdO
namespace Go.Proofs.Ytnkdlbiicfnmcaa
open Go.RowKit
section
variable {B A : Nat} {w w' : World} {s : Rs} {g o : Nat} {c : Array Value}
set_option maxHeartbeats 4000000 in
theorem rfunc_any (L : Rl B A w s) (hl : s.rest.length ≤ MB) (hc : w.heap[g]? = some (.cells c 58 (0, 0))) (hg : B ≤ g) (hA : g ≠ A) (ho : o + 5 ≤ c.size) (hz : ∀ (r : Nat) (u : Value), (#[.int .i64 0, .slice none 0 0, .slice none 0 0, .slice none 0 0, .slice none 0 0] : Array Value)[r]? = some u → c[o + r]? = some u) :
    Calls Try.prog 36 #[.agg #[ri A], .pointer (some ⟨g, o, none⟩)] w fun e w' => e = .returned (.tuple #[]) ∧ ∃ cs, cs.length = 5 ∧ Rl B A w' (fdR s).2 ∧ RFd w' cs (fdR s).1 ∧ RPut A g o cs w w' := by
  have hAl := L.lt
  have hgl := lt_of_block hc
  obtain ⟨W1, hW1⟩ : ∃ W1, w.alloc (.cells #[ri A] 48) = W1 := ⟨_, rfl⟩
  have hb : W1.heap[w.heap.size]? = some (.cells #[ri A] 48 (0, 0)) := by rw [← hW1]; exact heap_new _ _ rfl
  have z1 : W1.heap.size = w.heap.size + 1 := by rw [← hW1]; simp
  have cb0 : W1.cell? ⟨w.heap.size, 0, none⟩ = some (ri A) := cell_of hb rfl
  have F0 := hide (show Fr A w W1.drew from hW1 ▸ Fr.of_below (below_drew ((Below.refl _ _).alloc (Nat.le_refl _) _)))
  have L0 := hide (show Rl B A W1.drew s from hW1 ▸ (L.alloc _).drew)
  have K0 := hide ((F0.out.block g hgl hA).trans hc)
  have HB0 := hide hb
  have HZ := hide z1
  have HGL := hide hgl
  have HAL := hide hAl
  have HA := hide hA
  have HG := hide hg
  have P0 := hide (F0.out.put_same (g := g) (o := o) (cs := []) hc hA (fun r u hu => by simp at hu))
  have SZ0 := hide (show w.heap.size + 1 ≤ W1.drew.heap.size from Nat.le_of_eq z1.symm)
  have HO := hide ho
  have HE := hide (show fdR s = (⟨(numR s).1, (intsR (numR s).2).1, (intsR (intsR (numR s).2).2).1, (intsR (intsR (intsR (numR s).2).2).2).1, (lstR insR (intsR (intsR (intsR (numR s).2).2).2).2).1⟩, (lstR insR (intsR (intsR (intsR (numR s).2).2).2).2).2) by simp only [fdR])
  have HIN := hide (numR_in s)
  have M1 := hide (show (numR s).2.rest.length ≤ MB by
    rcases numR_eats s with h | h
    · rw [h]; decide
    · omega)
  have ML := hide (show ∀ q : Rs, q.rest.length ≤ MB → (intsR q).2.rest.length ≤ MB from fun q hq => by
    rcases intsR_eats q with h | h
    · rw [h]; decide
    · omega)
  have M2 := hide (ML.out _ M1.out)
  have M3 := hide (ML.out _ M2.out)
  have M4 := hide (ML.out _ M3.out)
  have C1 := hide (rnumber_any L0.out hl (g := g) (o := o) K0.out hg hA (by omega))
  have HSZ := hide (show ∀ (os : List Value) (W : World) (r : Nat), RPut A g o os w W → os.length = r → 1 ≤ r → r < 5 → ∃ c', W.heap[g]? = some (.cells c' 58 (0, 0)) ∧ o + 5 ≤ c'.size ∧ c'[o + r]? = some (.slice none 0 0) from fun os W r h hr h0 h5 => by
    obtain ⟨c', h1, h2, _, h4⟩ := h.self c _ hc
    refine ⟨c', h1, by omega, ?_⟩
    rw [h4 _ (by omega)]
    refine hz r _ ?_
    rcases (show r = 1 ∨ r = 2 ∨ r = 3 ∨ r = 4 by omega) with rfl | rfl | rfl | rfl <;> rfl)
  clear hb L hc hg hA z1 hgl hAl hl ho hz ML
  generalize hn1 : numR s = n1 at *
  generalize hn2 : intsR n1.2 = n2 at *
  generalize hn3 : intsR n2.2 = n3 at *
  generalize hn4 : intsR n3.2 = n4 at *
  generalize hn5 : lstR insR n4.2 = n5 at *
  have HN2 := hide hn2
  have HN3 := hide hn3
  have HN4 := hide hn4
  have HN5 := hide hn5
  clear hn1 hn2 hn3 hn4 hn5
  go_enter Try.func36, Try.ntmps36
  go_wp2_with fail
  clear hW1
  go_region_held3 (fun W => W.cell? ⟨w.heap.size, 0, none⟩ = some (ri A)) (first | exact cb0 | exact cb1 | go_keep) ((go_simp; go_upon; go_at_call 68; refine C1.out.mono ?_; rintro e w1 ⟨rfl, LX, PX⟩; have cb1 : w1.cell? ⟨w.heap.size, 0, none⟩ = some (ri A) := cell_of ((PX.block w.heap.size (Nat.lt_of_lt_of_le (show w.heap.size < w.heap.size + 1 by omega) SZ0.out) (by have := HAL.out; omega) (by have := HGL.out; omega)).trans HB0.out) rfl))
  have HB1 := hide (show w1.drew.heap[w.heap.size]? = some (.cells #[ri A] 48 (0, 0)) from ((PX.block w.heap.size (Nat.lt_of_lt_of_le (show w.heap.size < w.heap.size + 1 by omega) SZ0.out) (by have := HAL.out; omega) (by have := HGL.out; omega)).trans HB0.out))
  have SZ1 := hide (show w.heap.size + 1 ≤ w1.drew.heap.size from Nat.le_trans SZ0.out PX.size)
  have L1 := hide LX.drew
  have P1 := hide (show RPut A g o ([] ++ [.int .i64 n1.1]) w w1.drew from P0.out.snoc PX.drew)
  clear LX PX cb0 C1 F0 L0 K0 HB0 SZ0 P0
  have C2 := hide (by
    obtain ⟨c', h1, h2, h3⟩ := HSZ.out _ _ 1 P1.out rfl (by decide) (by decide)
    have := rnumbers_any L1.out M1.out (g := g) (o := o + 1) h1 HG.out HA.out h3 (by decide) (by decide)
    rw [HN2.out] at this
    exact this)
  have SMX2 := hide (show ∀ (W : World) (v : Value), RPut A g (o + 1) [v] w1.drew W → SmX [71, 58] w1.drew W from fun W v h => by
    obtain ⟨c', h1, h2, h3⟩ := HSZ.out _ _ 1 P1.out rfl (by decide) (by decide)
    exact h.sm L1.out h1)
  go_wp2_with fail
  go_region_held3 (fun W => W.cell? ⟨w.heap.size, 0, none⟩ = some (ri A)) (first | exact cb1 | exact cb2 | go_keep) ((go_simp; go_at_call 38; refine C2.out.mono ?_; rintro e w2 ⟨rfl, v2, LX, RX, PX⟩; have cb2 : w2.cell? ⟨w.heap.size, 0, none⟩ = some (ri A) := cell_of ((PX.block w.heap.size (Nat.lt_of_lt_of_le (show w.heap.size < w.heap.size + 1 by omega) SZ1.out) (by have := HAL.out; omega) (by have := HGL.out; omega)).trans HB1.out) rfl))
  have HB2 := hide (show w2.drew.heap[w.heap.size]? = some (.cells #[ri A] 48 (0, 0)) from ((PX.block w.heap.size (Nat.lt_of_lt_of_le (show w.heap.size < w.heap.size + 1 by omega) SZ1.out) (by have := HAL.out; omega) (by have := HGL.out; omega)).trans HB1.out))
  have SZ2 := hide (show w.heap.size + 1 ≤ w2.drew.heap.size from Nat.le_trans SZ1.out PX.size)
  have L2 := hide LX.drew
  have P2 := hide (show RPut A g o ([] ++ [.int .i64 n1.1] ++ [v2]) w w2.drew from P1.out.snoc PX.drew)
  have Q2 := hide (show RowP 3 1 IntP 0 w2.drew v2 n2.1 from RX.keep (int_keep []) (by decide) (fun _ _ _ _ _ _ => rfl))
  clear LX RX PX cb1 C2 L1 HB1 SZ1 P1 SMX2
  have C3 := hide (by
    obtain ⟨c', h1, h2, h3⟩ := HSZ.out _ _ 2 P2.out rfl (by decide) (by decide)
    have := rnumbers_any L2.out M2.out (g := g) (o := o + 2) h1 HG.out HA.out h3 (by decide) (by decide)
    rw [HN3.out] at this
    exact this)
  have SMX3 := hide (show ∀ (W : World) (v : Value), RPut A g (o + 2) [v] w2.drew W → SmX [71, 58] w2.drew W from fun W v h => by
    obtain ⟨c', h1, h2, h3⟩ := HSZ.out _ _ 2 P2.out rfl (by decide) (by decide)
    exact h.sm L2.out h1)
  go_wp2_with fail
  go_region_held3 (fun W => W.cell? ⟨w.heap.size, 0, none⟩ = some (ri A)) (first | exact cb2 | exact cb3 | go_keep) ((go_simp; go_at_call 38; refine C3.out.mono ?_; rintro e w3 ⟨rfl, v3, LX, RX, PX⟩; have cb3 : w3.cell? ⟨w.heap.size, 0, none⟩ = some (ri A) := cell_of ((PX.block w.heap.size (Nat.lt_of_lt_of_le (show w.heap.size < w.heap.size + 1 by omega) SZ2.out) (by have := HAL.out; omega) (by have := HGL.out; omega)).trans HB2.out) rfl))
  have HB3 := hide (show w3.drew.heap[w.heap.size]? = some (.cells #[ri A] 48 (0, 0)) from ((PX.block w.heap.size (Nat.lt_of_lt_of_le (show w.heap.size < w.heap.size + 1 by omega) SZ2.out) (by have := HAL.out; omega) (by have := HGL.out; omega)).trans HB2.out))
  have SZ3 := hide (show w.heap.size + 1 ≤ w3.drew.heap.size from Nat.le_trans SZ2.out PX.size)
  have L3 := hide LX.drew
  have P3 := hide (show RPut A g o ([] ++ [.int .i64 n1.1] ++ [v2] ++ [v3]) w w3.drew from P2.out.snoc PX.drew)
  have Q2 := hide (show RowP 3 1 IntP 0 w3.drew v2 n2.1 from Q2.out.keep (int_keep _) (by decide) (SMX3.out _ _ PX.drew))
  have Q3 := hide (show RowP 3 1 IntP 0 w3.drew v3 n3.1 from RX.keep (int_keep []) (by decide) (fun _ _ _ _ _ _ => rfl))
  clear LX RX PX cb2 C3 L2 HB2 SZ2 P2 SMX3
  have C4 := hide (by
    obtain ⟨c', h1, h2, h3⟩ := HSZ.out _ _ 3 P3.out rfl (by decide) (by decide)
    have := rnumbers_any L3.out M3.out (g := g) (o := o + 3) h1 HG.out HA.out h3 (by decide) (by decide)
    rw [HN4.out] at this
    exact this)
  have SMX4 := hide (show ∀ (W : World) (v : Value), RPut A g (o + 3) [v] w3.drew W → SmX [71, 58] w3.drew W from fun W v h => by
    obtain ⟨c', h1, h2, h3⟩ := HSZ.out _ _ 3 P3.out rfl (by decide) (by decide)
    exact h.sm L3.out h1)
  go_wp2_with fail
  go_region_held3 (fun W => W.cell? ⟨w.heap.size, 0, none⟩ = some (ri A)) (first | exact cb3 | exact cb4 | go_keep) ((go_simp; go_at_call 38; refine C4.out.mono ?_; rintro e w4 ⟨rfl, v4, LX, RX, PX⟩; have cb4 : w4.cell? ⟨w.heap.size, 0, none⟩ = some (ri A) := cell_of ((PX.block w.heap.size (Nat.lt_of_lt_of_le (show w.heap.size < w.heap.size + 1 by omega) SZ3.out) (by have := HAL.out; omega) (by have := HGL.out; omega)).trans HB3.out) rfl))
  have HB4 := hide (show w4.drew.heap[w.heap.size]? = some (.cells #[ri A] 48 (0, 0)) from ((PX.block w.heap.size (Nat.lt_of_lt_of_le (show w.heap.size < w.heap.size + 1 by omega) SZ3.out) (by have := HAL.out; omega) (by have := HGL.out; omega)).trans HB3.out))
  have SZ4 := hide (show w.heap.size + 1 ≤ w4.drew.heap.size from Nat.le_trans SZ3.out PX.size)
  have L4 := hide LX.drew
  have P4 := hide (show RPut A g o ([] ++ [.int .i64 n1.1] ++ [v2] ++ [v3] ++ [v4]) w w4.drew from P3.out.snoc PX.drew)
  have Q2 := hide (show RowP 3 1 IntP 0 w4.drew v2 n2.1 from Q2.out.keep (int_keep _) (by decide) (SMX4.out _ _ PX.drew))
  have Q3 := hide (show RowP 3 1 IntP 0 w4.drew v3 n3.1 from Q3.out.keep (int_keep _) (by decide) (SMX4.out _ _ PX.drew))
  have Q4 := hide (show RowP 3 1 IntP 0 w4.drew v4 n4.1 from RX.keep (int_keep []) (by decide) (fun _ _ _ _ _ _ => rfl))
  clear LX RX PX cb3 C4 L3 HB3 SZ3 P3 SMX4
  have C5 := hide (by
    obtain ⟨c', h1, h2, h3⟩ := HSZ.out _ _ 4 P4.out rfl (by decide) (by decide)
    have := rlistI_any L4.out M4.out (g := g) (o := o + 4) h1 HG.out HA.out h3 (by decide) (by decide)
    rw [HN5.out] at this
    exact this)
  have SMX5 := hide (show ∀ (W : World) (v : Value), RPut A g (o + 4) [v] w4.drew W → SmX [71, 58] w4.drew W from fun W v h => by
    obtain ⟨c', h1, h2, h3⟩ := HSZ.out _ _ 4 P4.out rfl (by decide) (by decide)
    exact h.sm L4.out h1)
  go_wp2_with fail
  go_region_held3 (fun W => W.cell? ⟨w.heap.size, 0, none⟩ = some (ri A)) (first | exact cb4 | exact cb5 | go_keep) ((go_simp; go_at_call 42; refine C5.out.mono ?_; rintro e w5 ⟨rfl, v5, LX, RX, PX⟩; have cb5 : w5.cell? ⟨w.heap.size, 0, none⟩ = some (ri A) := cell_of ((PX.block w.heap.size (Nat.lt_of_lt_of_le (show w.heap.size < w.heap.size + 1 by omega) SZ4.out) (by have := HAL.out; omega) (by have := HGL.out; omega)).trans HB4.out) rfl))
  have HB5 := hide (show w5.drew.heap[w.heap.size]? = some (.cells #[ri A] 48 (0, 0)) from ((PX.block w.heap.size (Nat.lt_of_lt_of_le (show w.heap.size < w.heap.size + 1 by omega) SZ4.out) (by have := HAL.out; omega) (by have := HGL.out; omega)).trans HB4.out))
  have SZ5 := hide (show w.heap.size + 1 ≤ w5.drew.heap.size from Nat.le_trans SZ4.out PX.size)
  have L5 := hide LX.drew
  have P5 := hide (show RPut A g o ([] ++ [.int .i64 n1.1] ++ [v2] ++ [v3] ++ [v4] ++ [v5]) w w5 from P4.out.snoc PX)
  have Q2 := hide (show RowP 3 1 IntP 0 w5 v2 n2.1 from Q2.out.keep (int_keep _) (by decide) (SMX5.out _ _ PX))
  have Q3 := hide (show RowP 3 1 IntP 0 w5 v3 n3.1 from Q3.out.keep (int_keep _) (by decide) (SMX5.out _ _ PX))
  have Q4 := hide (show RowP 3 1 IntP 0 w5 v4 n4.1 from Q4.out.keep (int_keep _) (by decide) (SMX5.out _ _ PX))
  have Q5 := hide RX
  clear PX cb4 C5 L4 HB4 SZ4 P4 SMX5
  have HL := hide LX
  clear LX RX cb5 HB5 SZ5 L5
  go_wp2
  go_returns
  rw [HE.out]
  exact ⟨rfl, _, rfl, HL.out, ⟨v2, v3, v4, v5, rfl, HIN.out, Q2.out, Q3.out, Q4.out, Q5.out⟩, P5.out⟩
theorem ritem_F (L : Rl B A w s) (hl : s.rest.length ≤ MB) (hc : w.heap[g]? = some (.cells c 58 (0, 0))) (hg : B ≤ g) (hA : g ≠ A) (ho : o + 5 ≤ c.size) (hz : ∀ (r : Nat) (u : Value), (#[.int .i64 0, .slice none 0 0, .slice none 0 0, .slice none 0 0, .slice none 0 0] : Array Value)[r]? = some u → c[o + r]? = some u) :
    RItem 5 RFd fdR 36 (fun p => #[.agg #[ri A], p]) B A g o w s := rfunc_any L hl hc hg hA ho hz
end
end Go.Proofs.Ytnkdlbiicfnmcaa
