/- The reader's way: program. -/
import Derived.Test.YtnkdlbiicfnmcaaCdKF
import Derived.Test.YtnkdlbiicfnmcaaCdKL
import Derived.Test.YtnkdlbiicfnmcaaCdKT
import Derived.Test.YtnkdlbiicfnmcaaCdKS
namespace Go.Proofs.Ytnkdlbiicfnmcaa
open Go.RowKit
/-- A program that was read lies. -/
structure PgR (w : World) (v1 v2 v3 v4 : Value) (p : Pg) : Prop where
  ty : RowP 55 1 RLst 0 w v1 p.ty
  fu : RowP 58 5 RFd 0 w v2 p.fu
  ta : RowP 53 1 RLst 0 w v3 p.ta
  st : RowP 9 1 StrP 0 w v4 p.st
section
variable {B A : Nat} {w w' : World} {s : Rs} {g : Nat}
set_option maxHeartbeats 4000000 in
theorem rprog_any (L : Rl B A w s) (hl : s.rest.length ≤ MB) (hc : w.heap[g]? = some (.cells #[.slice none 0 0, .slice none 0 0, .slice none 0 0, .slice none 0 0] 27 (0, 0))) (hg : B ≤ g) (hA : g ≠ A) :
    Calls Try.prog 16 #[.agg #[ri A], .pointer (some ⟨g, 0, none⟩)] w fun e w' => e = .returned (.tuple #[]) ∧ ∃ v1 v2 v3 v4, Rl B A w' (pgR s).2 ∧ PgR w' v1 v2 v3 v4 (pgR s).1 ∧ RPut A g 0 [v1, v2, v3, v4] w w' := by
  have hAl := L.lt
  have hgl := lt_of_block hc
  obtain ⟨W1, hW1⟩ : ∃ W1, w.alloc (.cells #[ri A] 48) = W1 := ⟨_, rfl⟩
  have hb : W1.heap[w.heap.size]? = some (.cells #[ri A] 48 (0, 0)) := by rw [← hW1]; exact heap_new _ _ rfl
  have z1 : W1.heap.size = w.heap.size + 1 := by rw [← hW1]; simp
  have cb0 : W1.cell? ⟨w.heap.size, 0, none⟩ = some (ri A) := cell_of hb rfl
  have F0 := hide (show Fr A w W1 from hW1 ▸ Fr.of_below (((Below.refl _ _).alloc (Nat.le_refl _) _)))
  have L0 := hide (show Rl B A W1 s from hW1 ▸ (L.alloc _))
  have K0 := hide ((F0.out.block g hgl hA).trans hc)
  have HB0 := hide hb
  have HZ := hide z1
  have HGL := hide hgl
  have HAL := hide hAl
  have HA := hide hA
  have HG := hide hg
  have P0 := hide (F0.out.put_same (g := g) (o := 0) (cs := []) hc hA (fun r u hu => by simp at hu))
  have SZ0 := hide (show w.heap.size + 1 ≤ W1.heap.size from Nat.le_of_eq z1.symm)
  have HE := hide (show pgR s = (⟨(lstR intsR (fixedR s)).1, (lstR fdR (lstR intsR (fixedR s)).2).1, (lstR intsR (lstR fdR (lstR intsR (fixedR s)).2).2).1, (lstR strR (lstR intsR (lstR fdR (lstR intsR (fixedR s)).2).2).2).1⟩, (lstR strR (lstR intsR (lstR fdR (lstR intsR (fixedR s)).2).2).2).2) by simp only [pgR])
  have M1 := hide (show (fixedR s).rest.length ≤ MB by
    rcases fixedR_less s with h | h
    · rw [h]; decide
    · omega)
  have M2 := hide (show (lstR intsR (fixedR s)).2.rest.length ≤ MB by
    rcases lstR_eats intsR_eats.less (fixedR s) with h | h
    · rw [h]; decide
    · have := M1.out; omega)
  have M3 := hide (show (lstR fdR (lstR intsR (fixedR s)).2).2.rest.length ≤ MB by
    rcases lstR_eats fdR_eats.less (lstR intsR (fixedR s)).2 with h | h
    · rw [h]; decide
    · have := M2.out; omega)
  have M4 := hide (show (lstR intsR (lstR fdR (lstR intsR (fixedR s)).2).2).2.rest.length ≤ MB by
    rcases lstR_eats intsR_eats.less (lstR fdR (lstR intsR (fixedR s)).2).2 with h | h
    · rw [h]; decide
    · have := M3.out; omega)
  have C1 := hide (rfixed_any L0.out hl)
  have HSZ := hide (show ∀ (os : List Value) (W : World) (r : Nat), RPut A g 0 os w W → os.length = r → r < 4 → ∃ c', W.heap[g]? = some (.cells c' 27 (0, 0)) ∧ c'[r]? = some (.slice none 0 0) from fun os W r h hr h5 => by
    obtain ⟨c', h1, h2, _, h4⟩ := h.self _ _ hc
    refine ⟨c', h1, ?_⟩
    rw [h4 _ (by omega)]
    rcases (show r = 0 ∨ r = 1 ∨ r = 2 ∨ r = 3 by omega) with rfl | rfl | rfl | rfl <;> rfl)
  clear hb L hc hg hA z1 hgl hAl hl
  generalize hn1 : fixedR s = n1 at *
  generalize hn2 : lstR intsR n1 = n2 at *
  generalize hn3 : lstR fdR n2.2 = n3 at *
  generalize hn4 : lstR intsR n3.2 = n4 at *
  generalize hn5 : lstR strR n4.2 = n5 at *
  have HN2 := hide hn2
  have HN3 := hide hn3
  have HN4 := hide hn4
  have HN5 := hide hn5
  clear hn1 hn2 hn3 hn4 hn5
  go_enter Try.func16, Try.ntmps16
  go_wp2_with fail
  clear hW1
  refine C1.out.mono ?_
  rintro e w1 ⟨rfl, LX, FX⟩
  have hb1 : w1.heap[w.heap.size]? = some (.cells #[ri A] 48 (0, 0)) := (FX.block w.heap.size (Nat.lt_of_lt_of_le (show w.heap.size < w.heap.size + 1 by omega) SZ0.out) (by have := HAL.out; omega)).trans HB0.out
  have cb1 : w1.cell? ⟨w.heap.size, 0, none⟩ = some (ri A) := cell_of hb1 rfl
  have HB1 := hide (show w1.drew.heap[w.heap.size]? = some (.cells #[ri A] 48 (0, 0)) from hb1)
  have SZ1 := hide (show w.heap.size + 1 ≤ w1.drew.heap.size from Nat.le_trans SZ0.out FX.size)
  have L1 := hide LX.drew
  have P1 := hide (show RPut A g 0 [] w w1.drew from (P0.out.fr FX HGL.out HA.out).drew)
  clear LX FX hb1 cb0 C1 F0 L0 K0 HB0 SZ0 P0
  have C2 := hide (by
    obtain ⟨c', h1, h3⟩ := HSZ.out _ _ 0 P1.out rfl (by decide)
    have := rlistL_any L1.out M1.out (g := g) (o := 0) h1 HG.out HA.out h3 (by decide) (by decide) (by decide)
    rw [HN2.out] at this
    exact this)
  have SMX2 := hide (show ∀ (W : World) (v : Value), RPut A g 0 [v] w1.drew W → SmX [71, 27] w1.drew W from fun W v h => by
    obtain ⟨c', h1, h3⟩ := HSZ.out _ _ 0 P1.out rfl (by decide)
    exact h.sm L1.out h1)
  go_wp2_with fail
  go_region_held3 (fun W => W.cell? ⟨w.heap.size, 0, none⟩ = some (ri A)) (first | exact cb1 | exact cb2 | go_keep) ((go_simp; go_at_call 33; refine C2.out.mono ?_; rintro e w2 ⟨rfl, v2, LX, RX, PX⟩; have cb2 : w2.cell? ⟨w.heap.size, 0, none⟩ = some (ri A) := cell_of ((PX.block w.heap.size (Nat.lt_of_lt_of_le (show w.heap.size < w.heap.size + 1 by omega) SZ1.out) (by have := HAL.out; omega) (by have := HGL.out; omega)).trans HB1.out) rfl))
  have HB2 := hide (show w2.drew.heap[w.heap.size]? = some (.cells #[ri A] 48 (0, 0)) from ((PX.block w.heap.size (Nat.lt_of_lt_of_le (show w.heap.size < w.heap.size + 1 by omega) SZ1.out) (by have := HAL.out; omega) (by have := HGL.out; omega)).trans HB1.out))
  have SZ2 := hide (show w.heap.size + 1 ≤ w2.drew.heap.size from Nat.le_trans SZ1.out PX.size)
  have L2 := hide LX.drew
  have P2 := hide (show RPut A g 0 ([] ++ [v2]) w w2.drew from P1.out.snoc (by rw [show 0 + ([] : List Value).length = 0 from rfl]; exact PX.drew))
  have Q2 := hide (show RowP 55 1 RLst 0 w2.drew v2 n2.1 from RX.keep (ts := []) (rlst_keep (by decide)) (by decide) (fun _ _ _ _ _ _ => rfl))
  clear LX RX PX cb1 C2 L1 HB1 SZ1 P1 SMX2
  have C3 := hide (by
    obtain ⟨c', h1, h3⟩ := HSZ.out _ _ 1 P2.out rfl (by decide)
    have := rlistF_any L2.out M2.out (g := g) (o := 1) h1 HG.out HA.out h3 (by decide) (by decide) (by decide) (by decide)
    rw [HN3.out] at this
    exact this)
  have SMX3 := hide (show ∀ (W : World) (v : Value), RPut A g 1 [v] w2.drew W → SmX [71, 27] w2.drew W from fun W v h => by
    obtain ⟨c', h1, h3⟩ := HSZ.out _ _ 1 P2.out rfl (by decide)
    exact h.sm L2.out h1)
  go_wp2_with fail
  go_region_held3 (fun W => W.cell? ⟨w.heap.size, 0, none⟩ = some (ri A)) (first | exact cb2 | exact cb3 | go_keep) ((go_simp; go_at_call 35; refine C3.out.mono ?_; rintro e w3 ⟨rfl, v3, LX, RX, PX⟩; have cb3 : w3.cell? ⟨w.heap.size, 0, none⟩ = some (ri A) := cell_of ((PX.block w.heap.size (Nat.lt_of_lt_of_le (show w.heap.size < w.heap.size + 1 by omega) SZ2.out) (by have := HAL.out; omega) (by have := HGL.out; omega)).trans HB2.out) rfl))
  have HB3 := hide (show w3.drew.heap[w.heap.size]? = some (.cells #[ri A] 48 (0, 0)) from ((PX.block w.heap.size (Nat.lt_of_lt_of_le (show w.heap.size < w.heap.size + 1 by omega) SZ2.out) (by have := HAL.out; omega) (by have := HGL.out; omega)).trans HB2.out))
  have SZ3 := hide (show w.heap.size + 1 ≤ w3.drew.heap.size from Nat.le_trans SZ2.out PX.size)
  have L3 := hide LX.drew
  have P3 := hide (show RPut A g 0 ([] ++ [v2] ++ [v3]) w w3.drew from P2.out.snoc (by rw [show 0 + ([] ++ [v2] : List Value).length = 1 from rfl]; exact PX.drew))
  have Q2 := hide (show RowP 55 1 RLst 0 w3.drew v2 n2.1 from Q2.out.keep (rlst_keep (by decide)) (by decide) (SMX3.out _ _ PX.drew))
  have Q3 := hide (show RowP 58 5 RFd 0 w3.drew v3 n3.1 from RX.keep (ts := []) (rfd_keep (by decide) (by decide)) (by decide) (fun _ _ _ _ _ _ => rfl))
  clear LX RX PX cb2 C3 L2 HB2 SZ2 P2 SMX3
  have C4 := hide (by
    obtain ⟨c', h1, h3⟩ := HSZ.out _ _ 2 P3.out rfl (by decide)
    have := rlistT_any L3.out M3.out (g := g) (o := 2) h1 HG.out HA.out h3 (by decide) (by decide) (by decide)
    rw [HN4.out] at this
    exact this)
  have SMX4 := hide (show ∀ (W : World) (v : Value), RPut A g 2 [v] w3.drew W → SmX [71, 27] w3.drew W from fun W v h => by
    obtain ⟨c', h1, h3⟩ := HSZ.out _ _ 2 P3.out rfl (by decide)
    exact h.sm L3.out h1)
  go_wp2_with fail
  go_region_held3 (fun W => W.cell? ⟨w.heap.size, 0, none⟩ = some (ri A)) (first | exact cb3 | exact cb4 | go_keep) ((go_simp; go_at_call 37; refine C4.out.mono ?_; rintro e w4 ⟨rfl, v4, LX, RX, PX⟩; have cb4 : w4.cell? ⟨w.heap.size, 0, none⟩ = some (ri A) := cell_of ((PX.block w.heap.size (Nat.lt_of_lt_of_le (show w.heap.size < w.heap.size + 1 by omega) SZ3.out) (by have := HAL.out; omega) (by have := HGL.out; omega)).trans HB3.out) rfl))
  have HB4 := hide (show w4.drew.heap[w.heap.size]? = some (.cells #[ri A] 48 (0, 0)) from ((PX.block w.heap.size (Nat.lt_of_lt_of_le (show w.heap.size < w.heap.size + 1 by omega) SZ3.out) (by have := HAL.out; omega) (by have := HGL.out; omega)).trans HB3.out))
  have SZ4 := hide (show w.heap.size + 1 ≤ w4.drew.heap.size from Nat.le_trans SZ3.out PX.size)
  have L4 := hide LX.drew
  have P4 := hide (show RPut A g 0 ([] ++ [v2] ++ [v3] ++ [v4]) w w4.drew from P3.out.snoc (by rw [show 0 + ([] ++ [v2] ++ [v3] : List Value).length = 2 from rfl]; exact PX.drew))
  have Q2 := hide (show RowP 55 1 RLst 0 w4.drew v2 n2.1 from Q2.out.keep (rlst_keep (by decide)) (by decide) (SMX4.out _ _ PX.drew))
  have Q3 := hide (show RowP 58 5 RFd 0 w4.drew v3 n3.1 from Q3.out.keep (rfd_keep (by decide) (by decide)) (by decide) (SMX4.out _ _ PX.drew))
  have Q4 := hide (show RowP 53 1 RLst 0 w4.drew v4 n4.1 from RX.keep (ts := []) (rlst_keep (by decide)) (by decide) (fun _ _ _ _ _ _ => rfl))
  clear LX RX PX cb3 C4 L3 HB3 SZ3 P3 SMX4
  have C5 := hide (by
    obtain ⟨c', h1, h3⟩ := HSZ.out _ _ 3 P4.out rfl (by decide)
    have := rlistS_any L4.out M4.out (g := g) (o := 3) h1 HG.out HA.out h3 (by decide) (by decide)
    rw [HN5.out] at this
    exact this)
  have SMX5 := hide (show ∀ (W : World) (v : Value), RPut A g 3 [v] w4.drew W → SmX [71, 27] w4.drew W from fun W v h => by
    obtain ⟨c', h1, h3⟩ := HSZ.out _ _ 3 P4.out rfl (by decide)
    exact h.sm L4.out h1)
  go_wp2_with fail
  go_region_held3 (fun W => W.cell? ⟨w.heap.size, 0, none⟩ = some (ri A)) (first | exact cb4 | exact cb5 | go_keep) ((go_simp; go_at_call 39; refine C5.out.mono ?_; rintro e w5 ⟨rfl, v5, LX, RX, PX⟩; have cb5 : w5.cell? ⟨w.heap.size, 0, none⟩ = some (ri A) := cell_of ((PX.block w.heap.size (Nat.lt_of_lt_of_le (show w.heap.size < w.heap.size + 1 by omega) SZ4.out) (by have := HAL.out; omega) (by have := HGL.out; omega)).trans HB4.out) rfl))
  have HB5 := hide (show w5.drew.heap[w.heap.size]? = some (.cells #[ri A] 48 (0, 0)) from ((PX.block w.heap.size (Nat.lt_of_lt_of_le (show w.heap.size < w.heap.size + 1 by omega) SZ4.out) (by have := HAL.out; omega) (by have := HGL.out; omega)).trans HB4.out))
  have SZ5 := hide (show w.heap.size + 1 ≤ w5.drew.heap.size from Nat.le_trans SZ4.out PX.size)
  have L5 := hide LX.drew
  have P5 := hide (show RPut A g 0 ([] ++ [v2] ++ [v3] ++ [v4] ++ [v5]) w w5 from P4.out.snoc (by rw [show 0 + ([] ++ [v2] ++ [v3] ++ [v4] : List Value).length = 3 from rfl]; exact PX))
  have Q2 := hide (show RowP 55 1 RLst 0 w5 v2 n2.1 from Q2.out.keep (rlst_keep (by decide)) (by decide) (SMX5.out _ _ PX))
  have Q3 := hide (show RowP 58 5 RFd 0 w5 v3 n3.1 from Q3.out.keep (rfd_keep (by decide) (by decide)) (by decide) (SMX5.out _ _ PX))
  have Q4 := hide (show RowP 53 1 RLst 0 w5 v4 n4.1 from Q4.out.keep (rlst_keep (by decide)) (by decide) (SMX5.out _ _ PX))
  have Q5 := hide RX
  clear PX cb4 C5 L4 HB4 SZ4 P4 SMX5
  have HL := hide LX
  clear LX RX cb5 HB5 SZ5 L5
  go_wp2
  go_returns
  rw [HE.out]
  exact ⟨rfl, v2, v3, v4, v5, HL.out, ⟨Q2.out, Q3.out, Q4.out, Q5.out⟩, P5.out⟩
end
end Go.Proofs.Ytnkdlbiicfnmcaa
