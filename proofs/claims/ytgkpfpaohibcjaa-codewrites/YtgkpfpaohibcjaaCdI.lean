/- The writer's way: instruction. -/
import Derived.Test.YtgkpfpaohibcjaaCdL
namespace Go.Proofs.Ytgkpfpaohibcjaa
open Go.RowKit
section
variable {X : Wx} {w w' : World} {out : By} {B : Nat}
set_option maxHeartbeats 2000000 in
theorem winstr_any (L : Wl X w out) (hBX : B ≤ X.B) {g o : Nat} {i : In3} (hqB : g < B) (h0 : w.cell? ⟨g, o, none⟩ = some (.int .i64 i.o)) (h1 : w.cell? ⟨g, o + 1, none⟩ = some (.int .i64 i.a)) (h2 : w.cell? ⟨g, o + 2, none⟩ = some (.int .i64 i.b))
    (b0 : -9223372036854775808 ≤ i.o ∧ i.o ≤ 9223372036854775807) (b1 : -9223372036854775808 ≤ i.a ∧ i.a ≤ 9223372036854775807) (b2 : -9223372036854775808 ≤ i.b ∧ i.b ≤ 9223372036854775807) (hm : out.length ≤ 5000000) :
    Calls Try.prog 43 #[.agg #[X.i], .pointer (some ⟨g, o, none⟩)] w fun e w' => e = .returned (.tuple #[]) ∧ ∃ X', Wl X' w' (insW out i) ∧ Stp X X' w w' := by
  have hgX : g < X.B := Nat.lt_of_lt_of_le hqB hBX
  obtain ⟨W1, hW1⟩ : ∃ W1, w.alloc (.cells #[X.i] 48) = W1 := ⟨_, rfl⟩
  have hb : W1.heap[w.heap.size]? = some (.cells #[X.i] 48 (0, 0)) := by rw [← hW1]; exact heap_new _ _ rfl
  have cb : W1.cell? ⟨w.heap.size, 0, none⟩ = some X.i := cell_of hb rfl
  have S0 := hide (show Stp X X w W1.drew from (hW1 ▸ Stp.of_below (below_drew ((Below.refl _ _).alloc (Nat.le_refl _) _))))
  have L1 := hide (show Wl X W1.drew out from hW1 ▸ (L.alloc _).drew)
  have HB := hide hb
  have hL0 := numW_up out i.o trivial
  have hL1 := numW_up (numW out i.o) i.a trivial
  simp only [MB] at hL0 hL1
  have k0 := L.cellB S0.out (q := ⟨g, o, none⟩) hgX
  have C1 := hide (number_any L1.out (q := ⟨g, o, none⟩) (k0.trans h0) b0.1 b0.2 (by omega))
  have C2 := hide (show ∀ (Y : Wx) (wr : World), Wl Y wr (numW out i.o) → Stp X Y w wr → Calls Try.prog 62 #[X.p, .pointer (some ⟨g, o + 1, none⟩)] wr fun e w' => e = .returned (.tuple #[]) ∧ ∃ X', Wl X' w' (numW (numW out i.o) i.a) ∧ Stp Y X' wr w' from fun Y wr LY SY => by
    have := number_any LY (q := ⟨g, o + 1, none⟩) ((L.cellB SY (q := ⟨g, o + 1, none⟩) hgX).trans h1) b1.1 b1.2 (by omega)
    rwa [Wx.p, SY.A] at this)
  have C3 := hide (show ∀ (Y : Wx) (wr : World), Wl Y wr (numW (numW out i.o) i.a) → Stp X Y w wr → Calls Try.prog 62 #[X.p, .pointer (some ⟨g, o + 2, none⟩)] wr fun e w' => e = .returned (.tuple #[]) ∧ ∃ X', Wl X' w' (numW (numW (numW out i.o) i.a) i.b) ∧ Stp Y X' wr w' from fun Y wr LY SY => by
    have := number_any LY (q := ⟨g, o + 2, none⟩) ((L.cellB SY (q := ⟨g, o + 2, none⟩) hgX).trans h2) b2.1 b2.2 (by omega)
    rwa [Wx.p, SY.A] at this)
  have HE := hide (show insW out i = numW (numW (numW out i.o) i.a) i.b from rfl)
  clear hb L hqB hm h0 h1 h2 b0 b1 b2 hBX hgX hL0 hL1 k0
  go_enter Try.func43, Try.ntmps43
  go_wp2_with fail
  clear hW1
  go_region_held3 (fun W => W.cell? ⟨w.heap.size, 0, none⟩ = some X.i) (first | exact cb | exact cb2 | go_keep) ((go_simp; go_upon; go_at_call 62; refine C1.out.mono ?_; rintro e w2 ⟨rfl, X2, LX, SX⟩; have cb2 : w2.cell? ⟨w.heap.size, 0, none⟩ = some X.i := cell_of (SX.box L1.out HB.out (by decide) (by decide)) rfl))
  have HB2 := hide (SX.box L1.out HB.out (by decide) (by decide))
  have S2 := hide (S0.out.trans ((SX.trans (Stp.of_below (below_drew (Below.refl _ _))))))
  have L2 := hide LX.drew
  have C2 := hide (C2.out _ _ L2.out S2.out)
  clear LX SX cb C1 S0 L1 HB
  go_wp2_with fail
  go_region_held3 (fun W => W.cell? ⟨w.heap.size, 0, none⟩ = some X.i) (first | exact cb2 | exact cb3 | go_keep) ((go_simp; go_upon; go_at_call 62; refine C2.out.mono ?_; rintro e w3 ⟨rfl, X3, LX, SX⟩; have cb3 : w3.cell? ⟨w.heap.size, 0, none⟩ = some X.i := cell_of (SX.box L2.out HB2.out (by decide) (by decide)) rfl))
  have HB3 := hide (SX.box L2.out HB2.out (by decide) (by decide))
  have S3 := hide (S2.out.trans ((SX.trans (Stp.of_below (below_drew (Below.refl _ _))))))
  have L3 := hide LX.drew
  have C3 := hide (C3.out _ _ L3.out S3.out)
  clear LX SX cb2 C2 S2 L2 HB2
  go_wp2_with fail
  go_region_held3 (fun W => W.cell? ⟨w.heap.size, 0, none⟩ = some X.i) (first | exact cb3 | exact cb4 | go_keep) ((go_simp; go_upon; go_at_call 62; refine C3.out.mono ?_; rintro e w4 ⟨rfl, X4, LX, SX⟩; have cb4 : w4.cell? ⟨w.heap.size, 0, none⟩ = some X.i := cell_of (SX.box L3.out HB3.out (by decide) (by decide)) rfl))
  have S4 := hide (S3.out.trans SX)
  have L4 := hide LX
  clear LX SX cb3 cb4 C3 S3 L3 HB3
  go_wp2
  go_returns
  exact ⟨rfl, X4, L4.out, S4.out⟩
variable {w0 : World} {g o : Nat} {cs : List Value} {j k : Nat}
theorem witem_I {i : In3} (L : Wl X w out) (hB : B ≤ X.B) (hg : g < B) (hk : ∀ j, j < B → w.heap[j]? = w0.heap[j]?) (hcs : ∀ r u, cs[r]? = some u → w0.cell? ⟨g, o + j * k + r, none⟩ = some u) (hP : InsP w0 cs i) (hm : out.length ≤ 4200000) :
    Calls Try.prog 43 #[.agg #[X.i], .pointer (some ⟨g, o + j * k, none⟩)] w fun e w' => e = .returned (.tuple #[]) ∧ ∃ X', Wl X' w' (insW out i) ∧ Stp X X' w w' := by
  obtain ⟨rfl, h1, h2, h3⟩ := hP
  have hc := witem_cell hg hk hcs
  exact winstr_any L hB hg (hc 0 _ rfl) (hc 1 _ rfl) (hc 2 _ rfl) h1 h2 h3 (by omega)
end
end Go.Proofs.Ytgkpfpaohibcjaa
