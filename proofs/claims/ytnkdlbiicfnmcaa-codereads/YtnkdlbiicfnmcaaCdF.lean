/- The writer's way: function. -/
import Derived.Test.YtnkdlbiicfnmcaaCdIJt
import Derived.Test.YtnkdlbiicfnmcaaCdLNJt
namespace Go.Proofs.Ytnkdlbiicfnmcaa
open Go.RowKit
section
variable {X : Wx} {w w' : World} {out : By} {B : Nat}
set_option maxHeartbeats 4000000 in
theorem wfunc_any (L : Wl X w out) (hBX : B ≤ X.B) {g o : Nat} {f : Fd} (hqB : g < B) {v1 v2 v3 v4 : Value} (h0 : w.cell? ⟨g, o, none⟩ = some (.int .i64 f.pa)) (h1 : w.cell? ⟨g, o + 1, none⟩ = some v1) (h2 : w.cell? ⟨g, o + 2, none⟩ = some v2) (h3 : w.cell? ⟨g, o + 3, none⟩ = some v3) (h4 : w.cell? ⟨g, o + 4, none⟩ = some v4)
    (b0 : -9223372036854775808 ≤ f.pa ∧ f.pa ≤ 9223372036854775807) (r1 : SlAt 1 IntP B w v1 f.lo) (r2 : SlAt 1 IntP B w v2 f.re) (r3 : SlAt 1 IntP B w v3 f.ar) (r4 : SlAt 3 InsP B w v4 f.co) (hm : out.length ≤ 4200000) :
    Calls Try.prog 36 #[.agg #[X.i], .pointer (some ⟨g, o, none⟩)] w fun e w' => e = .returned (.tuple #[]) ∧ ∃ X', Wl X' w' (fdW out f) ∧ Stp X X' w w' := by
  have hgX : g < X.B := Nat.lt_of_lt_of_le hqB hBX
  obtain ⟨W1, hW1⟩ : ∃ W1, w.alloc (.cells #[X.i] 48) = W1 := ⟨_, rfl⟩
  have hb : W1.heap[w.heap.size]? = some (.cells #[X.i] 48 (0, 0)) := by rw [← hW1]; exact heap_new _ _ rfl
  have cb0 : W1.cell? ⟨w.heap.size, 0, none⟩ = some X.i := cell_of hb rfl
  have S0 := hide (show Stp X X w W1.drew from (hW1 ▸ Stp.of_below (below_drew ((Below.refl _ _).alloc (Nat.le_refl _) _))))
  have L0 := hide (show Wl X W1.drew out from hW1 ▸ (L.alloc _).drew)
  have HB0 := hide hb
  have u1 := numW_up out f.pa trivial
  have u2 := ints_up (numW out f.pa) f.lo trivial
  have u3 := ints_up (intsW (numW out f.pa) f.lo) f.re trivial
  have u4 := ints_up (intsW (intsW (numW out f.pa) f.lo) f.re) f.ar trivial
  simp only [MB] at u1 u2 u3 u4
  have HE := hide (show fdW out f = lstW insW (intsW (intsW (intsW (numW out f.pa) f.lo) f.re) f.ar) f.co from rfl)
  generalize ho1 : numW out f.pa = o1 at *
  generalize ho2 : intsW o1 f.lo = o2 at *
  generalize ho3 : intsW o2 f.re = o3 at *
  generalize ho4 : intsW o3 f.ar = o4 at *
  have SB : ∀ (Y : Wx) (wr : World), Stp X Y w wr → (∀ j, j < B → wr.heap[j]? = w.heap[j]?) ∧ (∀ r, wr.cell? ⟨g, r, none⟩ = w.cell? ⟨g, r, none⟩) ∧ B ≤ Y.B := fun Y wr S => ⟨fun j hj => Stp.sameB L S j (Nat.lt_of_lt_of_le hj hBX), fun r => L.cellB S (q := ⟨g, r, none⟩) hgX, by rw [S.B]; exact hBX⟩
  have C1 := hide (by have := number_any L0.out (q := ⟨g, o, none⟩) (((SB _ _ S0.out).2.1 _).trans h0) b0.1 b0.2 (by omega); rw [ho1] at this; exact this)
  have D2 := hide (show ∀ (Y : Wx) (wr : World), Wl Y wr o1 → Stp X Y w wr → Calls Try.prog 38 #[.agg #[X.i], .pointer (some ⟨g, o + 1, none⟩)] wr fun e w' => e = .returned (.tuple #[]) ∧ ∃ X', Wl X' w' o2 ∧ Stp Y X' wr w' from fun Y wr LY SY => by
    obtain ⟨s1, s2, s3⟩ := SB _ _ SY
    have := wnumbers_any LY s3 (q := ⟨g, o + 1, none⟩) ((s2 _).trans h1) hqB (ints_keep (Nat.le_refl _) s1 r1) (by omega)
    rwa [Wx.i, SY.A, ho2] at this)
  have D3 := hide (show ∀ (Y : Wx) (wr : World), Wl Y wr o2 → Stp X Y w wr → Calls Try.prog 38 #[.agg #[X.i], .pointer (some ⟨g, o + 2, none⟩)] wr fun e w' => e = .returned (.tuple #[]) ∧ ∃ X', Wl X' w' o3 ∧ Stp Y X' wr w' from fun Y wr LY SY => by
    obtain ⟨s1, s2, s3⟩ := SB _ _ SY
    have := wnumbers_any LY s3 (q := ⟨g, o + 2, none⟩) ((s2 _).trans h2) hqB (ints_keep (Nat.le_refl _) s1 r2) (by omega)
    rwa [Wx.i, SY.A, ho3] at this)
  have D4 := hide (show ∀ (Y : Wx) (wr : World), Wl Y wr o3 → Stp X Y w wr → Calls Try.prog 38 #[.agg #[X.i], .pointer (some ⟨g, o + 3, none⟩)] wr fun e w' => e = .returned (.tuple #[]) ∧ ∃ X', Wl X' w' o4 ∧ Stp Y X' wr w' from fun Y wr LY SY => by
    obtain ⟨s1, s2, s3⟩ := SB _ _ SY
    have := wnumbers_any LY s3 (q := ⟨g, o + 3, none⟩) ((s2 _).trans h3) hqB (ints_keep (Nat.le_refl _) s1 r3) (by omega)
    rwa [Wx.i, SY.A, ho4] at this)
  have D5 := hide (show ∀ (Y : Wx) (wr : World), Wl Y wr o4 → Stp X Y w wr → Calls Try.prog 42 #[.agg #[X.i], .pointer (some ⟨g, o + 4, none⟩), .func (.func 43) #[.agg #[X.i]] #[]] wr fun e w' => e = .returned (.tuple #[]) ∧ ∃ X', Wl X' w' (lstW insW o4 f.co) ∧ Stp Y X' wr w' from fun Y wr LY SY => by
    obtain ⟨s1, s2, s3⟩ := SB _ _ SY
    have := wlistI_any LY s3 (q := ⟨g, o + 4, none⟩) ((s2 _).trans h4) hqB (ins_keep (Nat.le_refl _) s1 r4) (by omega)
    rwa [Wx.i, SY.A] at this)
  clear hb L hqB hm h0 h1 h2 h3 h4 b0 r1 r2 r3 r4 hBX hgX u1 u2 u3 u4 ho1 ho2 ho3 ho4 SB
  go_enter Try.func36, Try.ntmps36
  go_wp2_with fail
  clear hW1
  go_region_held3 (fun W => W.cell? ⟨w.heap.size, 0, none⟩ = some X.i) (first | exact cb0 | exact cb1 | go_keep) ((go_simp; go_upon; go_at_call 62; refine C1.out.mono ?_; rintro e w1 ⟨rfl, X1, LX, SX⟩; have cb1 : w1.cell? ⟨w.heap.size, 0, none⟩ = some X.i := cell_of (SX.box L0.out HB0.out (by decide) (by decide)) rfl))
  have HB1 := hide (SX.box L0.out HB0.out (by decide) (by decide))
  have S1 := hide (S0.out.trans ((SX.trans (Stp.of_below (below_drew (Below.refl _ _))))))
  have L1 := hide LX.drew
  have C2 := hide (D2.out _ _ L1.out S1.out)
  clear LX SX cb0 C1 D2 S0 L0 HB0
  go_wp2_with fail
  go_region_held3 (fun W => W.cell? ⟨w.heap.size, 0, none⟩ = some X.i) (first | exact cb1 | exact cb2 | go_keep) ((go_simp; go_at_call 38; refine C2.out.mono ?_; rintro e w2 ⟨rfl, X2, LX, SX⟩; have cb2 : w2.cell? ⟨w.heap.size, 0, none⟩ = some X.i := cell_of (SX.box L1.out HB1.out (by decide) (by decide)) rfl))
  have HB2 := hide (SX.box L1.out HB1.out (by decide) (by decide))
  have S2 := hide (S1.out.trans ((SX.trans (Stp.of_below (below_drew (Below.refl _ _))))))
  have L2 := hide LX.drew
  have C3 := hide (D3.out _ _ L2.out S2.out)
  clear LX SX cb1 C2 D3 S1 L1 HB1
  go_wp2_with fail
  go_region_held3 (fun W => W.cell? ⟨w.heap.size, 0, none⟩ = some X.i) (first | exact cb2 | exact cb3 | go_keep) ((go_simp; go_at_call 38; refine C3.out.mono ?_; rintro e w3 ⟨rfl, X3, LX, SX⟩; have cb3 : w3.cell? ⟨w.heap.size, 0, none⟩ = some X.i := cell_of (SX.box L2.out HB2.out (by decide) (by decide)) rfl))
  have HB3 := hide (SX.box L2.out HB2.out (by decide) (by decide))
  have S3 := hide (S2.out.trans ((SX.trans (Stp.of_below (below_drew (Below.refl _ _))))))
  have L3 := hide LX.drew
  have C4 := hide (D4.out _ _ L3.out S3.out)
  clear LX SX cb2 C3 D4 S2 L2 HB2
  go_wp2_with fail
  go_region_held3 (fun W => W.cell? ⟨w.heap.size, 0, none⟩ = some X.i) (first | exact cb3 | exact cb4 | go_keep) ((go_simp; go_at_call 38; refine C4.out.mono ?_; rintro e w4 ⟨rfl, X4, LX, SX⟩; have cb4 : w4.cell? ⟨w.heap.size, 0, none⟩ = some X.i := cell_of (SX.box L3.out HB3.out (by decide) (by decide)) rfl))
  have HB4 := hide (SX.box L3.out HB3.out (by decide) (by decide))
  have S4 := hide (S3.out.trans ((SX.trans (Stp.of_below (below_drew (Below.refl _ _))))))
  have L4 := hide LX.drew
  have C5 := hide (D5.out _ _ L4.out S4.out)
  clear LX SX cb3 C4 D5 S3 L3 HB3
  go_wp2_with fail
  go_region_held3 (fun W => W.cell? ⟨w.heap.size, 0, none⟩ = some X.i) (first | exact cb4 | exact cb5 | go_keep) ((go_simp; go_at_call 42; refine C5.out.mono ?_; rintro e w5 ⟨rfl, X5, LX, SX⟩; have cb5 : w5.cell? ⟨w.heap.size, 0, none⟩ = some X.i := cell_of (SX.box L4.out HB4.out (by decide) (by decide)) rfl))
  have HB5 := hide (SX.box L4.out HB4.out (by decide) (by decide))
  have S5 := hide (S4.out.trans ((SX.trans (Stp.of_below (below_drew (Below.refl _ _))))))
  have L5 := hide LX.drew
  have HS := hide (S4.out.trans SX)
  have HL := hide LX
  clear LX SX cb4 cb5 C5 S4 L4 HB4 S5 L5 HB5
  go_wp2
  go_returns
  exact ⟨rfl, X5, by rw [HE.out]; exact HL.out, HS.out⟩
variable {w0 : World} {g o : Nat} {cs : List Value} {j k : Nat}
theorem witem_F {f : Fd} (L : Wl X w out) (hB : B ≤ X.B) (hg : g < B) (hk : ∀ j, j < B → w.heap[j]? = w0.heap[j]?) (hcs : ∀ r u, cs[r]? = some u → w0.cell? ⟨g, o + j * k + r, none⟩ = some u) (hP : FdP B w0 cs f) (hm : out.length ≤ 4200000) :
    Calls Try.prog 36 #[.agg #[X.i], .pointer (some ⟨g, o + j * k, none⟩)] w fun e w' => e = .returned (.tuple #[]) ∧ ∃ X', Wl X' w' (fdW out f) ∧ Stp X X' w w' := by
  obtain ⟨v1, v2, v3, v4, rfl, h1, h2, h3, h4, h5⟩ := hP
  have hc := witem_cell hg hk hcs
  exact wfunc_any L hB hg (hc 0 _ rfl) (hc 1 _ rfl) (hc 2 _ rfl) (hc 3 _ rfl) (hc 4 _ rfl) h1 (ints_keep (Nat.le_refl _) hk h2) (ints_keep (Nat.le_refl _) hk h3) (ints_keep (Nat.le_refl _) hk h4) (ins_keep (Nat.le_refl _) hk h5) hm
end
end Go.Proofs.Ytnkdlbiicfnmcaa
