/- The writer's way: program. -/
import Derived.Test.YtnkdlbiicfnmcaaCdLF
import Derived.Test.YtnkdlbiicfnmcaaCdLL
import Derived.Test.YtnkdlbiicfnmcaaCdLT
import Derived.Test.YtnkdlbiicfnmcaaCdLS
namespace Go.Proofs.Ytnkdlbiicfnmcaa
open Go.RowKit
section
variable {X : Wx} {w w' : World} {B : Nat}
set_option maxHeartbeats 4000000 in
theorem wprog_any (L : Wl X w []) (hBX : B ≤ X.B) {g o : Nat} {p : Pg} (hqB : g < B) {v1 v2 v3 v4 : Value} (h1 : w.cell? ⟨g, o, none⟩ = some v1) (h2 : w.cell? ⟨g, o + 1, none⟩ = some v2) (h3 : w.cell? ⟨g, o + 2, none⟩ = some v3) (h4 : w.cell? ⟨g, o + 3, none⟩ = some v4) (R : PgAt B w v1 v2 v3 v4 p) (hst : ∀ s ∈ p.st, s.length ≤ 1024) :
    Calls Try.prog 16 #[.agg #[X.i], .pointer (some ⟨g, o, none⟩)] w fun e w' => e = .returned (.tuple #[]) ∧ ∃ X', Wl X' w' (pgW p) ∧ Stp X X' w w' := by
  have hgX : g < X.B := Nat.lt_of_lt_of_le hqB hBX
  obtain ⟨W1, hW1⟩ : ∃ W1, w.alloc (.cells #[X.i] 48) = W1 := ⟨_, rfl⟩
  have hb : W1.heap[w.heap.size]? = some (.cells #[X.i] 48 (0, 0)) := by rw [← hW1]; exact heap_new _ _ rfl
  have cb0 : W1.cell? ⟨w.heap.size, 0, none⟩ = some X.i := cell_of hb rfl
  have S0 := hide (show Stp X X w W1 from (hW1 ▸ Stp.of_below ((Below.refl _ _).alloc (Nat.le_refl _) _)))
  have L0 := hide (show Wl X W1 [] from hW1 ▸ (L.alloc _))
  have HB0 := hide hb
  have u1 := lst_up ints_up hdE p.ty (fun _ _ => trivial)
  have u2 := lst_up fd_up (lstW intsW hdE p.ty) p.fu (fun _ _ => trivial)
  have u3 := lst_up ints_up (lstW fdW (lstW intsW hdE p.ty) p.fu) p.ta (fun _ _ => trivial)
  have hh : hdE.length = 3 := rfl
  simp only [MB] at u1 u2 u3
  have HE := hide (show pgW p = lstW strW (lstW intsW (lstW fdW (lstW intsW hdE p.ty) p.fu) p.ta) p.st from rfl)
  generalize ho1 : hdE = o1 at *
  generalize ho2 : lstW intsW o1 p.ty = o2 at *
  generalize ho3 : lstW fdW o2 p.fu = o3 at *
  generalize ho4 : lstW intsW o3 p.ta = o4 at *
  have SB : ∀ (Y : Wx) (wr : World), Stp X Y w wr → (∀ j, j < B → wr.heap[j]? = w.heap[j]?) ∧ (∀ r, wr.cell? ⟨g, r, none⟩ = w.cell? ⟨g, r, none⟩) ∧ B ≤ Y.B := fun Y wr S => ⟨fun j hj => Stp.sameB L S j (Nat.lt_of_lt_of_le hj hBX), fun r => L.cellB S (q := ⟨g, r, none⟩) hgX, by rw [S.B]; exact hBX⟩
  have C1 := hide (by have := fixed_any L0.out hdE (by decide) (by decide); rw [List.nil_append, ho1] at this; exact this)
  have D2 := hide (show ∀ (Y : Wx) (wr : World), Wl Y wr o1 → Stp X Y w wr → Calls Try.prog 33 #[.agg #[X.i], .pointer (some ⟨g, o, none⟩), .func (.func 34) #[.agg #[X.i]] #[]] wr fun e w' => e = .returned (.tuple #[]) ∧ ∃ X', Wl X' w' o2 ∧ Stp Y X' wr w' from fun Y wr LY SY => by
    obtain ⟨s1, s2, s3⟩ := SB _ _ SY
    have := wlistL_any LY s3 (q := ⟨g, o, none⟩) ((s2 _).trans h1) hqB (lsts_keep (Nat.le_refl _) s1 R.ty) (by omega)
    rwa [Wx.i, SY.A, ho2] at this)
  have D3 := hide (show ∀ (Y : Wx) (wr : World), Wl Y wr o2 → Stp X Y w wr → Calls Try.prog 35 #[.agg #[X.i], .pointer (some ⟨g, o + 1, none⟩), .func (.func 36) #[.agg #[X.i]] #[]] wr fun e w' => e = .returned (.tuple #[]) ∧ ∃ X', Wl X' w' o3 ∧ Stp Y X' wr w' from fun Y wr LY SY => by
    obtain ⟨s1, s2, s3⟩ := SB _ _ SY
    have := wlistF_any LY s3 (q := ⟨g, o + 1, none⟩) ((s2 _).trans h2) hqB (fds_keep (Nat.le_refl _) s1 R.fu) (by omega)
    rwa [Wx.i, SY.A, ho3] at this)
  have D4 := hide (show ∀ (Y : Wx) (wr : World), Wl Y wr o3 → Stp X Y w wr → Calls Try.prog 37 #[.agg #[X.i], .pointer (some ⟨g, o + 2, none⟩), .func (.func 38) #[.agg #[X.i]] #[]] wr fun e w' => e = .returned (.tuple #[]) ∧ ∃ X', Wl X' w' o4 ∧ Stp Y X' wr w' from fun Y wr LY SY => by
    obtain ⟨s1, s2, s3⟩ := SB _ _ SY
    have := wlistT_any LY s3 (q := ⟨g, o + 2, none⟩) ((s2 _).trans h3) hqB (lsts_keep (Nat.le_refl _) s1 R.ta) (by omega)
    rwa [Wx.i, SY.A, ho4] at this)
  have D5 := hide (show ∀ (Y : Wx) (wr : World), Wl Y wr o4 → Stp X Y w wr → Calls Try.prog 39 #[.agg #[X.i], .pointer (some ⟨g, o + 3, none⟩), .func (.method "halyard/code.text") #[X.i] #[]] wr fun e w' => e = .returned (.tuple #[]) ∧ ∃ X', Wl X' w' (lstW strW o4 p.st) ∧ Stp Y X' wr w' from fun Y wr LY SY => by
    obtain ⟨s1, s2, s3⟩ := SB _ _ SY
    have := wlistS_any LY s3 (q := ⟨g, o + 3, none⟩) ((s2 _).trans h4) hqB (strs_keep (Nat.le_refl _) s1 R.st) (by omega) hst
    rwa [Wx.i, SY.A] at this)
  clear hb L hqB h1 h2 h3 h4 R hBX hgX u1 u2 u3 ho2 ho3 ho4 SB hh hst
  go_enter Try.func16, Try.ntmps16
  go_wp2_with fail
  clear hW1
  refine Calls.mono (by have := C1.out; rw [← ho1] at this; exact this) ?_
  rintro e w1 ⟨rfl, X1, LX, SX⟩
  rw [ho1] at LX
  have HB1 := hide (SX.box L0.out HB0.out (by decide) (by decide))
  have cb1 : w1.cell? ⟨w.heap.size, 0, none⟩ = some X.i := cell_of HB1.out rfl
  have S1 := hide (S0.out.trans ((SX.trans (Stp.of_below (below_drew (Below.refl _ _))))))
  have L1 := hide LX.drew
  clear ho1
  have C2 := hide (D2.out _ _ L1.out S1.out)
  clear LX SX cb0 C1 D2 S0 L0 HB0
  go_wp2_with fail
  go_region_held3 (fun W => W.cell? ⟨w.heap.size, 0, none⟩ = some X.i) (first | exact cb1 | exact cb2 | go_keep) ((go_simp; go_at_call 33; refine C2.out.mono ?_; rintro e w2 ⟨rfl, X2, LX, SX⟩; have cb2 : w2.cell? ⟨w.heap.size, 0, none⟩ = some X.i := cell_of (SX.box L1.out HB1.out (by decide) (by decide)) rfl))
  have HB2 := hide (SX.box L1.out HB1.out (by decide) (by decide))
  have S2 := hide (S1.out.trans ((SX.trans (Stp.of_below (below_drew (Below.refl _ _))))))
  have L2 := hide LX.drew
  have C3 := hide (D3.out _ _ L2.out S2.out)
  clear LX SX cb1 C2 D3 S1 L1 HB1
  go_wp2_with fail
  go_region_held3 (fun W => W.cell? ⟨w.heap.size, 0, none⟩ = some X.i) (first | exact cb2 | exact cb3 | go_keep) ((go_simp; go_at_call 35; refine C3.out.mono ?_; rintro e w3 ⟨rfl, X3, LX, SX⟩; have cb3 : w3.cell? ⟨w.heap.size, 0, none⟩ = some X.i := cell_of (SX.box L2.out HB2.out (by decide) (by decide)) rfl))
  have HB3 := hide (SX.box L2.out HB2.out (by decide) (by decide))
  have S3 := hide (S2.out.trans ((SX.trans (Stp.of_below (below_drew (Below.refl _ _))))))
  have L3 := hide LX.drew
  have C4 := hide (D4.out _ _ L3.out S3.out)
  clear LX SX cb2 C3 D4 S2 L2 HB2
  go_wp2_with fail
  go_region_held3 (fun W => W.cell? ⟨w.heap.size, 0, none⟩ = some X.i) (first | exact cb3 | exact cb4 | go_keep) ((go_simp; go_at_call 37; refine C4.out.mono ?_; rintro e w4 ⟨rfl, X4, LX, SX⟩; have cb4 : w4.cell? ⟨w.heap.size, 0, none⟩ = some X.i := cell_of (SX.box L3.out HB3.out (by decide) (by decide)) rfl))
  have HB4 := hide (SX.box L3.out HB3.out (by decide) (by decide))
  have S4 := hide (S3.out.trans ((SX.trans (Stp.of_below (below_drew (Below.refl _ _))))))
  have L4 := hide LX.drew
  have C5 := hide (D5.out _ _ L4.out S4.out)
  clear LX SX cb3 C4 D5 S3 L3 HB3
  go_wp2_with fail
  go_region_held3 (fun W => W.cell? ⟨w.heap.size, 0, none⟩ = some X.i) (first | exact cb4 | exact cb5 | go_keep) ((go_simp; go_at_call 39; refine C5.out.mono ?_; rintro e w5 ⟨rfl, X5, LX, SX⟩; have cb5 : w5.cell? ⟨w.heap.size, 0, none⟩ = some X.i := cell_of (SX.box L4.out HB4.out (by decide) (by decide)) rfl))
  have HB5 := hide (SX.box L4.out HB4.out (by decide) (by decide))
  have S5 := hide (S4.out.trans ((SX.trans (Stp.of_below (below_drew (Below.refl _ _))))))
  have L5 := hide LX.drew
  have HS := hide (S4.out.trans SX)
  have HL := hide LX
  clear LX SX cb4 cb5 C5 S4 L4 HB4 S5 L5 HB5
  go_wp2
  go_returns
  exact ⟨rfl, X5, by rw [HE.out]; exact HL.out, HS.out⟩
end
end Go.Proofs.Ytnkdlbiicfnmcaa
