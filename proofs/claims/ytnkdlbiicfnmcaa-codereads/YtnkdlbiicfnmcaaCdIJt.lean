/- The writer's way: instruction. -/
import Derived.Test.YtnkdlbiicfnmcaaCdL
namespace Go.Proofs.Ytnkdlbiicfnmcaa
open Go.RowKit
section
variable {X : Wx} {w w' : World} {out : By} {B : Nat}
set_option maxHeartbeats 2000000 in
theorem winstr_any (L : Wl X w out) (hBX : B ≤ X.B) {g o : Nat} {i : In3} (hqB : g < B) (h0 : w.cell? ⟨g, o, none⟩ = some (.int .i64 i.o)) (h1 : w.cell? ⟨g, o + 1, none⟩ = some (.int .i64 i.a)) (h2 : w.cell? ⟨g, o + 2, none⟩ = some (.int .i64 i.b))
    (b0 : -9223372036854775808 ≤ i.o ∧ i.o ≤ 9223372036854775807) (b1 : -9223372036854775808 ≤ i.a ∧ i.a ≤ 9223372036854775807) (b2 : -9223372036854775808 ≤ i.b ∧ i.b ≤ 9223372036854775807) (hm : out.length ≤ 5000000) :
    Calls Try.prog 43 #[.agg #[X.i], .pointer (some ⟨g, o, none⟩)] w fun e w' => e = .returned (.tuple #[]) ∧ ∃ X', Wl X' w' (insW out i) ∧ Stp X X' w w' := by
  have hgX : g < X.B := Nat.lt_of_lt_of_le hqB hBX
  obtain ⟨W1, hW1⟩ : ∃ W1, w.alloc (.cells #[X.i] 48) = W1 := ⟨_, rfl⟩
  have hb : W1.heap[w.heap.size]? = some (.cells #[X.i] 48 (0, 0)) := by rw [← hW1]; exact heap_new _ _ rfl
  have cb : W1.cell? ⟨w.heap.size, 0, none⟩ = some X.i := cell_of hb rfl
  have S0 := hide (show Stp X X w W1.drew from (hW1 ▸ Stp.of_below (below_drew ((Below.refl _ _).alloc (Nat.le_refl _) _))))
  have L1 := hide (show Wl X W1.drew out from hW1 ▸ (L.alloc _).drew)
  have HB := hide hb
  have hL0 := numW_up out i.o trivial
  have hL1 := numW_up (numW out i.o) i.a trivial
  simp only [MB] at hL0 hL1
  have k0 := L.cellB S0.out (q := ⟨g, o, none⟩) hgX
  have C1 := hide (number_any L1.out (q := ⟨g, o, none⟩) (k0.trans h0) b0.1 b0.2 (by omega))
  have C2 := hide (show ∀ (Y : Wx) (wr : World), Wl Y wr (numW out i.o) → Stp X Y w wr → Calls Try.prog 62 #[X.p, .pointer (some ⟨g, o + 1, none⟩)] wr fun e w' => e = .returned (.tuple #[]) ∧ ∃ X', Wl X' w' (numW (numW out i.o) i.a) ∧ Stp Y X' wr w' from fun Y wr LY SY => by
    have := number_any LY (q := ⟨g, o + 1, none⟩) ((L.cellB SY (q := ⟨g, o + 1, none⟩) hgX).trans h1) b1.1 b1.2 (by omega)
    rwa [Wx.p, SY.A] at this)
  have C3 := hide (show ∀ (Y : Wx) (wr : World), Wl Y wr (numW (numW out i.o) i.a) → Stp X Y w wr → Calls Try.prog 62 #[X.p, .pointer (some ⟨g, o + 2, none⟩)] wr fun e w' => e = .returned (.tuple #[]) ∧ ∃ X', Wl X' w' (numW (numW (numW out i.o) i.a) i.b) ∧ Stp Y X' wr w' from fun Y wr LY SY => by
    have := number_any LY (q := ⟨g, o + 2, none⟩) ((L.cellB SY (q := ⟨g, o + 2, none⟩) hgX).trans h2) b2.1 b2.2 (by omega)
    rwa [Wx.p, SY.A] at this)
  have HE := hide (show insW out i = numW (numW (numW out i.o) i.a) i.b from rfl)
  clear hb L hqB hm h0 h1 h2 b0 b1 b2 hBX hgX hL0 hL1 k0
  go_enter Try.func43, Try.ntmps43
  go_wp2_with fail
  clear hW1
  go_region_held3 (fun W => W.cell? ⟨w.heap.size, 0, none⟩ = some X.i) (first | exact cb | exact cb2 | go_keep) ((go_simp; go_upon; go_at_call 62; refine C1.out.mono ?_; rintro e w2 ⟨rfl, X2, LX, SX⟩; have cb2 : w2.cell? ⟨w.heap.size, 0, none⟩ = some X.i := cell_of (SX.box L1.out HB.out (by decide) (by decide)) rfl))
  have HB2 := hide (SX.box L1.out HB.out (by decide) (by decide))
  have S2 := hide (S0.out.trans ((SX.trans (Stp.of_below (below_drew (Below.refl _ _))))))
  have L2 := hide LX.drew
  have C2 := hide (C2.out _ _ L2.out S2.out)
  clear LX SX cb C1 S0 L1 HB
  go_wp2_with fail
  go_region_held3 (fun W => W.cell? ⟨w.heap.size, 0, none⟩ = some X.i) (first | exact cb2 | exact cb3 | go_keep) ((go_simp; go_upon; go_at_call 62; refine C2.out.mono ?_; rintro e w3 ⟨rfl, X3, LX, SX⟩; have cb3 : w3.cell? ⟨w.heap.size, 0, none⟩ = some X.i := cell_of (SX.box L2.out HB2.out (by decide) (by decide)) rfl))
  have HB3 := hide (SX.box L2.out HB2.out (by decide) (by decide))
  have S3 := hide (S2.out.trans ((SX.trans (Stp.of_below (below_drew (Below.refl _ _))))))
  have L3 := hide LX.drew
  have C3 := hide (C3.out _ _ L3.out S3.out)
  clear LX SX cb2 C2 S2 L2 HB2
  go_wp2_with fail
  go_region_held3 (fun W => W.cell? ⟨w.heap.size, 0, none⟩ = some X.i) (first | exact cb3 | exact cb4 | go_keep) ((go_simp; go_upon; go_at_call 62; refine C3.out.mono ?_; rintro e w4 ⟨rfl, X4, LX, SX⟩; have cb4 : w4.cell? ⟨w.heap.size, 0, none⟩ = some X.i := cell_of (SX.box L3.out HB3.out (by decide) (by decide)) rfl))
  have S4 := hide (S3.out.trans SX)
  have L4 := hide LX
  clear LX SX cb3 cb4 C3 S3 L3 HB3
  go_wp2
  go_returns
  exact ⟨rfl, X4, L4.out, S4.out⟩
variable {w0 : World} {g o : Nat} {cs : List Value} {j k : Nat}
theorem witem_I {i : In3} (L : Wl X w out) (hB : B ≤ X.B) (hg : g < B) (hk : ∀ j, j < B → w.heap[j]? = w0.heap[j]?) (hcs : ∀ r u, cs[r]? = some u → w0.cell? ⟨g, o + j * k + r, none⟩ = some u) (hP : InsP w0 cs i) (hm : out.length ≤ 4200000) :
    Calls Try.prog 43 #[.agg #[X.i], .pointer (some ⟨g, o + j * k, none⟩)] w fun e w' => e = .returned (.tuple #[]) ∧ ∃ X', Wl X' w' (insW out i) ∧ Stp X X' w w' := by
  obtain ⟨rfl, h1, h2, h3⟩ := hP
  have hc := witem_cell hg hk hcs
  exact winstr_any L hB hg (hc 0 _ rfl) (hc 1 _ rfl) (hc 2 _ rfl) h1 h2 h3 (by omega)
end
end Go.Proofs.Ytnkdlbiicfnmcaa

namespace Go.Proofs.Ytnkdlbiicfnmcaa
open Go.RowKit
section
variable {X : Wx} {w w' : World} {out : By} {B : Nat}
set_option maxHeartbeats 1000000 in
theorem wlistI_any (L : Wl X w out) (hBX : B ≤ X.B) {q : Addr} {v : Value} {l : List (In3)} (hq : w.cell? q = some v) (hqB : q.block < B) (R : SlAt 3 InsP B w v l) (hm : out.length ≤ 5000000) :
    Calls Try.prog 42 #[.agg #[X.i], .pointer (some q), .func (.func 43) #[.agg #[X.i]] #[]] w fun e w' => e = .returned (.tuple #[]) ∧ ∃ X', Wl X' w' (lstW insW out l) ∧ Stp X X' w w' := by
  obtain ⟨ao, cap, rfl, hlen, hel⟩ := R
  have HEL := hide hel
  have HLen := hide hlen
  have HBX0 := hide hBX
  obtain ⟨W1, hW1⟩ : ∃ W1, w.alloc (.cells #[X.i] 48) = W1 := ⟨_, rfl⟩
  have hb : W1.heap[w.heap.size]? = some (.cells #[X.i] 48 (0, 0)) := by rw [← hW1]; exact heap_new _ _ rfl
  have cb : W1.cell? ⟨w.heap.size, 0, none⟩ = some X.i := cell_of hb rfl
  have S0 := hide (show Stp X X w W1 from hW1 ▸ Stp.of_below ((Below.refl _ _).alloc (Nat.le_refl _) _))
  have L1 := hide (show Wl X W1 out from hW1 ▸ L.alloc _)
  have hqX : q.block < X.B := Nat.lt_of_lt_of_le hqB hBX
  have c1 : W1.cell? q = some (.slice ao l.length cap) := by rw [L.cellB S0.out hqX]; exact hq
  have HQ0 := hide c1
  have HQ := hide (show ∀ (Y : Wx) (wr : World), Stp X Y w wr → wr.cell? q = some (.slice ao l.length cap) from fun Y wr S => by rw [L.cellB S hqX]; exact hq)
  have HB := hide hb
  have HQB := hide hqX
  have HN := hide (count_any (L1.out.drew) (n := (l.length : Int)) (by omega) (by omega) (by omega))
  have HL0 := hide L
  clear hel hlen hb L hqB hm hq hqX hBX
  go_enter Try.func42, Try.ntmps42
  go_wp2_with fail
  clear hW1
  go_region_held3 (fun W => W.cell? ⟨w.heap.size, 0, none⟩ = some X.i ∧ W.cell? q = some (.slice ao l.length cap)) (first | exact ⟨cb, c1⟩ | exact ⟨cb2, c2⟩ | go_keep) ((go_simp; go_upon; go_at_call 60; refine HN.out.mono ?_; rintro e w2 ⟨rfl, X2, LX, SX⟩; have cb2 : w2.cell? ⟨w.heap.size, 0, none⟩ = some X.i := cell_of (SX.box L1.out.drew HB.out (by decide) (by decide)) rfl; have c2 : w2.cell? q = some (.slice ao l.length cap) := by rw [L1.out.drew.cellB SX HQB.out]; exact HQ0.out))
  have HLX := hide LX
  have HSX := hide (S0.out.trans ((Stp.of_below (below_drew (Below.refl _ _))).trans SX))
  have HBX := hide (SX.box L1.out.drew HB.out (by decide) (by decide))
  have HW := hide (show lstW insW out l = loopW insW l (numW out l.length) from rfl)
  clear LX SX cb c1 cb2 c2 HN S0 L1 HB
  generalize hO1 : numW out l.length = o1 at *
  clear hO1
  go_wp2_with fail
  go_loopw [7] (fun a wr => LsR X w insW l o1 w.heap.size a wr) (fun a _ => l.length - (intOf a).toNat)
  case atStart => exact ⟨0, X2, o1, rfl, Nat.zero_le _, by simp, HLX.out, HSX.out, HBX.out⟩
  case round =>
    obtain ⟨j, Y, o2, rfl, hj, hlp, LY, SY, hbx⟩ := hrel
    have hA := SY.A
    have cb : wr.cell? ⟨w.heap.size, 0, none⟩ = some X.i := cell_of hbx rfl
    have c1 : wr.cell? q = some (.slice ao l.length cap) := HQ.out _ _ SY
    have hG : Calls Try.prog 17 #[X.p] wr fun e w' => e = .returned (.bool (decide (o2.length ≤ MB))) ∧ w' = wr := by have := going_any LY; rwa [Wx.p, hA] at this
    have HSB := hide (show ∀ j, j < B → wr.heap[j]? = w.heap[j]? from fun j hj => Stp.sameB (out := out) HL0.out SY j (Nat.lt_of_lt_of_le hj HBX0.out))
    have HYB := hide (show B ≤ Y.B by rw [SY.B]; exact HBX0.out)
    have HLY := hide LY
    have HSY := hide SY
    have HA := hide hA
    have HLP := hide hlp
    have HBX2 := hide hbx
    have HG := hide hG
    clear LY SY hA hlp hbx hG
    by_cases hlt : j < l.length
    · obtain ⟨x, hx⟩ : ∃ x, l[j]? = some x := ⟨l[j], by simp [hlt]⟩
      obtain ⟨g, o, cs, hao, hgB, hcs, hP⟩ := HEL.out j x hx
      subst hao
      have d1 : decide ((j : Int) < (l.length : Int)) = true := by simp; omega
      have d2 : decide (j < l.length) = true := by simpa using hlt
      have d3 : decide (j = l.length) = false := by simp; omega
      have d4 : decide ((j : Int) = (l.length : Int)) = false := by simp; omega
      by_cases hgo : o2.length ≤ MB
      · have hd : decide (o2.length ≤ MB) = true := by simpa using hgo
        have HITEM := hide (show Calls Try.prog 43 #[.agg #[X.i], .pointer (some ⟨g, o + j * 3, none⟩)] wr fun e w' => e = .returned (.tuple #[]) ∧ ∃ X', Wl X' w' (insW o2 x) ∧ Stp Y X' wr w' from by
          have := witem_I HLY.out HYB.out hgB HSB.out hcs hP (Nat.le_trans hgo (by decide))
          rwa [Wx.i, HA.out] at this)
        have HST := hide (loopW_step (F := insW) hgo hx)
        clear hx hcs hP hgo
        generalize hn : l.length = n at *
        have HNl := hide hn
        clear hn
        go_wp2_with fail
        refine HG.out.mono ?_
        rintro e w3 ⟨rfl, rfl⟩
        rw [hd]
        go_wp2_with fail
        refine HITEM.out.mono ?_
        rintro e w4 ⟨rfl, X4, L4, S4⟩
        have HL4 := hide L4
        have HS4 := hide S4
        clear L4 S4 HITEM
        go_wp2
        go_roundw
        case rel =>
          refine ⟨j + 1, X4, insW o2 x, ?_, ?_, ?_, ?_, ?_, ?_⟩
          · exact num_next hlt HLen.out
          · rw [HNl.out]; exact hlt
          · exact HST.out.symm.trans HLP.out
          · exact HL4.out
          · exact HSY.out.trans HS4.out
          · exact HS4.out.box HLY.out HBX2.out (by decide) (by decide)
        case measure => exact meas_int hlt HLen.out
      · have hd : decide (o2.length ≤ MB) = false := by simpa using hgo
        have HEND := hide (loopW_long (F := insW) (l := l.drop j) hgo)
        clear hx hcs hP hgo
        generalize l.length = n at *
        go_wp2_with fail
        refine HG.out.mono ?_
        rintro e w3 ⟨rfl, rfl⟩
        rw [hd]
        go_wp2
        go_returns
        exact ⟨rfl, Y, by rw [HW.out, ← HLP.out, HEND.out]; exact HLY.out, HSY.out⟩
    · obtain rfl : j = l.length := by omega
      have d1 : decide ((l.length : Int) < (l.length : Int)) = false := by simp
      have d2 : decide (l.length < l.length) = false := by simp
      have HEND := hide (show loopW insW (l.drop l.length) o2 = o2 by rw [List.drop_length]; rfl)
      generalize hn : l.length = n at *
      clear hn
      go_wp2
      go_returns
      exact ⟨rfl, Y, by rw [HW.out, ← HLP.out, HEND.out]; exact HLY.out, HSY.out⟩
end
end Go.Proofs.Ytnkdlbiicfnmcaa
