/- The writer's list: T. -/
import Derived.Test.YtnkdlbiicfnmcaaCdLNJt
namespace Go.Proofs.Ytnkdlbiicfnmcaa
open Go.RowKit
section
variable {X : Wx} {w w' : World} {out : By} {B : Nat}
set_option maxHeartbeats 1000000 in
theorem wlistT_any (L : Wl X w out) (hBX : B ≤ X.B) {q : Addr} {v : Value} {l : List (List Int)} (hq : w.cell? q = some v) (hqB : q.block < B) (R : SlAt 1 (LstP B) B w v l) (hm : out.length ≤ 5000000) :
    Calls Try.prog 37 #[.agg #[X.i], .pointer (some q), .func (.func 38) #[.agg #[X.i]] #[]] w fun e w' => e = .returned (.tuple #[]) ∧ ∃ X', Wl X' w' (lstW intsW out l) ∧ Stp X X' w w' := by
  obtain ⟨ao, cap, rfl, hlen, hel⟩ := R
  have HEL := hide hel
  have HLen := hide hlen
  have HBX0 := hide hBX
  obtain ⟨W1, hW1⟩ : ∃ W1, w.alloc (.cells #[X.i] 48) = W1 := ⟨_, rfl⟩
  have hb : W1.heap[w.heap.size]? = some (.cells #[X.i] 48 (0, 0)) := by rw [← hW1]; exact heap_new _ _ rfl
  have cb : W1.cell? ⟨w.heap.size, 0, none⟩ = some X.i := cell_of hb rfl
  have S0 := hide (show Stp X X w W1 from hW1 ▸ Stp.of_below ((Below.refl _ _).alloc (Nat.le_refl _) _))
  have L1 := hide (show Wl X W1 out from hW1 ▸ L.alloc _)
  have hqX : q.block < X.B := Nat.lt_of_lt_of_le hqB hBX
  have c1 : W1.cell? q = some (.slice ao l.length cap) := by rw [L.cellB S0.out hqX]; exact hq
  have HQ0 := hide c1
  have HQ := hide (show ∀ (Y : Wx) (wr : World), Stp X Y w wr → wr.cell? q = some (.slice ao l.length cap) from fun Y wr S => by rw [L.cellB S hqX]; exact hq)
  have HB := hide hb
  have HQB := hide hqX
  have HN := hide (count_any (L1.out.drew) (n := (l.length : Int)) (by omega) (by omega) (by omega))
  have HL0 := hide L
  clear hel hlen hb L hqB hm hq hqX hBX
  go_enter Try.func37, Try.ntmps37
  go_wp2_with fail
  clear hW1
  go_region_held3 (fun W => W.cell? ⟨w.heap.size, 0, none⟩ = some X.i ∧ W.cell? q = some (.slice ao l.length cap)) (first | exact ⟨cb, c1⟩ | exact ⟨cb2, c2⟩ | go_keep) ((go_simp; go_upon; go_at_call 60; refine HN.out.mono ?_; rintro e w2 ⟨rfl, X2, LX, SX⟩; have cb2 : w2.cell? ⟨w.heap.size, 0, none⟩ = some X.i := cell_of (SX.box L1.out.drew HB.out (by decide) (by decide)) rfl; have c2 : w2.cell? q = some (.slice ao l.length cap) := by rw [L1.out.drew.cellB SX HQB.out]; exact HQ0.out))
  have HLX := hide LX
  have HSX := hide (S0.out.trans ((Stp.of_below (below_drew (Below.refl _ _))).trans SX))
  have HBX := hide (SX.box L1.out.drew HB.out (by decide) (by decide))
  have HW := hide (show lstW intsW out l = loopW intsW l (numW out l.length) from rfl)
  clear LX SX cb c1 cb2 c2 HN S0 L1 HB
  generalize hO1 : numW out l.length = o1 at *
  clear hO1
  go_wp2_with fail
  go_loopw [7] (fun a wr => LsR X w intsW l o1 w.heap.size a wr) (fun a _ => l.length - (intOf a).toNat)
  case atStart => exact ⟨0, X2, o1, rfl, Nat.zero_le _, by simp, HLX.out, HSX.out, HBX.out⟩
  case round =>
    obtain ⟨j, Y, o2, rfl, hj, hlp, LY, SY, hbx⟩ := hrel
    have hA := SY.A
    have cb : wr.cell? ⟨w.heap.size, 0, none⟩ = some X.i := cell_of hbx rfl
    have c1 : wr.cell? q = some (.slice ao l.length cap) := HQ.out _ _ SY
    have hG : Calls Try.prog 17 #[X.p] wr fun e w' => e = .returned (.bool (decide (o2.length ≤ MB))) ∧ w' = wr := by have := going_any LY; rwa [Wx.p, hA] at this
    have HSB := hide (show ∀ j, j < B → wr.heap[j]? = w.heap[j]? from fun j hj => Stp.sameB (out := out) HL0.out SY j (Nat.lt_of_lt_of_le hj HBX0.out))
    have HYB := hide (show B ≤ Y.B by rw [SY.B]; exact HBX0.out)
    have HLY := hide LY
    have HSY := hide SY
    have HA := hide hA
    have HLP := hide hlp
    have HBX2 := hide hbx
    have HG := hide hG
    clear LY SY hA hlp hbx hG
    by_cases hlt : j < l.length
    · obtain ⟨x, hx⟩ : ∃ x, l[j]? = some x := ⟨l[j], by simp [hlt]⟩
      obtain ⟨g, o, cs, hao, hgB, hcs, hP⟩ := HEL.out j x hx
      subst hao
      have d1 : decide ((j : Int) < (l.length : Int)) = true := by simp; omega
      have d2 : decide (j < l.length) = true := by simpa using hlt
      have d3 : decide (j = l.length) = false := by simp; omega
      have d4 : decide ((j : Int) = (l.length : Int)) = false := by simp; omega
      by_cases hgo : o2.length ≤ MB
      · have hd : decide (o2.length ≤ MB) = true := by simpa using hgo
        have HITEM := hide (show Calls Try.prog 38 #[.agg #[X.i], .pointer (some ⟨g, o + j, none⟩)] wr fun e w' => e = .returned (.tuple #[]) ∧ ∃ X', Wl X' w' (intsW o2 x) ∧ Stp Y X' wr w' from by
          have := witem_T HLY.out HYB.out hgB HSB.out hcs hP (Nat.le_trans hgo (by decide))
          rw [Nat.mul_one] at this
          rwa [Wx.i, HA.out] at this)
        have HST := hide (loopW_step (F := intsW) hgo hx)
        clear hx hcs hP hgo
        generalize hn : l.length = n at *
        have HNl := hide hn
        clear hn
        go_wp2_with fail
        refine HG.out.mono ?_
        rintro e w3 ⟨rfl, rfl⟩
        rw [hd]
        go_wp2_with fail
        refine HITEM.out.mono ?_
        rintro e w4 ⟨rfl, X4, L4, S4⟩
        have HL4 := hide L4
        have HS4 := hide S4
        clear L4 S4 HITEM
        go_wp2
        go_roundw
        case rel =>
          refine ⟨j + 1, X4, intsW o2 x, ?_, ?_, ?_, ?_, ?_, ?_⟩
          · exact num_next hlt HLen.out
          · rw [HNl.out]; exact hlt
          · exact HST.out.symm.trans HLP.out
          · exact HL4.out
          · exact HSY.out.trans HS4.out
          · exact HS4.out.box HLY.out HBX2.out (by decide) (by decide)
        case measure => exact meas_int hlt HLen.out
      · have hd : decide (o2.length ≤ MB) = false := by simpa using hgo
        have HEND := hide (loopW_long (F := intsW) (l := l.drop j) hgo)
        clear hx hcs hP hgo
        generalize l.length = n at *
        go_wp2_with fail
        refine HG.out.mono ?_
        rintro e w3 ⟨rfl, rfl⟩
        rw [hd]
        go_wp2
        go_returns
        exact ⟨rfl, Y, by rw [HW.out, ← HLP.out, HEND.out]; exact HLY.out, HSY.out⟩
    · obtain rfl : j = l.length := by omega
      have d1 : decide ((l.length : Int) < (l.length : Int)) = false := by simp
      have d2 : decide (l.length < l.length) = false := by simp
      have HEND := hide (show loopW intsW (l.drop l.length) o2 = o2 by rw [List.drop_length]; rfl)
      generalize hn : l.length = n at *
      clear hn
      go_wp2
      go_returns
      exact ⟨rfl, Y, by rw [HW.out, ← HLP.out, HEND.out]; exact HLY.out, HSY.out⟩
end
end Go.Proofs.Ytnkdlbiicfnmcaa
