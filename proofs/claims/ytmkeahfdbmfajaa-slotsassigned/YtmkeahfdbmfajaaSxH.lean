/- release: what has ended comes free. -/
import Derived.Test.YtmkeahfdbmfajaaSxGt
import Derived.Test.YtmkeahfdbmfajaaSxN
namespace Go.Proofs.Ytmkeahfdbmfajaa
open Go.RowKit
section
variable {w0 w : World} {B : Nat} {fr tk : List Nat} {un : List Int} {t0 t : Int}
set_option maxRecDepth 20000 in
set_option maxHeartbeats 4000000 in
theorem release_any (V : Ps w0 w B fr tk un) (I : Iv fr tk un t0) (hl : un.length ≤ 50000) (hle : t0 ≤ t) : Calls Try.prog 16 #[.pointer (some ⟨B, 0, none⟩), .int .i64 t] w fun e w' => (∃ v, e = .returned v) ∧ ∃ fr' tk', Ps w0 w' B fr' tk' un ∧ Iv fr' tk' un t ∧ ∀ a ∈ tk', t < ku un a := by
  have HV := hide (show Ps w0 w B fr tk un ∧ Iv fr tk un t from ⟨V, I.later hle⟩)
  have HL := hide hl
  clear V I hl hle
  go_enter Try.func16, Try.ntmps16
  go_wp2
  go_loopg [4] tk.length (fun G v4 wr => ∃ (fr1 tk1 : List Nat), tk1.length ≤ G ∧ Hid (Ps w0 wr B fr1 tk1 un ∧ Iv fr1 tk1 un t))
  case atStart => exact ⟨fr, tk, Nat.le_refl _, HV⟩
  case round =>
    obtain ⟨fr1, tk1, hG, HI⟩ := hrel
    obtain ⟨W1, rfl⟩ : ∃ X, X = wr := ⟨wr, rfl⟩
    clear HV
    obtain ⟨f, V⟩ := HI.out.1
    obtain ⟨c1, z1, l1⟩ := V.cell (t := 1) (by omega)
    obtain ⟨c2, z2, _⟩ := V.cell (t := 2) (by omega)
    obtain ⟨ao, cap, hf⟩ := row_form V.row1
    have hlen := HI.out.2.len
    have HLn := hide hlen
    clear hlen
    by_cases h0 : tk1.length = 0
    · rw [hf, h0] at c1
      clear hf
      have HT : Hid (tk1 = []) := hide (List.length_eq_zero_iff.mp h0)
      go_wp2_with (go_at_call 27; refine (qlen_any (n := 0)).mono ?_; rintro e w2 ⟨rfl, rfl⟩)
      go_returns
      exact ⟨⟨_, rfl⟩, fr1, tk1, HI.out.1, HI.out.2, fun a ha => by rw [HT.out] at ha; cases ha⟩
    · have hm0 := mem0 (show 0 < tk1.length by omega)
      have HFE := hide (first0 V.row1 V.row2 (zs_get (by omega)) (ku_get (HI.out.2.bt _ hm0)))
      have hroot := root_le HI.out.2.ht
      rw [hf] at c1 HFE
      have b0 : (0 : Int) < (tk1.length : Int) := by omega
      have HQ := hide V
      have HR := hide hroot
      obtain ⟨x, hx⟩ : ∃ x, tk1.getD 0 0 = x := ⟨_, rfl⟩
      have HX := hide hx
      rw [hx] at HFE
      clear hroot hf V hm0 hx
      by_cases hk : ku un x ≤ t
      · have HK := hide hk
        have hbt := HI.out.2.bt
        have hta := ta_int x
        obtain ⟨kx, hkx⟩ : ∃ kx, ku un x = kx := ⟨_, rfl⟩
        rw [hkx] at HFE hk
        clear hkx
        go_wp2_with (first
          | (go_at_call 27; refine (qlen_any (n := tk1.length)).mono ?_; rintro e w2 ⟨rfl, rfl⟩)
          | (go_at_call 28; refine HFE.out.mono ?_; rintro e w3 ⟨rfl, hb⟩; clear HFE
             have hP := popt_any (show Ps w0 w3.drew B fr1 tk1 un from ⟨_, HQ.out.under (below_drewN hb 1)⟩) HI.out.2.ht (by omega) (by have := HLn.out; have := HL.out; omega) hbt
             rw [HX.out] at hP
             have HP := hide hP
             clear hP hb))
        go_region_with (first
          | (go_at_call 30; refine HP.out.mono ?_; rintro e w4 ⟨rfl, l4, h4, h5, V4⟩; clear HP
             have H4 := hide (And.intro h4 h5)
             have HU := hide (pushf_any (x := x) V4 HI.out.2.hf (by have := HLn.out; have := HL.out; omega))
             clear h4 h5 V4)
          | (go_at_call 29; refine HU.out.mono ?_; rintro e w5 ⟨⟨v5, rfl⟩, l5, h6, h7, V5⟩; clear HU
             have H5 := hide (And.intro V5 (HI.out.2.free H4.out.1 h6 h7 H4.out.2 HK.out))
             have H6 := hide H4.out.1.length_eq
             clear h6 h7 V5))
        go_wp2_with fail
        go_roundg (tk1.length - 1)
        case measure => omega
        case rel => exact ⟨l5, l4, by have := H6.out; rw [List.length_cons] at this; omega, H5⟩
      · have hk2 : t < ku un x := by omega
        have HK := hide hk2
        obtain ⟨kx, hkx⟩ : ∃ kx, ku un x = kx := ⟨_, rfl⟩
        rw [hkx] at HFE hk2
        clear hkx
        go_wp2_with (first
          | (go_at_call 27; refine (qlen_any (n := tk1.length)).mono ?_; rintro e w2 ⟨rfl, rfl⟩)
          | (go_at_call 28; refine HFE.out.mono ?_; rintro e w3 ⟨rfl, hb⟩; clear HFE))
        go_returns
        exact ⟨⟨_, rfl⟩, fr1, tk1, ⟨_, HQ.out.under hb⟩, HI.out.2, fun a ha => by have := HR.out a ha; rw [HX.out] at this; have := HK.out; omega⟩
end
end Go.Proofs.Ytmkeahfdbmfajaa
