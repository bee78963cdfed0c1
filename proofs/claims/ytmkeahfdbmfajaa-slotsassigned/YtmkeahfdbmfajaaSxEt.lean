/- heap.up. -/
import Derived.Test.YtmkeahfdbmfajaaSxEf
namespace Go.Proofs.Ytmkeahfdbmfajaa
open Go.RowKit
section
variable {w0 w : World} {B : Nat} {fr tk : List Nat} {un : List Int}
set_option maxRecDepth 20000 in
set_option maxHeartbeats 2000000 in
theorem upt_any {n j : Nat} (V : Ps w0 w B fr tk un) (hn : tk.length = n) (hl : n ≤ 100000) (hb : ∀ a ∈ tk, a < un.length) (hU : UpI (ku un) tk n j) : Calls Try.prog 36 #[.iface 62 (.pointer (some ⟨B, 1, none⟩)), .int .i64 j] w fun e w' => (∃ v, e = .returned v) ∧ ∃ l', l'.Perm tk ∧ Hp (ku un) l' n ∧ Ps w0 w' B fr l' un := by
  have HV := hide (show Ps w0 w B fr tk un ∧ tk.Perm tk ∧ UpI (ku un) tk n j from ⟨V, List.Perm.refl _, hU⟩)
  have HN := hide hn
  have HB := hide hb
  clear hb
  clear V hU hn
  go_enter Try.func36, Try.ntmps36
  go_wp2
  go_loopg [1, 4] j (fun G v1 v4 wr => ∃ (i : Nat) (l : List Nat), v1 = .int .i64 i ∧ i ≤ G ∧ Hid (Ps w0 wr B fr l un ∧ l.Perm tk ∧ UpI (ku un) l n i))
  case atStart => exact ⟨j, tk, rfl, Nat.le_refl _, HV⟩
  case round =>
    obtain ⟨i, l, rfl, hi, HL⟩ := hrel
    obtain ⟨W1, rfl⟩ : ∃ X, X = wr := ⟨wr, rfl⟩
    clear HV
    have hll : l.length = n := by rw [HL.out.2.1.length_eq]; exact HN.out
    obtain ⟨f, V⟩ := HL.out.1
    obtain ⟨c0, z0, l0⟩ := V.cell (t := 1) (by omega)
    have HBL := hide (fun a (ha : a ∈ l) => HB.out a (HL.out.2.1.mem_iff.mp ha))
    obtain ⟨c2, _, _⟩ := V.cell (t := 2) (by omega)
    have bi : (i : Int) ≤ 100000 := by have := HL.out.2.2.1; omega
    by_cases h0 : i = 0
    · subst h0
      go_wp2
      go_returns
      exact ⟨⟨_, rfl⟩, l, HL.out.2.1, HL.out.2.2.done_root, HL.out.1⟩
    · obtain ⟨p, hp⟩ : ∃ p, (i - 1) / 2 = p := ⟨_, rfl⟩
      have hd : Int.tdiv ((i : Int) - 1) 2 = (p : Int) := by rw [Int.tdiv_eq_ediv_of_nonneg (by omega)]; omega
      have hne : ((p : Int) == (i : Int)) = false := by simp; omega
      have hm := m1_Less (W := W1) c0 c2
      have hi2 := HL.out.2.2.1
      have hls := kless_any V.row1 V.row2 HBL.out (l := l) (i := i) (j := p) (by omega) (by omega)
      have HC := hide hls
      clear hls
      cases hd2 : decide (kv (ku un) l i < kv (ku un) l p) with
      | false =>
        rw [hd2] at HC
        go_wp2_with (go_at_call 86; refine HC.out.mono ?_; rintro e w2 ⟨rfl, hb⟩)
        go_returns
        have hk : kv (ku un) l ((i - 1) / 2) ≤ kv (ku un) l i := by rw [hp]; simpa using hd2
        exact ⟨⟨_, rfl⟩, l, HL.out.2.1, HL.out.2.2.done hk, _, V.under hb⟩
      | true =>
        rw [hd2] at HC
        have hst := HL.out.2.2.step (by omega) (by omega) (by rw [hp]; simpa using hd2)
        rw [hp] at hst
        have HST := hide hst
        have HQ := hide V
        clear hst V
        go_wp2_with (first
          | (go_at_call 86; refine HC.out.mono ?_; rintro e w2 ⟨rfl, hb⟩; clear HC hm
             have V2 := HQ.out.under hb
             have hm2 := m1_Swap (W := w2) (V2.cell (t := 1) (by omega)).1
             have HS := hide (qswap_any V2.row1 (i := p) (j := i) (by omega) (by omega))
             have H2 := hide V2
             clear V2)
          | (go_at_call 85; refine HS.out.mono ?_; rintro e w3 ⟨⟨v3, rfl⟩, hr, hk⟩; clear HS hm2
             have H3 := hide (H2.out.to1 hk hr)
             clear hr hk H2))
        go_roundg p
        case measure => omega
        case rel => exact ⟨p, sw l p i, rfl, Nat.le_refl _, H3.out, (sw_perm (by omega) (by omega)).trans HL.out.2.1, HST.out⟩
end
end Go.Proofs.Ytmkeahfdbmfajaa
