/- heap.down. -/
import Derived.Test.YtmkeahfdbmfajaaSxEt
namespace Go.Proofs.Ytmkeahfdbmfajaa
open Go.RowKit
section
variable {w0 w : World} {B : Nat} {fr tk : List Nat} {un : List Int}
set_option maxRecDepth 20000 in
set_option maxHeartbeats 4000000 in
theorem dnt_any {n m : Nat} (V : Ps w0 w B fr tk un) (hn : tk.length = m) (hm : n ≤ m) (hl : m ≤ 100000) (hb : ∀ a ∈ tk, a < un.length) (hU : DnI (ku un) tk n 0) : Calls Try.prog 37 #[.iface 62 (.pointer (some ⟨B, 1, none⟩)), .int .i64 0, .int .i64 n] w fun e w' => (∃ v, e = .returned v) ∧ ∃ l', l'.Perm tk ∧ Hp (ku un) l' n ∧ (∀ k, n ≤ k → l'.getD k 0 = tk.getD k 0) ∧ Ps w0 w' B fr l' un := by
  have HV := hide (show Ps w0 w B fr tk un ∧ tk.Perm tk ∧ (∀ k, n ≤ k → tk.getD k 0 = tk.getD k 0) ∧ DnI (ku un) tk n 0 from ⟨V, List.Perm.refl _, fun _ _ => rfl, hU⟩)
  have HN := hide hn
  have HB := hide hb
  clear hb
  clear V hU hn
  go_enter Try.func37, Try.ntmps37
  go_wp2
  go_loopg [7, 8, 9, 10] n (fun G v7 v8 v9 v10 wr => ∃ (c : Nat) (l : List Nat), v7 = .int .i64 c ∧ c ≤ n ∧ n - c ≤ G ∧ Hid (Ps w0 wr B fr l un ∧ l.Perm tk ∧ (∀ k, n ≤ k → l.getD k 0 = tk.getD k 0) ∧ DnI (ku un) l n c))
  case atStart => exact ⟨0, tk, rfl, Nat.zero_le _, Nat.sub_le _ _, hide ⟨HV.out.1, HV.out.2.1, fun _ _ => rfl, HV.out.2.2.2⟩⟩
  case round =>
    obtain ⟨c, l, rfl, hcn, hi, HL⟩ := hrel
    obtain ⟨W1, rfl⟩ : ∃ X, X = wr := ⟨wr, rfl⟩
    clear HV
    have hll : l.length = m := by rw [HL.out.2.1.length_eq]; exact HN.out
    obtain ⟨f, V⟩ := HL.out.1
    obtain ⟨c0, z0, l0⟩ := V.cell (t := 1) (by omega)
    have HBL := hide (fun a (ha : a ∈ l) => HB.out a (HL.out.2.1.mem_iff.mp ha))
    obtain ⟨c2, _, _⟩ := V.cell (t := 2) (by omega)
    have bn : (n : Int) ≤ 100000 := by omega
    have bc : (c : Int) ≤ 100000 := by omega
    obtain ⟨q, r, hqr⟩ : ∃ q r : Nat, q = 2 * c + 1 ∧ r = 2 * c + 2 := ⟨_, _, rfl, rfl⟩
    have e1 : (2 : Int) * c + 1 = (q : Int) := by omega
    have e2 : (q : Int) + 1 = (r : Int) := by omega
    have bq : (q : Int) ≤ 200001 := by omega
    have HQR := hide hqr
    clear hqr
    by_cases h0 : n ≤ q
    · have b1 : (n : Int) ≤ (q : Int) := by omega
      go_wp2
      go_returns
      exact ⟨⟨_, rfl⟩, l, HL.out.2.1, HL.out.2.2.2.done_leaf (by have := HQR.out; omega), HL.out.2.2.1, HL.out.1⟩
    · have b1 : (q : Int) < (n : Int) := by omega
      have HQ := hide V
      have hKD : Hid (∀ j, n ≤ j → l.getD j 0 = tk.getD j 0) := hide HL.out.2.2.1
      by_cases h2 : r < n
      · have b2 : (r : Int) < (n : Int) := by omega
        have hmz := m1_Less (W := W1) c0 c2
        have hls := kless_any V.row1 V.row2 HBL.out (l := l) (i := r) (j := q) (by omega) (by omega)
        have HC := hide hls
        clear hls V
        cases hd : decide (kv (ku un) l r < kv (ku un) l q) with
        | true =>
          rw [hd] at HC
          have hd' := of_decide_eq_true hd
          have hls2 : Hid (∀ W : World, Below W1.heap.size W1 W → Calls Try.prog 86 #[.agg #[f 1, f 2], .int .i64 r, .int .i64 c] W fun e w' => e = .returned (.bool (decide (kv (ku un) l r < kv (ku un) l c))) ∧ Below W.heap.size W w') := hide (fun W hW => by have V2 := HQ.out.under hW; exact kless_any V2.row1 V2.row2 HBL.out (l := l) (i := r) (j := c) (by omega) (by omega))
          cases hd2 : decide (kv (ku un) l (r) < kv (ku un) l c) with
          | false =>
            rw [hd2] at hls2
            have HDN := hide (HL.out.2.2.2.done (fun _ => (HQR.out.1 ▸ (by have := of_decide_eq_false hd2; omega : kv (ku un) l c ≤ kv (ku un) l q))) (fun _ => (HQR.out.2 ▸ (by have := of_decide_eq_false hd2; omega : kv (ku un) l c ≤ kv (ku un) l r))))
            go_wp2_with (first
              | (go_at_call 86; refine HC.out.mono ?_; rintro e w2 ⟨rfl, hb⟩; clear HC; have V2 := HQ.out.under hb; have hmz := m1_Less (W := w2) (V2.cell (t := 1) (by omega)).1 (V2.cell (t := 2) (by omega)).1; have HB1 := hide hb; clear hb V2)
              | (go_at_call 86; refine (hls2.out _ HB1.out).mono ?_; rintro e w3 ⟨rfl, hb3⟩; have HB3 := hide (HB1.out.trans (hb3.mono HB1.out.size)); clear hb3 hmz))
            go_returns
            exact ⟨⟨_, rfl⟩, l, HL.out.2.1, HDN.out, hKD.out, _, HQ.out.under HB3.out⟩
          | true =>
            rw [hd2] at hls2
            have hst := HL.out.2.2.2.step (j := r) (by omega) (by have := HQR.out; omega) (by omega) (by simpa using hd2) (fun _ => (HQR.out.1 ▸ (by omega : kv (ku un) l r ≤ kv (ku un) l q))) (fun _ => (HQR.out.2 ▸ Int.le_refl _))
            have HST := hide hst
            clear hst
            go_wp2_with (first
              | (go_at_call 86; refine HC.out.mono ?_; rintro e w2 ⟨rfl, hb⟩; clear HC; have V2 := HQ.out.under hb; have hmz := m1_Less (W := w2) (V2.cell (t := 1) (by omega)).1 (V2.cell (t := 2) (by omega)).1; have HB1 := hide hb; clear hb V2)
              | (go_at_call 86; refine (hls2.out _ HB1.out).mono ?_; rintro e w3 ⟨rfl, hb3⟩; have V3 := HQ.out.under (HB1.out.trans (hb3.mono HB1.out.size)); clear hb3 hmz
                 have hms := m1_Swap (W := w3) (V3.cell (t := 1) (by omega)).1
                 have HS := hide (qswap_any V3.row1 (i := c) (j := r) (by omega) (by omega))
                 have H3 := hide V3
                 clear V3)
              | (go_at_call 85; refine HS.out.mono ?_; rintro e w4 ⟨⟨v4, rfl⟩, hr, hk⟩; clear HS hms
                 have H4 := hide (H3.out.to1 hk hr)
                 clear hr hk H3))
            go_roundg (n - (r))
            case measure => omega
            case rel => exact ⟨r, sw l c (r), by go_num, by omega, by omega, H4.out, (sw_perm (by omega) (by omega)).trans HL.out.2.1, fun k hk => by rw [sw_get (by omega) (by omega), if_neg (by omega), if_neg (by omega)]; exact hKD.out k hk, HST.out⟩
        | false =>
          rw [hd] at HC
          have hd' := of_decide_eq_false hd
          have hls2 : Hid (∀ W : World, Below W1.heap.size W1 W → Calls Try.prog 86 #[.agg #[f 1, f 2], .int .i64 q, .int .i64 c] W fun e w' => e = .returned (.bool (decide (kv (ku un) l q < kv (ku un) l c))) ∧ Below W.heap.size W w') := hide (fun W hW => by have V2 := HQ.out.under hW; exact kless_any V2.row1 V2.row2 HBL.out (l := l) (i := q) (j := c) (by omega) (by omega))
          cases hd2 : decide (kv (ku un) l (q) < kv (ku un) l c) with
          | false =>
            rw [hd2] at hls2
            have HDN := hide (HL.out.2.2.2.done (fun _ => (HQR.out.1 ▸ (by have := of_decide_eq_false hd2; omega : kv (ku un) l c ≤ kv (ku un) l q))) (fun _ => (HQR.out.2 ▸ (by have := of_decide_eq_false hd2; omega : kv (ku un) l c ≤ kv (ku un) l r))))
            go_wp2_with (first
              | (go_at_call 86; refine HC.out.mono ?_; rintro e w2 ⟨rfl, hb⟩; clear HC; have V2 := HQ.out.under hb; have hmz := m1_Less (W := w2) (V2.cell (t := 1) (by omega)).1 (V2.cell (t := 2) (by omega)).1; have HB1 := hide hb; clear hb V2)
              | (go_at_call 86; refine (hls2.out _ HB1.out).mono ?_; rintro e w3 ⟨rfl, hb3⟩; have HB3 := hide (HB1.out.trans (hb3.mono HB1.out.size)); clear hb3 hmz))
            go_returns
            exact ⟨⟨_, rfl⟩, l, HL.out.2.1, HDN.out, hKD.out, _, HQ.out.under HB3.out⟩
          | true =>
            rw [hd2] at hls2
            have hst := HL.out.2.2.2.step (j := q) (by omega) (by have := HQR.out; omega) (by omega) (by simpa using hd2) (fun _ => (HQR.out.1 ▸ Int.le_refl _)) (fun _ => (HQR.out.2 ▸ (by omega : kv (ku un) l q ≤ kv (ku un) l r)))
            have HST := hide hst
            clear hst
            go_wp2_with (first
              | (go_at_call 86; refine HC.out.mono ?_; rintro e w2 ⟨rfl, hb⟩; clear HC; have V2 := HQ.out.under hb; have hmz := m1_Less (W := w2) (V2.cell (t := 1) (by omega)).1 (V2.cell (t := 2) (by omega)).1; have HB1 := hide hb; clear hb V2)
              | (go_at_call 86; refine (hls2.out _ HB1.out).mono ?_; rintro e w3 ⟨rfl, hb3⟩; have V3 := HQ.out.under (HB1.out.trans (hb3.mono HB1.out.size)); clear hb3 hmz
                 have hms := m1_Swap (W := w3) (V3.cell (t := 1) (by omega)).1
                 have HS := hide (qswap_any V3.row1 (i := c) (j := q) (by omega) (by omega))
                 have H3 := hide V3
                 clear V3)
              | (go_at_call 85; refine HS.out.mono ?_; rintro e w4 ⟨⟨v4, rfl⟩, hr, hk⟩; clear HS hms
                 have H4 := hide (H3.out.to1 hk hr)
                 clear hr hk H3))
            go_roundg (n - (q))
            case measure => omega
            case rel => exact ⟨q, sw l c (q), by go_num, by omega, by omega, H4.out, (sw_perm (by omega) (by omega)).trans HL.out.2.1, fun k hk => by rw [sw_get (by omega) (by omega), if_neg (by omega), if_neg (by omega)]; exact hKD.out k hk, HST.out⟩
      · have b2 : (n : Int) ≤ (r : Int) := by omega
        have hmz := m1_Less (W := W1) c0 c2
        clear V
        have HB1 := hide (Below.refl W1.heap.size W1)
        have hls2 : Hid (∀ W : World, Below W1.heap.size W1 W → Calls Try.prog 86 #[.agg #[f 1, f 2], .int .i64 q, .int .i64 c] W fun e w' => e = .returned (.bool (decide (kv (ku un) l q < kv (ku un) l c))) ∧ Below W.heap.size W w') := hide (fun W hW => by have V2 := HQ.out.under hW; exact kless_any V2.row1 V2.row2 HBL.out (l := l) (i := q) (j := c) (by omega) (by omega))
        cases hd2 : decide (kv (ku un) l (q) < kv (ku un) l c) with
        | false =>
          rw [hd2] at hls2
          have HDN := hide (HL.out.2.2.2.done (fun _ => (HQR.out.1 ▸ (by have := of_decide_eq_false hd2; omega : kv (ku un) l c ≤ kv (ku un) l q))) (fun _ => by have := HQR.out; omega))
          go_wp2_with (first
            | (have hno := hmz; fail)
            | (go_at_call 86; refine (hls2.out _ HB1.out).mono ?_; rintro e w3 ⟨rfl, hb3⟩; have HB3 := hide (HB1.out.trans (hb3.mono HB1.out.size)); clear hb3 hmz))
          go_returns
          exact ⟨⟨_, rfl⟩, l, HL.out.2.1, HDN.out, hKD.out, _, HQ.out.under HB3.out⟩
        | true =>
          rw [hd2] at hls2
          have hst := HL.out.2.2.2.step (j := q) (by omega) (by have := HQR.out; omega) (by omega) (by simpa using hd2) (fun _ => (HQR.out.1 ▸ Int.le_refl _)) (fun _ => by have := HQR.out; omega)
          have HST := hide hst
          clear hst
          go_wp2_with (first
            | (have hno := hmz; fail)
            | (go_at_call 86; refine (hls2.out _ HB1.out).mono ?_; rintro e w3 ⟨rfl, hb3⟩; have V3 := HQ.out.under (HB1.out.trans (hb3.mono HB1.out.size)); clear hb3 hmz
               have hms := m1_Swap (W := w3) (V3.cell (t := 1) (by omega)).1
               have HS := hide (qswap_any V3.row1 (i := c) (j := q) (by omega) (by omega))
               have H3 := hide V3
               clear V3)
            | (go_at_call 85; refine HS.out.mono ?_; rintro e w4 ⟨⟨v4, rfl⟩, hr, hk⟩; clear HS hms
               have H4 := hide (H3.out.to1 hk hr)
               clear hr hk H3))
          go_roundg (n - (q))
          case measure => omega
          case rel => exact ⟨q, sw l c (q), by go_num, by omega, by omega, H4.out, (sw_perm (by omega) (by omega)).trans HL.out.2.1, fun k hk => by rw [sw_get (by omega) (by omega), if_neg (by omega), if_neg (by omega)]; exact hKD.out k hk, HST.out⟩
end
end Go.Proofs.Ytmkeahfdbmfajaa
