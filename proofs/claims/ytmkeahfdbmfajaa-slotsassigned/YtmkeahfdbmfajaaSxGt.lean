/- heap.Push and heap.Pop. -/
import Derived.Test.YtmkeahfdbmfajaaSxFt
import Derived.Test.YtmkeahfdbmfajaaSxGf
namespace Go.Proofs.Ytmkeahfdbmfajaa
open Go.RowKit
section
variable {w0 w : World} {B : Nat} {fr tk : List Nat} {un : List Int}
set_option maxRecDepth 20000 in
set_option maxHeartbeats 2000000 in
theorem pusht_any {x : Nat} (V : Ps w0 w B fr tk un) (hh : Hp (ku un) tk tk.length) (hl : tk.length ≤ 50000) (hb : ∀ a ∈ tk, a < un.length) (hx : x < un.length) : Calls Try.prog 29 #[.iface 62 (.pointer (some ⟨B, 1, none⟩)), .iface 3 (.int .i64 x)] w fun e w' => (∃ v, e = .returned v) ∧ ∃ l', l'.Perm (tk ++ [x]) ∧ Hp (ku un) l' l'.length ∧ Ps w0 w' B fr l' un := by
  have HB := hide (And.intro hb hx)
  clear hb hx
  obtain ⟨f, V⟩ := V
  have hm := m1_Push (W := w) (B := B)
  have HP := hide (qpush_any V (t := 1) (by omega) (x : Int) (by rw [show L3 fr tk un 1 = zs tk from rfl, zs_len]; omega))
  have HU := hide (UpI.push x hh)
  obtain ⟨n, hn⟩ : ∃ n, tk.length = n := ⟨_, rfl⟩
  have HN := hide hn
  have bn : (n : Int) ≤ 50000 := by omega
  clear V hh hl hn
  go_enter Try.func29, Try.ntmps29
  go_wp2_with (first
    | (go_at_call 88; refine HP.out.mono ?_; rintro e w2 ⟨⟨v2, rfl⟩, f2, V2⟩; clear HP hm
       have V2 := V2.congr (L' := L3 fr (tk ++ [x]) un) (fun t ht => by rw [L3_1 fr tk un (tk ++ [x]) t ht, zs_snoc]; rfl)
       have hm2 := m1_Len (W := w2) (V2.cell (t := 1) (by omega)).1
       have H2 := hide (show Ps w0 w2 B fr (tk ++ [x]) un from ⟨f2, V2⟩)
       obtain ⟨ao, cap, hf2⟩ := row_form V2.row1
       rw [hf2, show (tk ++ [x]).length = n + 1 by simp [HN.out]] at hm2
       clear V2 hf2)
    | (go_at_call 27; refine (qlen_any (n := n + 1)).mono ?_; rintro e w3 ⟨rfl, rfl⟩; clear hm2
       have HC := hide (upt_any (n := n + 1) (j := n) H2.out (by simp [HN.out]) (by omega) (fun a ha => (List.mem_append.mp ha).elim (HB.out.1 a) (fun h => (List.mem_singleton.mp h).symm ▸ HB.out.2)) (by have := HU.out; rw [HN.out] at this; exact this)))
    | (go_at_call 36; refine HC.out.mono ?_; rintro e w4 ⟨⟨v4, rfl⟩, l4, h4⟩; clear HC H2; have H4 := hide h4; clear h4))
  go_returns
  have hl4 : l4.length = n + 1 := by rw [H4.out.1.length_eq]; simp [HN.out]
  exact ⟨⟨_, rfl⟩, l4, H4.out.1, by rw [hl4]; exact H4.out.2.1, H4.out.2.2⟩
set_option maxRecDepth 20000 in
set_option maxHeartbeats 2000000 in
theorem popt_any (V : Ps w0 w B fr tk un) (hh : Hp (ku un) tk tk.length) (h0 : 0 < tk.length) (hl : tk.length ≤ 50000) (hb : ∀ a ∈ tk, a < un.length) : Calls Try.prog 30 #[.iface 62 (.pointer (some ⟨B, 1, none⟩))] w fun e w' => e = .returned (.iface 3 (.int .i64 (tk.getD 0 0 : Nat))) ∧ ∃ l', tk.Perm (tk.getD 0 0 :: l') ∧ Hp (ku un) l' l'.length ∧ Ps w0 w' B fr l' un := by
  have HB := hide hb
  clear hb
  obtain ⟨f, V⟩ := V
  obtain ⟨n, hn⟩ : ∃ n, tk.length = n + 1 := ⟨tk.length - 1, by omega⟩
  have HN := hide hn
  obtain ⟨ao, cap, hf⟩ := row_form V.row1
  have hm := m1_Len (W := w) (V.cell (t := 1) (by omega)).1
  have hms := m1_Swap (W := w) (V.cell (t := 1) (by omega)).1
  have HS := hide (qswap_any V.row1 (i := 0) (j := n) (by omega) (by omega))
  rw [hf] at hm hms HS
  rw [hn] at hm hms HS
  have HQ := hide V
  have HF := hide hf
  rw [hn] at hh
  have HD := hide (hh.down hn)
  obtain ⟨x0, hx0⟩ : ∃ x0, tk.getD 0 0 = x0 := ⟨_, rfl⟩
  have HX := hide hx0
  rw [hx0]
  have bn : (n : Int) ≤ 50000 := by omega
  clear V hh hl hn hf h0 hx0
  go_enter Try.func30, Try.ntmps30
  go_wp2_with (first
    | (go_at_call 27; refine (qlen_any (n := n + 1)).mono ?_; rintro e w2 ⟨rfl, rfl⟩; clear hm)
    | (go_at_call 85; refine HS.out.mono ?_; rintro e w3 ⟨⟨v3, rfl⟩, hr, hk⟩; clear HS hms
       have H3 := hide (HQ.out.to1 (l := sw tk 0 n) (by rw [HF.out, HN.out]; exact hk) (by rw [HF.out, HN.out]; exact hr))
       have HC := hide (dnt_any (n := n) (m := n + 1) H3.out (by rw [sw_len]; exact HN.out) (by omega) (by omega) (fun a ha => HB.out a ((sw_perm (by have := HN.out; omega) (by have := HN.out; omega)).mem_iff.mp ha)) HD.out)
       clear hr hk)
    | (go_at_call 37; refine HC.out.mono ?_; rintro e w4 ⟨⟨v4, rfl⟩, l4, h4⟩; clear HC H3
       have H4 := hide h4
       have hm4 := m1_Pop (W := w4) (B := B)
       obtain ⟨f4, V4⟩ := h4.2.2.2
       have hl4 : l4.length = n + 1 := by rw [h4.1.length_eq, sw_len]; exact HN.out
       have hg4 : l4.getD n 0 = x0 := by rw [h4.2.2.1 n (by omega), sw_get (by have := HN.out; omega) (by have := HN.out; omega), if_pos rfl, HX.out]
       have HPP := hide (qpop_any V4 (t := 1) (n := n) (x := (x0 : Int)) (by omega) (by rw [show L3 fr l4 un 1 = zs l4 from rfl, zs_len, hl4]) (by rw [show L3 fr l4 un 1 = zs l4 from rfl, zs_get (by omega), hg4]) (by omega))
       have HG := hide (And.intro hl4 hg4)
       clear h4 V4 hl4 hg4)
    | (go_at_call 87; refine HPP.out.mono ?_; rintro e w5 ⟨rfl, f5, V5⟩; clear HPP hm4; have H5 := hide V5; clear V5))
  go_returns
  have hp := (H4.out.1.trans (sw_perm (by have := HN.out; omega) (by have := HN.out; omega)))
  refine ⟨rfl, l4.take n, ?_, ?_, f5, H5.out.congr (fun t ht => by rw [L3_1 fr l4 un (l4.take n) t ht, zs_take]; rfl)⟩
  · rw [← HX.out]; exact pop_perm hp HN.out (by rw [HG.out.2, HX.out])
  · rw [List.length_take, show min n l4.length = n by rw [HG.out.1]; omega]
    exact H4.out.2.1.take (Nat.le_refl _)
end
end Go.Proofs.Ytmkeahfdbmfajaa
