/- heap.up. -/
import Derived.Test.YtmkeahfdbmfajaaSxT
namespace Go.Proofs.Ytmkeahfdbmfajaa
open Go.RowKit
/-- The places: what is free, what is taken, where each slot's last range ends. -/
def Ps (w0 w : World) (B : Nat) (fr tk : List Nat) (un : List Int) : Prop := ∃ f, Pq w0 w B f (L3 fr tk un)
section
variable {w0 w : World} {B : Nat} {fr tk : List Nat} {un : List Int}
theorem Pq.row0 {f : Nat → Value} (V : Pq w0 w B f (L3 fr tk un)) : w.ownsRow w0.heap.size 3 1 (f 0) fr.length (ints (zs fr)) := by
  have h := V.rows 0 (by omega)
  rw [show (L3 fr tk un 0) = zs fr from rfl, zs_len] at h; exact h
theorem Pq.row1 {f : Nat → Value} (V : Pq w0 w B f (L3 fr tk un)) : w.ownsRow w0.heap.size 3 1 (f 1) tk.length (ints (zs tk)) := by
  have h := V.rows 1 (by omega)
  rw [show (L3 fr tk un 1) = zs tk from rfl, zs_len] at h; exact h
theorem Pq.row2 {f : Nat → Value} (V : Pq w0 w B f (L3 fr tk un)) : w.ownsRow w0.heap.size 3 1 (f 2) un.length (ints un) := V.rows 2 (by omega)
theorem Pq.to0 {w' : World} {f : Nat → Value} (V : Pq w0 w B f (L3 fr tk un)) {l : List Nat} (hk : Kp (fun b => (f 0).ownBlock = some b) w w') (hr : w'.ownsRow w0.heap.size 3 1 (f 0) l.length (ints (zs l))) : Ps w0 w' B l tk un :=
  ⟨f, (V.kp (t := 0) (by omega) hk (by rw [zs_len]; exact hr)).congr (L3_0 fr tk un l)⟩
theorem Pq.to1 {w' : World} {f : Nat → Value} (V : Pq w0 w B f (L3 fr tk un)) {l : List Nat} (hk : Kp (fun b => (f 1).ownBlock = some b) w w') (hr : w'.ownsRow w0.heap.size 3 1 (f 1) l.length (ints (zs l))) : Ps w0 w' B fr l un :=
  ⟨f, (V.kp (t := 1) (by omega) hk (by rw [zs_len]; exact hr)).congr (L3_1 fr tk un l)⟩
abbrev idk : Nat → Int := fun x => (x : Int)
end
section
variable {w0 w : World} {B : Nat} {fr tk : List Nat} {un : List Int}
set_option maxRecDepth 20000 in
set_option maxHeartbeats 2000000 in
theorem upf_any {n j : Nat} (V : Ps w0 w B fr tk un) (hn : fr.length = n) (hl : n ≤ 100000) (hU : UpI idk fr n j) : Calls Try.prog 36 #[.iface 60 (.pointer (some ⟨B, 0, none⟩)), .int .i64 j] w fun e w' => (∃ v, e = .returned v) ∧ ∃ l', l'.Perm fr ∧ Hp idk l' n ∧ Ps w0 w' B l' tk un := by
  have HV := hide (show Ps w0 w B fr tk un ∧ fr.Perm fr ∧ UpI idk fr n j from ⟨V, List.Perm.refl _, hU⟩)
  have HN := hide hn
  clear V hU hn
  go_enter Try.func36, Try.ntmps36
  go_wp2
  go_loopg [1, 4] j (fun G v1 v4 wr => ∃ (i : Nat) (l : List Nat), v1 = .int .i64 i ∧ i ≤ G ∧ Hid (Ps w0 wr B l tk un ∧ l.Perm fr ∧ UpI idk l n i))
  case atStart => exact ⟨j, fr, rfl, Nat.le_refl _, HV⟩
  case round =>
    obtain ⟨i, l, rfl, hi, HL⟩ := hrel
    obtain ⟨W1, rfl⟩ : ∃ X, X = wr := ⟨wr, rfl⟩
    clear HV
    have hll : l.length = n := by rw [HL.out.2.1.length_eq]; exact HN.out
    obtain ⟨f, V⟩ := HL.out.1
    obtain ⟨c0, z0, l0⟩ := V.cell (t := 0) (by omega)
    skip
    have bi : (i : Int) ≤ 100000 := by have := HL.out.2.2.1; omega
    by_cases h0 : i = 0
    · subst h0
      go_wp2
      go_returns
      exact ⟨⟨_, rfl⟩, l, HL.out.2.1, HL.out.2.2.done_root, HL.out.1⟩
    · obtain ⟨p, hp⟩ : ∃ p, (i - 1) / 2 = p := ⟨_, rfl⟩
      have hd : Int.tdiv ((i : Int) - 1) 2 = (p : Int) := by rw [Int.tdiv_eq_ediv_of_nonneg (by omega)]; omega
      have hne : ((p : Int) == (i : Int)) = false := by simp; omega
      have hm := m0_Less (W := W1) c0
      have hi2 := HL.out.2.2.1
      have hls := qless_any V.row0 (l := l) (i := i) (j := p) (by omega) (by omega)
      have HC := hide hls
      clear hls
      cases hd2 : decide (kv idk l i < kv idk l p) with
      | false =>
        rw [hd2] at HC
        go_wp2_with (go_at_call 84; refine HC.out.mono ?_; rintro e w2 ⟨rfl, hb⟩)
        go_returns
        have hk : kv idk l ((i - 1) / 2) ≤ kv idk l i := by rw [hp]; simpa using hd2
        exact ⟨⟨_, rfl⟩, l, HL.out.2.1, HL.out.2.2.done hk, _, V.under hb⟩
      | true =>
        rw [hd2] at HC
        have hst := HL.out.2.2.step (by omega) (by omega) (by rw [hp]; simpa using hd2)
        rw [hp] at hst
        have HST := hide hst
        have HQ := hide V
        clear hst V
        go_wp2_with (first
          | (go_at_call 84; refine HC.out.mono ?_; rintro e w2 ⟨rfl, hb⟩; clear HC hm
             have V2 := HQ.out.under hb
             have hm2 := m0_Swap (W := w2) (V2.cell (t := 0) (by omega)).1
             have HS := hide (qswap_any V2.row0 (i := p) (j := i) (by omega) (by omega))
             have H2 := hide V2
             clear V2)
          | (go_at_call 85; refine HS.out.mono ?_; rintro e w3 ⟨⟨v3, rfl⟩, hr, hk⟩; clear HS hm2
             have H3 := hide (H2.out.to0 hk hr)
             clear hr hk H2))
        go_roundg p
        case measure => omega
        case rel => exact ⟨p, sw l p i, rfl, Nat.le_refl _, H3.out, (sw_perm (by omega) (by omega)).trans HL.out.2.1, HST.out⟩
end
end Go.Proofs.Ytmkeahfdbmfajaa
