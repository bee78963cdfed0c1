/- The piece that has an address among its words. -/
import Derived.Test.YtimpmgbahgganaaArA
namespace Go.Proofs.Ytimpmgbahgganaa
open Go.RowKit Go.Maps

set_option maxHeartbeats 1000000 in
theorem holder_none0 {X : Wh} {s : As} {k : Nat} (x : Int) (w : World) (L : Lies X w s k) (I : Inv s) (h0 : cnt s.ps x = 0) :
    Calls Try.prog 54 #[X.p, .int .i64 x] w fun e w' => e = .returned (.tuple #[.pointer none, .int .i64 6]) ∧ Below w.heap.size w w' := by
  have hc := last_any x w L I.z
  rw [h0] at hc
  clear L I h0
  go_enter Try.func54, Try.ntmps54
  go_wp2_with fail
  refine hc.mono ?_
  rintro e w1 ⟨rfl, hb⟩
  have hd : decide ((0 : Int) - 1 < 0) = true := by decide
  go_wp2
  go_quiet (fail)
  go_wp2
  go_ret2
  exact ⟨rfl, below_drewN hb nq⟩
theorem get_lt {α : Type} {l : List α} {i : Nat} {x : α} (h : l[i]? = some x) : i < l.length := by
  rcases Nat.lt_or_ge i l.length with h1 | h1
  · exact h1
  · rw [List.getElem?_eq_none h1] at h; cases h
set_option maxHeartbeats 1000000 in
theorem holder_none1 {X : Wh} {s : As} {k i : Nat} {p : Pc} (x : Int) (w : World) (L : Lies X w s k) (I : Inv s) (h0 : cnt s.ps x = i + 1) (hp : s.ps[i]? = some p) (h1 : (p.a : Int) ≤ x) (h2 : (p.n : Int) ≤ x - p.a) (hx : x ≤ 9223372036854775807) :
    Calls Try.prog 54 #[X.p, .int .i64 x] w fun e w' => e = .returned (.tuple #[.pointer none, .int .i64 6]) ∧ Below w.heap.size w w' := by
  have hc := last_any x w L I.z
  rw [h0, show (((i + 1 : Nat) : Int) - 1) = (i : Int) from by omega] at hc
  have hlen := I.pieces
  have hi := get_lt hp
  have hr := I.row.at hp
  have hsm := I.small
  have hft := I.fits
  have ba : (p.a : Int) ≤ 65537 := by omega
  have bn : (p.n : Int) ≤ 65536 := by omega
  have a0 : 1 ≤ (p.a : Int) := by omega
  clear h0 hr hsm hft I
  go_enter Try.func54, Try.ntmps54
  go_wp2_with fail
  refine hc.mono ?_
  rintro e w1 ⟨rfl, hb⟩
  have L1 := L.below hb
  obtain ⟨g, cap, hv, c1, c2, _⟩ := L1.piece hp
  have c3 := L1.c2
  rw [hv] at c3
  generalize s.ps.length = m at hlen hi c3
  have hi' : (i : Int) < (m : Int) := by omega
  have hz : 0 ≤ (i : Int) := by omega
  have hd : decide ((i : Int) < 0) = false := by simp
  have hd2 : decide ((p.n : Int) ≤ x - p.a) = true := by simpa using h2
  clear hv L L1 hp hc
  go_wp2
  go_quiet (fail)
  go_wp2
  go_ret2
  exact ⟨rfl, below_drewN hb nq⟩
set_option maxHeartbeats 1000000 in
theorem holder_some {X : Wh} {s : As} {k i : Nat} {p : Pc} (x : Int) (w : World) (L : Lies X w s k) (I : Inv s) (hp : s.ps[i]? = some p) (h1 : (p.a : Int) ≤ x) (h2 : x < p.a + p.n) :
    Calls Try.prog 54 #[X.p, .int .i64 x] w fun e w' => (∃ g cap, X.vp = .slice (some ⟨g, 0, none⟩) s.ps.length cap ∧ e = .returned (.tuple #[.pointer (some ⟨g, i * 2, none⟩), .int .i64 0])) ∧ Below w.heap.size w w' := by
  have hc := last_any x w L I.z
  have hlen := I.pieces
  have hi := get_lt hp
  have hr := I.row.at hp
  have h0 := I.row.cnt_at hp h1 (by omega)
  rw [h0, show (((i + 1 : Nat) : Int) - 1) = (i : Int) from by omega] at hc
  have hsm := I.small
  have hft := I.fits
  have ba : (p.a : Int) ≤ 65537 := by omega
  have bn : (p.n : Int) ≤ 65536 := by omega
  have a0 : 1 ≤ (p.a : Int) := by omega
  clear h0 hr hsm hft I
  go_enter Try.func54, Try.ntmps54
  go_wp2_with fail
  refine hc.mono ?_
  rintro e w1 ⟨rfl, hb⟩
  have L1 := L.below hb
  obtain ⟨g, cap, hv, c1, c2, _⟩ := L1.piece hp
  have c3 := L1.c2
  rw [hv] at c3
  have HV := hide hv
  clear hv
  generalize s.ps.length = m at hlen hi c3
  have hi' : (i : Int) < (m : Int) := by omega
  have hz : 0 ≤ (i : Int) := by omega
  have hd : decide ((i : Int) < 0) = false := by simp
  have hd2 : decide ((p.n : Int) ≤ x - p.a) = false := by simp; omega
  clear L L1 hp hc
  go_wp2
  go_quiet (fail)
  go_wp2
  go_ret2
  exact ⟨⟨g, cap, HV.out, rfl⟩, below_drewN hb nq⟩
/-- What the piece's holder answers. -/
def HoldE (X : Wh) (s : As) (x : Int) (e : Ending) : Prop :=
  match hold s.ps x with
  | none => e = .returned (.tuple #[.pointer none, .int .i64 6])
  | some i => ∃ g cap, X.vp = .slice (some ⟨g, 0, none⟩) s.ps.length cap ∧ e = .returned (.tuple #[.pointer (some ⟨g, i * 2, none⟩), .int .i64 0])
theorem hold_none {s : As} {x : Int} (I : Inv s) (h : hold s.ps x = none) : cnt s.ps x = 0 ∨ ∃ i p, cnt s.ps x = i + 1 ∧ s.ps[i]? = some p ∧ (p.a : Int) ≤ x ∧ (p.n : Int) ≤ x - p.a := by
  rcases Nat.eq_zero_or_pos (cnt s.ps x) with h0 | h0
  · exact .inl h0
  · obtain ⟨p, hp, h1, _⟩ := I.row.cnt_pos h0
    unfold hold at h
    rw [hp] at h
    simp only at h
    split at h
    · cases h
    · rename_i hc
      exact .inr ⟨cnt s.ps x - 1, p, by omega, hp, h1, by omega⟩
theorem holder_any {X : Wh} {s : As} {k : Nat} (x : Int) (w : World) (L : Lies X w s k) (I : Inv s) (hx : x ≤ 9223372036854775807) :
    Calls Try.prog 54 #[X.p, .int .i64 x] w fun e w' => HoldE X s x e ∧ Below w.heap.size w w' := by
  unfold HoldE
  cases h : hold s.ps x with
  | none =>
    rcases hold_none I h with h0 | ⟨i, p, h0, hp, h1, h2⟩
    · exact holder_none0 x w L I h0
    · exact holder_none1 x w L I h0 hp h1 h2 hx
  | some i =>
    obtain ⟨p, hp, h1, h2, _⟩ := hold_some I.row h
    exact holder_some x w L I hp h1 h2
theorem holder_nil (x : Int) (w : World) : Calls Try.prog 54 #[.pointer none, .int .i64 x] w fun e w' => e = .returned (.tuple #[.pointer none, .int .i64 1]) ∧ w' = w := by
  go_enter Try.func54, Try.ntmps54
  go_wp2
  go_ret2
  exact ⟨rfl, rfl⟩
end Go.Proofs.Ytimpmgbahgganaa
