/- begin, Size, Get, Find and Set. -/
import Derived.Test.YtimpmgbahgganaaArB
namespace Go.Proofs.Ytimpmgbahgganaa
open Go.RowKit Go.Maps

/-- The place of the piece that begins at an address and is given. -/
def beg (ps : List Pc) (x : Int) : Option Nat :=
  match hold ps x with
  | some i => if ps[i]?.any (fun p => decide ((p.a : Int) = x)) then some i else none
  | none => none
theorem beg_some {ps : List Pc} {e i : Nat} {x : Int} (h : Row 1 ps e) (hi : beg ps x = some i) : hold ps x = some i ∧ ∃ p, ps[i]? = some p ∧ (p.a : Int) = x ∧ 0 < p.n := by
  unfold beg at hi
  split at hi
  · rename_i j hj
    split at hi
    · rename_i hc
      cases hi
      obtain ⟨p, hp, h1, h2, _⟩ := hold_some h hj
      rw [hp] at hc
      simp at hc
      exact ⟨hj, p, hp, hc, by omega⟩
    · cases hi
  · cases hi
theorem beg_none {ps : List Pc} {e : Nat} {x : Int} (h : Row 1 ps e) (hi : beg ps x = none) : hold ps x = none ∨ ∃ i p, hold ps x = some i ∧ ps[i]? = some p ∧ (p.a : Int) ≠ x := by
  unfold beg at hi
  split at hi
  · rename_i j hj
    obtain ⟨p, hp, _⟩ := hold_some h hj
    split at hi
    · cases hi
    · rename_i hc
      rw [hp] at hc
      exact .inr ⟨j, p, hj, hp, by simpa using hc⟩
  · rename_i hj; exact .inl hj
theorem beg_mk {ps : List Pc} {b e i : Nat} {p : Pc} (h : Row b ps e) (hp : ps[i]? = some p) (hn : 0 < p.n) : beg ps p.a = some i := by
  unfold beg
  rw [hold_mk h hp (Int.le_refl _) (by omega)]
  simp [hp]

def BegE (X : Wh) (s : As) (x : Int) (e : Ending) : Prop :=
  match beg s.ps x with
  | none => e = .returned (.tuple #[.pointer none, .int .i64 6])
  | some i => ∃ g cap, X.vp = .slice (some ⟨g, 0, none⟩) s.ps.length cap ∧ e = .returned (.tuple #[.pointer (some ⟨g, i * 2, none⟩), .int .i64 0])

theorem begin_err (a : Value) (x y : Int) (hy : y ≠ 0) (w : World) (R : World → Prop) (hc : Calls Try.prog 54 #[a, .int .i64 x] w fun e w' => e = .returned (.tuple #[.pointer none, .int .i64 y]) ∧ R w') :
    Calls Try.prog 58 #[a, .int .i64 x] w fun e w' => e = .returned (.tuple #[.pointer none, .int .i64 y]) ∧ R w' := by
  have hd : (y == 0) = false := by simpa using hy
  have HR := hide hc
  clear hc
  go_enter Try.func58, Try.ntmps58
  go_wp2_with fail
  refine HR.out.mono ?_
  rintro e w1 ⟨rfl, hb⟩
  go_wp2
  go_ret2
  exact ⟨rfl, hb⟩
theorem begin_any {X : Wh} {s : As} {k : Nat} (x : Int) (w : World) (L : Lies X w s k) (I : Inv s) (hx : x ≤ 9223372036854775807) :
    Calls Try.prog 58 #[X.p, .int .i64 x] w fun e w' => BegE X s x e ∧ Below w.heap.size w w' := by
  have hc := holder_any x w L I hx
  unfold BegE
  cases h : beg s.ps x with
  | none =>
    rcases beg_none I.row h with h0 | ⟨i, p, h0, hp, hne⟩
    · unfold HoldE at hc
      rw [h0] at hc
      exact begin_err X.p x 6 (by decide) w _ hc
    · unfold HoldE at hc
      rw [h0] at hc
      have hd : ((p.a : Int) != x) = true := by simpa using hne
      have HR := hide hc
      clear hc h h0 hne
      go_enter Try.func58, Try.ntmps58
      go_wp2_with fail
      refine HR.out.mono ?_
      rintro e w1 ⟨⟨g, cap, hv, rfl⟩, hb⟩
      obtain ⟨g', cap', hv', c1, c2, _⟩ := (L.below hb).piece hp
      rw [hv] at hv'
      cases hv'
      clear HR hv L I
      go_wp2
      go_ret2
      exact ⟨rfl, hb⟩
  | some i =>
    obtain ⟨h0, p, hp, he, _⟩ := beg_some I.row h
    unfold HoldE at hc
    rw [h0] at hc
    have hd : ((p.a : Int) != x) = false := by simpa using he
    have HR := hide hc
    clear hc h h0 he
    go_enter Try.func58, Try.ntmps58
    go_wp2_with fail
    refine HR.out.mono ?_
    rintro e w1 ⟨⟨g, cap, hv, rfl⟩, hb⟩
    obtain ⟨g', cap', hv', c1, c2, _⟩ := (L.below hb).piece hp
    rw [hv] at hv'
    have HV := hide hv
    cases hv'
    clear HR hv L I
    go_wp2
    go_ret2
    exact ⟨⟨g, cap, HV.out, rfl⟩, hb⟩
theorem begin_nil (x : Int) (w : World) : Calls Try.prog 58 #[.pointer none, .int .i64 x] w fun e w' => e = .returned (.tuple #[.pointer none, .int .i64 1]) ∧ w' = w :=
  begin_err _ x 1 (by decide) w _ (holder_nil x w)
end Go.Proofs.Ytimpmgbahgganaa
