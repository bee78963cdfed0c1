/- Size, Get, Find and Set. -/
import Derived.Test.YtimpmgbahgganaaArC
namespace Go.Proofs.Ytimpmgbahgganaa
open Go.RowKit Go.Maps

def sizeP (s : As) (x : Int) : Int × Int :=
  match beg s.ps x with
  | some i => ((s.ps[i]?.getD default).n, 0)
  | none => (0, 6)
def findP (s : As) (x : Int) : Int × Int :=
  match hold s.ps x with
  | some i => ((s.ps[i]?.getD default).a, 0)
  | none => (0, 6)
def getP (s : As) (x : Int) : Int × Int :=
  match hold s.ps x with
  | some _ => (s.ws[x.toNat - 1]?.getD 0, 0)
  | none => (0, 6)
abbrev two (p : Int × Int) : Ending := .returned (.tuple #[.int .i64 p.1, .int .i64 p.2])

theorem find_err (a : Value) (x y : Int) (hy : y ≠ 0) (w : World) (R : World → Prop) (hc : Calls Try.prog 54 #[a, .int .i64 x] w fun e w' => e = .returned (.tuple #[.pointer none, .int .i64 y]) ∧ R w') :
    Calls Try.prog 38 #[a, .int .i64 x] w fun e w' => e = two (0, y) ∧ R w' := by
  have hd : (y != 0) = true := by simpa using hy
  have HR := hide hc
  clear hc
  go_enter Try.func38, Try.ntmps38
  go_wp2_with fail
  refine HR.out.mono ?_
  rintro e w1 ⟨rfl, hb⟩
  go_wp2
  go_ret2
  exact ⟨rfl, hb⟩
theorem get_err (a : Value) (x y : Int) (hy : y ≠ 0) (w : World) (R : World → Prop) (hc : Calls Try.prog 54 #[a, .int .i64 x] w fun e w' => e = .returned (.tuple #[.pointer none, .int .i64 y]) ∧ R w') :
    Calls Try.prog 31 #[a, .int .i64 x] w fun e w' => e = two (0, y) ∧ R w' := by
  have hd : (y != 0) = true := by simpa using hy
  have HR := hide hc
  clear hc
  go_enter Try.func31, Try.ntmps31
  go_wp2_with fail
  refine HR.out.mono ?_
  rintro e w1 ⟨rfl, hb⟩
  go_wp2
  go_ret2
  exact ⟨rfl, hb⟩
theorem set_err (a : Value) (x v y : Int) (hy : y ≠ 0) (w : World) (R : World → Prop) (hc : Calls Try.prog 54 #[a, .int .i64 x] w fun e w' => e = .returned (.tuple #[.pointer none, .int .i64 y]) ∧ R w') :
    Calls Try.prog 35 #[a, .int .i64 x, .int .i64 v] w fun e w' => e = .returned (.int .i64 y) ∧ R w' := by
  have hd : (y != 0) = true := by simpa using hy
  have HR := hide hc
  clear hc
  go_enter Try.func35, Try.ntmps35
  go_wp2_with fail
  refine HR.out.mono ?_
  rintro e w1 ⟨rfl, hb⟩
  go_wp2
  go_ret
  exact ⟨rfl, hb⟩

section
variable {X : Wh} {s : As} {k : Nat}
theorem find_any (x : Int) (w : World) (L : Lies X w s k) (I : Inv s) (hx : x ≤ 9223372036854775807) :
    Calls Try.prog 38 #[X.p, .int .i64 x] w fun e w' => e = two (findP s x) ∧ Below w.heap.size w w' := by
  have hc := holder_any x w L I hx
  unfold HoldE at hc
  unfold findP
  cases h : hold s.ps x with
  | none => rw [h] at hc; exact find_err X.p x 6 (by decide) w _ hc
  | some i =>
    obtain ⟨p, hp, _⟩ := hold_some I.row h
    rw [h] at hc
    simp only [hp, Option.getD_some]
    have HR := hide hc
    clear hc h
    go_enter Try.func38, Try.ntmps38
    go_wp2_with fail
    refine HR.out.mono ?_
    rintro e w1 ⟨⟨g, cap, hv, rfl⟩, hb⟩
    obtain ⟨g', cap', hv', c1, c2, _⟩ := (L.below hb).piece hp
    rw [hv] at hv'
    cases hv'
    clear HR hv L I
    go_wp2
    go_ret2
    exact ⟨rfl, hb⟩
/-- An address that a piece holds is that of a word. -/
theorem word_of (I : Inv s) {x : Int} {i : Nat} (h : hold s.ps x = some i) : ∃ (m : Nat) (u : Int), x = ((m + 1 : Nat) : Int) ∧ s.ws[m]? = some u ∧ m < s.ws.length := by
  obtain ⟨p, hp, h1, h2, _, h3, h4⟩ := hold_some I.row h
  have := I.fits
  refine ⟨x.toNat - 1, s.ws[x.toNat - 1]'(by omega), by omega, by simp, by omega⟩
theorem get_any (x : Int) (w : World) (L : Lies X w s k) (I : Inv s) (hx : x ≤ 9223372036854775807) :
    Calls Try.prog 31 #[X.p, .int .i64 x] w fun e w' => e = two (getP s x) ∧ Below w.heap.size w w' := by
  have hc := holder_any x w L I hx
  unfold HoldE at hc
  unfold getP
  cases h : hold s.ps x with
  | none => rw [h] at hc; exact get_err X.p x 6 (by decide) w _ hc
  | some i =>
    obtain ⟨m, u, rfl, hu, hm⟩ := word_of I h
    have hsm := I.small
    rw [h] at hc
    simp only [Int.toNat_natCast, Nat.add_sub_cancel, hu, Option.getD_some]
    rw [show (((m + 1 : Nat) : Int)) = (m : Int) + 1 from by omega] at hc ⊢
    have HR := hide hc
    clear hc h I
    go_enter Try.func31, Try.ntmps31
    go_wp2_with fail
    refine HR.out.mono ?_
    rintro e w1 ⟨⟨g, cap, hv, rfl⟩, hb⟩
    have c0 := (L.below hb).c0
    have cu := (L.below hb).wcell hu
    generalize s.ws.length = l at hm hsm c0
    have b1 : (m : Int) < (l : Int) := by omega
    have b2 : (m : Int) ≤ 65536 := by omega
    clear HR hv L hu
    go_wp2
    go_ret2
    exact ⟨rfl, hb⟩
theorem Lies.set {w : World} (L : Lies X w s k) {m : Nat} (v : Int) : Lies X (w.setCell ⟨X.bw, m, none⟩ (.int .i64 v)) (setS s (m + 1) v) k := by
  have hA : X.A ≠ X.bw := fun e => by have h1 := L.blk; rw [e, L.wds] at h1; simp at h1
  have hm : X.bm ≠ X.bw := fun e => by obtain ⟨D, ⟨es, cl, h1, _⟩, _⟩ := L.map; rw [e, L.wds] at h1; cases h1
  have hr : ∀ j, j ≠ X.bw → (w.setCell ⟨X.bw, m, none⟩ (.int .i64 v)).heap[j]? = w.heap[j]? := fun j hj => Below.heap_setCell w _ _ j hj
  refine ⟨?_, ?_, ?_, ?_, ?_, L.apart, L.apart2, L.base, L.lens, by rw [World.size_setCell]; exact L.hB⟩
  · rw [hr _ hA]; simpa [setS] using L.blk
  · rw [heap_setCell_same w X.bw m _ L.wds]
    simp [setS, ints, List.map_set]
  · refine ownsRow_keep L.pcs fun g hg => hr g fun e => ?_
    subst e
    rcases L.pform with ⟨_, h1⟩ | ⟨g, cap, cur, h1, h2, _⟩
    · rw [h1] at hg; cases hg
    · rw [h1] at hg; cases hg; rw [L.wds] at h2; simp at h2
  · obtain ⟨D, ⟨es, clock, h1, h2⟩, h3⟩ := L.map
    exact ⟨D, ⟨es, clock, (hr _ hm).trans h1, h2⟩, h3⟩
  · exact fun c => ownsRow_keep (L.rows c) fun g hg => hr g fun e => L.apart c (e ▸ hg)
/-- Set: the answer, and the arena behind it. -/
def setP (s : As) (x v : Int) : Int × As :=
  match hold s.ps x with
  | some _ => (0, setS s x.toNat v)
  | none => (6, s)
theorem set_any (x v : Int) (w : World) (L : Lies X w s k) (I : Inv s) (hx : x ≤ 9223372036854775807) :
    Calls Try.prog 35 #[X.p, .int .i64 x, .int .i64 v] w fun e w' => e = .returned (.int .i64 (setP s x v).1) ∧ Lies X w' (setP s x v).2 k ∧ Step X X w w' := by
  have hc := holder_any x w L I hx
  unfold HoldE at hc
  unfold setP
  cases h : hold s.ps x with
  | none =>
    rw [h] at hc
    exact (set_err X.p x v 6 (by decide) w _ hc).mono fun e w' ⟨he, hb⟩ => ⟨he, L.below hb, Step.of_below hb⟩
  | some i =>
    obtain ⟨m, u, rfl, hu, hm⟩ := word_of I h
    have hsm := I.small
    rw [h] at hc
    simp only [Int.toNat_natCast]
    rw [show (((m + 1 : Nat) : Int)) = (m : Int) + 1 from by omega] at hc ⊢
    have HR := hide hc
    clear hc h I
    go_enter Try.func35, Try.ntmps35
    go_wp2_with fail
    refine HR.out.mono ?_
    rintro e w1 ⟨⟨g, cap, hv, rfl⟩, hb⟩
    have L1 := L.below hb
    have c0 := L1.c0
    have cu := L1.wcell hu
    have fu := L1.wfz m
    have HL := hide L1
    have HB := hide hb
    generalize s.ws.length = l at hm hsm c0
    have b1 : (m : Int) < (l : Int) := by omega
    have b2 : (m : Int) ≤ 65536 := by omega
    clear HR hv L hu hb
    go_wp2
    go_ret
    refine ⟨rfl, HL.out.set v, ?_⟩
    refine Step.trans (Step.of_below HB.out) ⟨rfl, rfl, rfl, rfl, rfl, by simp, fun j _ hn => Below.heap_setCell _ _ _ j (fun e => hn (.inr (.inl e))), fun j hj => .inl hj⟩
end
end Go.Proofs.Ytimpmgbahgganaa
