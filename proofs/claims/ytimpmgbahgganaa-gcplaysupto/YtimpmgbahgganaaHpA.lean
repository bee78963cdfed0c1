/- Base, names, pointer, Get and Set. -/
import Derived.Test.YtimpmgbahgganaaHpW
namespace Go.Proofs.Ytimpmgbahgganaa
open Go.RowKit Go.Maps

abbrev four (a t n e : Int) : Ending := .returned (.tuple #[.int .i64 a, .int .i64 t, .int .i64 n, .int .i64 e])
section
variable {Y : Hh} {w : World} {h : Hs} {k : Nat}
theorem ObMap.look {bo : Nat} {ob : Nat → Option (Nat × Nat)} (M : ObMap w bo k ob) {a t n : Nat} (ha : a ≤ 65536) (ho : ob a = some (t, n)) :
    (Instr.lookup 73 (.map (some bo)) (.int .i64 a) true).run Try.prog w = .ok (.tuple #[objV t n, .bool true]) w := by
  obtain ⟨D, hD, hh, hf⟩ := M
  obtain ⟨v, ps, hrun, hv⟩ := hD.look_ok backs_keyed Try.underlying73 (Try.zeroValue80 w) (zd := .held (objV 0 0)) (zp := []) rfl (key_int a ha)
  rw [hf a t n ho] at hv
  simp [heldR] at hv
  rw [(hh a).2 ⟨a, rfl, by rw [ho]; rfl⟩, hv.1] at hrun
  exact hrun
theorem ObMap.look0 {bo : Nat} {ob : Nat → Option (Nat × Nat)} (M : ObMap w bo k ob) {a : Nat} (ha : a ≤ 65536) (ho : ob a = none) :
    (Instr.lookup 73 (.map (some bo)) (.int .i64 a) true).run Try.prog w = .ok (.tuple #[objV 0 0, .bool false]) w := by
  obtain ⟨D, hD, hh, hf⟩ := M
  obtain ⟨v, ps, hrun, hv⟩ := hD.look_ok backs_keyed Try.underlying73 (Try.zeroValue80 w) (zd := .held (objV 0 0)) (zp := []) rfl (key_int a ha)
  have hn : Maps.has D (.int .i64 a) = false := by
    cases hc : Maps.has D (.int .i64 a) with
    | false => rfl
    | true =>
      obtain ⟨b, hb, hs⟩ := (hh a).1 hc
      have : b = a := by omega
      subst this; rw [ho] at hs; cases hs
  rw [Maps.atKey_of_not_has hn] at hv
  simp [heldR] at hv
  rw [hn, hv.1] at hrun
  exact hrun
theorem base_nil (x : Int) (w : World) : Calls Try.prog 17 #[.pointer none, .int .i64 x] w fun e w' => e = four 0 0 0 1 ∧ w' = w := by
  go_enter Try.func17, Try.ntmps17
  go_wp2
  exact bodyPost_ret (v := .tuple #[.int .i64 0, .int .i64 0, .int .i64 0, .int .i64 1]) (by simp [results, Try.results17, go_sem]) rfl ⟨rfl, rfl⟩
set_option maxHeartbeats 1000000 in
theorem base_some (L : HLies Y w h k) (I : HInv h) {x : Int} (hx : x ≤ 9223372036854775807) {a t n : Nat} (hb : baseA h x = some a) (ho : h.ob a = some (t, n)) :
    Calls Try.prog 17 #[Y.p, .int .i64 x] w fun e w' => e = four a t n 0 ∧ Below w.heap.size w w' := by
  obtain ⟨t', n', f, i, p, O, hh, _, _⟩ := I.base hb
  have hf := find_any x w L.L I.inv hx
  rw [show findP h.s x = ((a : Int), 0) by unfold findP; rw [hh]; simp [O.ps, O.pa]] at hf
  have ha : a ≤ 65536 := by have := O.aw2; have := O.pn; have := owords_pos f n'; omega
  have c0 := L.c0
  clear O hh hb
  go_enter Try.func17, Try.ntmps17
  go_wp2_with fail
  refine hf.mono ?_
  rintro e w1 ⟨rfl, hb⟩
  have c2 := (L.below hb).c2
  have hl := (L.below hb).map.look ha ho
  clear L hf c0
  go_wp2
  go_quiet (fail)
  go_wp2
  exact bodyPost_ret (v := .tuple #[.int .i64 a, .int .i64 t, .int .i64 n, .int .i64 0]) (by simp [results, Try.results17, go_sem]) rfl ⟨rfl, below_drewN (hb.alloc hb.size _) nq⟩
set_option maxHeartbeats 1000000 in
theorem base_none (L : HLies Y w h k) (I : HInv h) {x : Int} (hx : x ≤ 9223372036854775807) (hb : baseA h x = none) :
    Calls Try.prog 17 #[Y.p, .int .i64 x] w fun e w' => e = four 0 0 0 6 ∧ Below w.heap.size w w' := by
  have hf := find_any x w L.L I.inv hx
  rw [show findP h.s x = (0, 6) by unfold findP; rw [I.baseN hb]] at hf
  have c0 := L.c0
  have ho := I.ob0
  clear hb
  go_enter Try.func17, Try.ntmps17
  go_wp2_with fail
  refine hf.mono ?_
  rintro e w1 ⟨rfl, hb⟩
  have c2 := (L.below hb).c2
  have hl := (L.below hb).map.look0 (a := 0) (by decide) ho
  rw [show ((0 : Nat) : Int) = 0 from rfl] at hl
  clear L hf c0
  go_wp2
  exact bodyPost_ret (v := .tuple #[.int .i64 0, .int .i64 0, .int .i64 0, .int .i64 6]) (by simp [results, Try.results17, go_sem]) rfl ⟨rfl, hb.alloc hb.size _⟩
/-- Base's answer. -/
inductive BaseP (h : Hs) (x : Int) : Int → Int → Int → Int → Prop
  | none : baseA h x = none → BaseP h x 0 0 0 6
  | some (a t n : Nat) : baseA h x = some a → h.ob a = some (t, n) → BaseP h x a t n 0
theorem base_any (L : HLies Y w h k) (I : HInv h) {x : Int} (hx : x ≤ 9223372036854775807) :
    Calls Try.prog 17 #[Y.p, .int .i64 x] w fun e w' => ∃ a t n c, e = four a t n c ∧ BaseP h x a t n c ∧ Below w.heap.size w w' := by
  cases hb : baseA h x with
  | none => exact (base_none L I hx hb).mono fun e w' ⟨he, hw⟩ => ⟨_, _, _, _, he, .none hb, hw⟩
  | some a =>
    obtain ⟨t, n, f, i, p, O, _⟩ := I.base hb
    exact (base_some L I hx hb O.ob).mono fun e w' ⟨he, hw⟩ => ⟨_, _, _, _, he, .some a t n hb O.ob, hw⟩
end
end Go.Proofs.Ytimpmgbahgganaa
