/- The way through a function in memory; only, nexts. -/
import Derived.Test.YtkdojpnihinpbaaDoorVfPm
namespace Go.Proofs.YtkdojpnihinpbaaDoor
open Go.RowKit
/-- The values that a flow's box has: a program's lists, a function's, what stands ahead, what waits. -/
structure Fv where
  v1 : Value
  v2 : Value
  v3 : Value
  v4 : Value
  u1 : Value
  u2 : Value
  u3 : Value
  u4 : Value
  ah : Value
  wt : Value
def flO (V : Fv) (fi at_ pa mo : Int) : Obj := .cells #[.int .i64 fi, .int .i64 at_, V.v1, V.v2, V.v3, V.v4, .int .i64 pa, V.u1, V.u2, V.u3, V.u4, V.ah, V.wt, .int .i64 mo] 75 (0, 0)
/-- A flow's box lies at A, its program and function below B. -/
structure FlAt (B : Nat) (w : World) (A : Nat) (p : Pg) (f : Fd) (V : Fv) (fi at_ mo : Int) : Prop where
  hB : B ≤ w.heap.size
  box : w.heap[A]? = some (flO V fi at_ f.pa mo)
  pg : PgAt B w V.v1 V.v2 V.v3 V.v4 p
  lo : SlAt 1 IntP B w V.u1 f.lo
  re : SlAt 1 IntP B w V.u2 f.re
  ar : SlAt 1 IntP B w V.u3 f.ar
  co : SlAt 3 InsP B w V.u4 f.co
section
variable {B A : Nat} {w w' : World} {p : Pg} {f : Fd} {V : Fv} {fi at_ mo : Int}
theorem FlAt.keep (F : FlAt B w A p f V fi at_ mo) (h : ∀ j, j < B → w'.heap[j]? = w.heap[j]?) (hA : w'.heap[A]? = w.heap[A]?) (hs : w.heap.size ≤ w'.heap.size) : FlAt B w' A p f V fi at_ mo :=
  ⟨Nat.le_trans F.hB hs, hA.trans F.box, F.pg.keep (Nat.le_refl _) h, ints_keep (Nat.le_refl _) h F.lo, ints_keep (Nat.le_refl _) h F.re, ints_keep (Nat.le_refl _) h F.ar, ins_keep (Nat.le_refl _) h F.co⟩
/-- A list of a list that lies. -/
theorem lst_at {v : Value} {l : List (List Int)} (R : SlAt 1 (LstP B) B w v l) {t : Nat} {x : List Int} (hx : l[t]? = some x) : ∃ g o c n u, v = .slice (some ⟨g, o, none⟩) n c ∧ n = l.length ∧ t < n ∧ g < B ∧ w.cell? ⟨g, o + t, none⟩ = some u ∧ SlAt 1 IntP B w u x := by
  obtain ⟨ao, cap, rfl, _, hel⟩ := R
  obtain ⟨g, o, cs, rfl, h2, h3, u, rfl, h4⟩ := hel t x hx
  refine ⟨g, o, cap, l.length, u, rfl, rfl, get_lt hx, h2, ?_, h4⟩
  have := h3 0 _ rfl
  rwa [Nat.mul_one, Nat.add_zero] at this
set_option maxHeartbeats 1000000 in
theorem only_any (F : FlAt B w A p f V fi at_ mo) (t : Nat) (k : Int) (ht : t < p.ty.length) : Calls Tryd.prog 87 #[.pointer (some ⟨A, 0, none⟩), .int .i64 t, .int .i64 k] w fun e w' => e = .returned (.bool (onlyB p t k)) ∧ w' = w := by
  obtain ⟨x, hx⟩ : ∃ x, p.ty[t]? = some x := ⟨p.ty[t], by simp [ht]⟩
  obtain ⟨g, o, c, n, u, hv, hn, hlt, hg, hc, hl⟩ := lst_at F.pg.ty hx
  obtain ⟨ao, cap, rfl, _, hel⟩ := hl
  have c0 : w.cell? ⟨A, 2, none⟩ = some V.v1 := cell_of F.box rfl
  rw [hv] at c0
  have e1 : decide (t < n) = true := by simpa using hlt
  have HE := hide (show onlyB p t k = decide (x = [k]) by unfold onlyB; rw [Int.toNat_natCast, hx]; simp)
  have hlA := lt_of_block F.box
  have hlg : g < w.heap.size := Nat.lt_of_lt_of_le hg F.hB
  clear hv hn hx F ht
  match x, hel with
  | [], _ =>
    go_enter Tryd.func87, Tryd.ntmps87
    go_wp2
    go_ret
    exact ⟨by rw [HE.out]; rfl, rfl⟩
  | [y], hel =>
    obtain ⟨g2, o2, rfl, hg2, hc2, _⟩ := ints_at hel (j := 0) (x := y) rfl
    rw [Nat.add_zero] at hc2
    have HY := hide (show onlyB p t k = (y == k) by rw [HE.out]; simp [Bool.beq_eq_decide_eq])
    clear hel HE
    go_enter Tryd.func87, Tryd.ntmps87
    go_wp2
    go_ret
    exact ⟨by rw [HY.out]; rfl, rfl⟩
  | y :: z :: r, _ =>
    have HY := hide (show onlyB p t k = false by rw [HE.out]; simp)
    have q : (((y :: z :: r).length : Int) == 1) = false := by simp; omega
    clear HE
    generalize (y :: z :: r).length = len at *
    go_enter Tryd.func87, Tryd.ntmps87
    go_wp2
    go_ret
    exact ⟨by rw [HY.out]; rfl, rfl⟩
/-- Numbers that are answered in a new list. -/
def NwO (w : World) (ks : List Int) (e : Ending) (W : World) : Prop := ∃ v, e = .returned v ∧ IsAt (fun j => j < w.heap.size) W v ks ∧ Below w.heap.size w W
theorem isAt_new {X : Nat → Prop} {W : World} {g : Nat} {ks : List Int} {T : TypeId} (h : W.heap[g]? = some (.cells ((ks.map (Value.int .i64)).toArray) T (0, 0))) (hX : ¬ X g) (hl : ks.length ≤ 4096) : IsAt X W (.slice (some ⟨g, 0, none⟩) ks.length ks.length) ks := by
  refine ⟨_, _, rfl, Nat.le_refl _, by simp only [maxLen]; omega, fun j k hk => ⟨g, 0, rfl, lt_of_block h, hX, ?_⟩⟩
  rw [Nat.zero_add]
  exact cell_of h (by simp [hk])
theorem isAt_none {X : Nat → Prop} {W : World} : IsAt X W (.slice none 0 0) [] := ⟨none, 0, rfl, Nat.le_refl _, by simp only [maxLen]; omega, fun j k hk => by simp at hk⟩
set_option maxRecDepth 100000 in
set_option maxHeartbeats 1000000 in
theorem nexts_any {x : Nat} (F : FlAt B w A p f V fi x mo) (hx : x ≤ 65536) (i : In3) : Calls Tryd.prog 83 #[.pointer (some ⟨A, 0, none⟩), .agg #[.int .i64 i.o, .int .i64 i.a, .int .i64 i.b]] w (NwO w (nextsP i x)) := by
  have hlA := lt_of_block F.box
  have c1 : w.cell? ⟨A, 1, none⟩ = some (.int .i64 x) := cell_of F.box rfl
  have hw : IntKind.i64.wrap ((x : Int) + 1) = (x : Int) + 1 := by
    rw [show (x : Int) + 1 = ((x + 1 : Nat) : Int) by omega]
    exact wrap_nat (by omega)
  have HK := hide (show ∀ (W1 W : World) (ks : List Int) (T : TypeId) (g n : Nat) (C : Array Value), Below w.heap.size w W1 → w.heap.size ≤ W1.heap.size → W1.alloc (.cells C T) = W → C = (ks.map (Value.int .i64)).toArray → g = W1.heap.size → n = ks.length → ks.length ≤ 4096 → NwO w ks (.returned (.slice (some ⟨g, 0, none⟩) n n)) W from fun W1 W ks T g n C hb hs hW hC hg hn hl => by
    subst hW
    subst hC
    subst hg
    subst hn
    exact ⟨_, rfl, isAt_new (heap_new _ _ rfl) (by omega) hl, hb.alloc hs _⟩)
  clear F hx
  by_cases h9 : i.o = 9
  · have HE := hide (show nextsP i x = [i.a] by unfold nextsP; rw [if_pos h9])
    have q9 : (i.o == 9) = true := by simpa using h9
    clear h9
    go_enter Tryd.func83, Tryd.ntmps83
    go_wp2
    go_ret
    rw [HE.out]
    exact HK.out (w.alloc (.cells #[.int .i64 i.o, .int .i64 i.a, .int .i64 i.b] 47)) _ [i.a] _ (w.heap.size + 1) 1 _ ((Below.refl _ _).alloc (Nat.le_refl _) _) (by simp) rfl rfl (by simp) rfl (by simp)
  · have q9 : (i.o == 9) = false := by simpa using h9
    by_cases h10 : i.o = 10
    · have HE := hide (show nextsP i x = [(x : Int) + 1, i.a] by unfold nextsP; rw [if_neg h9, if_pos h10])
      have q10 : (i.o == 10) = true := by simpa using h10
      clear h9 h10
      go_enter Tryd.func83, Tryd.ntmps83
      go_wp2
      go_region
      all_goals go_wp2
      all_goals (
        go_ret
        rw [HE.out]
        exact HK.out (w.alloc (.cells #[.int .i64 i.o, .int .i64 i.a, .int .i64 i.b] 47)).drew _ [(x : Int) + 1, i.a] _ (w.heap.size + 1) 2 _ (below_drew ((Below.refl _ _).alloc (Nat.le_refl _) _)) (by simp) rfl rfl (by simp) rfl (by simp))
    · have q10 : (i.o == 10) = false := by simpa using h10
      by_cases hr : i.o = 24 ∨ i.o = 27 ∨ i.o = 28
      · have HE := hide (show nextsP i x = [] by unfold nextsP; rw [if_neg h9, if_neg h10, if_pos hr])
        have HF := hide (show NwO w [] (.returned (.slice none 0 0)) (w.alloc (.cells #[.int .i64 i.o, .int .i64 i.a, .int .i64 i.b] 47)) from ⟨_, rfl, isAt_none, (Below.refl _ _).alloc (Nat.le_refl _) _⟩)
        rcases hr with h | h | h
        all_goals (
          have r24 : (i.o == 24) = decide (i.o = 24) := rfl
          rw [h] at HF q9 q10 ⊢
          clear h9 h10 h
          go_enter Tryd.func83, Tryd.ntmps83
          go_wp2
          go_ret
          rw [HE.out]
          exact HF.out)
      · have HE := hide (show nextsP i x = [(x : Int) + 1] by unfold nextsP; rw [if_neg h9, if_neg h10, if_neg hr])
        have q24 : (i.o == 24) = false := by simp; omega
        have q27 : (i.o == 27) = false := by simp; omega
        have q28 : (i.o == 28) = false := by simp; omega
        clear h9 h10 hr
        go_enter Tryd.func83, Tryd.ntmps83
        go_wp2
        go_ret
        rw [HE.out]
        exact HK.out (w.alloc (.cells #[.int .i64 i.o, .int .i64 i.a, .int .i64 i.b] 47)) _ [(x : Int) + 1] _ (w.heap.size + 1) 1 _ ((Below.refl _ _).alloc (Nat.le_refl _) _) (by simp) rfl rfl (by simp) rfl (by simp)
end
end Go.Proofs.YtkdojpnihinpbaaDoor
