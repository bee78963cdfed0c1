/- names, pointer, Get and Set. -/
import Derived.Test.YtimpmgbahgganaaHpA
namespace Go.Proofs.Ytimpmgbahgganaa
open Go.RowKit Go.Maps

section
variable {Y : Hh} {w : World} {h : Hs} {k : Nat}
theorem names_any (L : HLies Y w h k) (I : HInv h) {x : Int} (hx : x ≤ 9223372036854775807) :
    Calls Try.prog 34 #[Y.p, .int .i64 x] w fun e w' => e = .returned (.bool (namesB h x)) ∧ Below w.heap.size w w' := by
  have hc := base_any L I hx
  by_cases h0 : x = 0
  · have e1 : namesB h x = true := names_iff.2 (.inl h0)
    rw [e1]
    subst h0
    clear L e1
    go_enter Try.func34, Try.ntmps34
    go_wp2_with fail
    refine hc.mono ?_
    rintro e w1 ⟨a, t, n, c, rfl, _, hb⟩
    go_wp2
    go_ret
    exact ⟨rfl, hb⟩
  · have hd : (x == 0) = false := by simpa using h0
    clear L
    go_enter Try.func34, Try.ntmps34
    go_wp2_with fail
    refine hc.mono ?_
    rintro e w1 ⟨a, t, n, c, rfl, hB, hb⟩
    have e1 : namesB h x = (c == 0) := by
      cases hB with
      | none hn =>
        rw [Bool.eq_iff_iff, names_iff, hn]
        simp [h0]
      | some a t n hs _ =>
        rw [Bool.eq_iff_iff, names_iff, hs]
        simp
    have HE := hide e1
    clear e1 hB
    go_wp2
    go_ret
    exact ⟨by rw [HE.out]; rfl, hb⟩
/-- The type's list of fields. -/
theorem HLies.fields (L : HLies Y w h k) {t : Nat} {f : List Bool} (hf : h.ty[t]? = some f) : ∃ g cap v ao fc, Y.vt = .slice (some ⟨g, 0, none⟩) h.ty.length cap ∧ w.cell? ⟨g, t, none⟩ = some v ∧ t < h.ty.length ∧ v = .slice ao f.length fc ∧ ∀ (j : Nat) (b : Bool), f[j]? = some b → ∃ d, ao = some ⟨d, 0, none⟩ ∧ w.cell? ⟨d, j, none⟩ = some (.bool b) := by
  obtain ⟨v, h1, h2⟩ := L.tvs t f hf
  obtain ⟨g, cap, e1, e2, _, e3⟩ := row_cell L.tys h1
  obtain ⟨ao, fc, e4⟩ := row_form h2
  refine ⟨g, cap, v, ao, fc, e1, e2, e3, e4, fun j b hb => ?_⟩
  obtain ⟨d, c2, e5, e6, _⟩ := row_cell h2 (bools_get hb)
  rw [e4] at e5
  cases e5
  exact ⟨d, rfl, e6⟩
theorem mul_cast (n l : Nat) : (n : Int) * (l : Int) = ((n * l : Nat) : Int) := by simp
set_option maxHeartbeats 1000000 in
theorem pointer_any (L : HLies Y w h k) (I : HInv h) {t n i : Nat} {f : List Bool} (hf : h.ty[t]? = some f) (hn : n ≤ 1024) (hi : i ≤ 70000000) :
    Calls Try.prog 33 #[Y.p, .int .i64 t, .int .i64 n, .int .i64 i] w fun e w' => e = .returned (.bool (ptrB f n i)) ∧ w' = w := by
  obtain ⟨g, cap, v, ao, fc, hv, cv, ht, hve, hbs⟩ := L.fields hf
  have c1 := L.c1
  rw [hv] at c1
  subst hve
  have hfl := I.fl t f hf
  have htl := I.tl
  have hml : n * f.length ≤ 1024 * 4096 := Nat.mul_le_mul hn hfl
  have hmul := mul_cast n f.length
  have ht' : (t : Int) < (h.ty.length : Int) := by omega
  have hp : ptrB f n i = (decide (i < n * f.length) && f.getD (i % f.length) false) := rfl
  generalize h.ty.length = tl at *
  by_cases hlt : i < n * f.length
  · have hl0 : 0 < f.length := by
      rcases Nat.eq_zero_or_pos f.length with h0 | h0
      · rw [h0] at hlt; simp at hlt
      · exact h0
    have hr : i % f.length < f.length := Nat.mod_lt _ hl0
    obtain ⟨d, rfl, cd⟩ := hbs (i % f.length) _ (List.getElem?_eq_getElem hr)
    rw [show ptrB f n i = f[i % f.length] by rw [hp, List.getD_eq_getElem?_getD, List.getElem?_eq_getElem hr]; simp [hlt]]
    generalize f[i % f.length] = b at *
    have hmod : (i : Int) % (f.length : Int) = ((i % f.length : Nat) : Int) := by simp
    generalize hM : n * f.length = m at *
    generalize hR : i % f.length = r at *
    generalize f.length = l at *
    have hr' : (r : Int) < (l : Int) := by omega
    have hl' : 0 < (l : Int) := by omega
    have hlt' : (i : Int) < (m : Int) := by omega
    have hm' : (m : Int) ≤ 4194304 := by omega
    have hi' : (i : Int) ≤ 70000000 := by omega
    have hd : decide ((i : Int) < (m : Int)) = true := by simpa using hlt'
    clear hp hbs hM hR L I hv hf
    go_enter Try.func33, Try.ntmps33
    go_wp2
    go_ret
    exact ⟨rfl, rfl⟩
  · rw [show ptrB f n i = false by rw [hp]; simp [hlt]]
    generalize hM : n * f.length = m at *
    generalize f.length = l at *
    have hlt' : ¬ (i : Int) < (m : Int) := by omega
    have hm' : (m : Int) ≤ 4194304 := by omega
    have hd : decide ((i : Int) < (m : Int)) = false := by simpa using hlt'
    clear hp hbs hM L I hv hf
    go_enter Try.func33, Try.ntmps33
    go_wp2
    go_ret
    exact ⟨rfl, rfl⟩
/-- Get's answer. -/
def getHP (h : Hs) (x : Int) : Int × Int := match baseA h x with | some _ => (wd h.s x.toNat, 0) | none => (0, 6)
theorem hget_nil (x : Int) (w : World) : Calls Try.prog 13 #[.pointer none, .int .i64 x] w fun e w' => e = two (0, 1) ∧ w' = w := by
  go_enter Try.func13, Try.ntmps13
  go_wp2_with fail
  refine (base_nil x w).mono ?_
  rintro e w1 ⟨rfl, rfl⟩
  go_wp2
  go_ret2
  exact ⟨rfl, rfl⟩
theorem hset_nil (x v : Int) (w : World) : Calls Try.prog 15 #[.pointer none, .int .i64 x, .int .i64 v] w fun e w' => e = .returned (.int .i64 1) ∧ w' = w := by
  go_enter Try.func15, Try.ntmps15
  go_wp2_with fail
  refine (base_nil x w).mono ?_
  rintro e w1 ⟨rfl, rfl⟩
  go_wp2
  go_ret
  exact ⟨rfl, rfl⟩
theorem hget_any (L : HLies Y w h k) (I : HInv h) {x : Int} (hx : x ≤ 9223372036854775807) :
    Calls Try.prog 13 #[Y.p, .int .i64 x] w fun e w' => e = two (getHP h x) ∧ Below w.heap.size w w' := by
  unfold getHP
  cases hb : baseA h x with
  | none =>
    have hc := base_none L I hx hb
    clear L hb
    go_enter Try.func13, Try.ntmps13
    go_wp2_with fail
    refine hc.mono ?_
    rintro e w1 ⟨rfl, hb⟩
    go_wp2
    go_ret2
    exact ⟨rfl, hb⟩
  | some a =>
    obtain ⟨t, n, f, i, p, O, hh, _⟩ := I.base hb
    have hc := base_some L I hx hb O.ob
    have e1 : getP h.s x = (wd h.s x.toNat, 0) := by unfold getP wd; rw [hh]
    clear hb O hh
    go_enter Try.func13, Try.ntmps13
    go_wp2_with fail
    refine hc.mono ?_
    rintro e w1 ⟨rfl, hb⟩
    have L1 := L.below hb
    have hg := get_any x w1 L1.L I.inv hx
    rw [e1] at hg
    have c0 := L1.c0
    clear L L1 hc e1
    go_wp2_with fail
    refine hg.mono ?_
    rintro e w2 ⟨rfl, hb2⟩
    go_wp2
    go_ret2
    exact ⟨rfl, hb.trans (hb2.mono hb.size)⟩
theorem setHP_none {x v : Int} (hb : baseA h x = none) : setHP h x v = (6, h) := by unfold setHP; rw [hb]
theorem setHP_some {x v : Int} {a t n i : Nat} {f : List Bool} (hb : baseA h x = some a) (ho : h.ob a = some (t, n)) (hf : h.ty[t]? = some f) (hi : x - a = (i : Int)) :
    setHP h x v = if ptrB f n i = true ∧ namesB h v = false then (1, h) else (0, setH h x.toNat v) := by
  unfold setHP
  rw [hb]
  simp only [ho]
  rw [hi, Int.toNat_natCast, List.getD_eq_getElem?_getD, hf, Option.getD_some]
set_option maxHeartbeats 1000000 in
theorem hset_any (L : HLies Y w h k) (I : HInv h) {x v : Int} (hx : x ≤ 9223372036854775807) (hv : v ≤ 9223372036854775807) :
    Calls Try.prog 15 #[Y.p, .int .i64 x, .int .i64 v] w fun e w' => e = .returned (.int .i64 (setHP h x v).1) ∧ HLies Y w' (setHP h x v).2 k ∧ HStep Y Y w w' := by
  cases hb : baseA h x with
  | none =>
    rw [setHP_none hb]
    have hc := base_none L I hx hb
    have HL := hide L
    clear L hb
    go_enter Try.func15, Try.ntmps15
    go_wp2_with fail
    refine hc.mono ?_
    rintro e w1 ⟨rfl, hb⟩
    go_wp2
    go_ret
    exact ⟨rfl, HL.out.below hb, HStep.of_below hb⟩
  | some a =>
    obtain ⟨t, n, f, j, p, O, hh, h1, h2⟩ := I.base hb
    obtain ⟨i, hi⟩ := Int.eq_ofNat_of_zero_le (show 0 ≤ x - (a : Int) by omega)
    have hi2 : i ≤ 65536 := by have := O.aw2; omega
    have hx2 : x ≤ 131073 := by have := O.aw2; omega
    have hx1 : 1 ≤ x := by have := O.a1; omega
    have hc := base_some L I hx hb O.ob
    have e0 : setP h.s x v = (0, setS h.s x.toNat v) := by unfold setP; rw [hh]
    have hty := O.ty
    have hn4 := O.n4
    have last : ∀ w1, Below w.heap.size w w1 → Calls Try.prog 35 #[Y.X.p, .int .i64 x, .int .i64 v] w1 fun e w' => e = .returned (.int .i64 0) ∧ Hid (HLies Y w' (setH h x.toNat v) k ∧ HStep Y Y w w') := fun w1 hb1 => by
      have hs := set_any x v w1 (L.below hb1).L I.inv hx
      rw [e0] at hs
      exact hs.mono fun e w' ⟨he, hl, hst⟩ => ⟨he, (L.below hb1).step hst hl (Nat.le_refl _), (HStep.of_below hb1).trans (HStep.of_step hst)⟩
    rw [setHP_some hb O.ob O.ty hi]
    clear hb O hh e0 h1 h2
    cases hp : ptrB f n i with
    | false =>
      rw [if_neg (by simp)]
      go_enter Try.func15, Try.ntmps15
      go_wp2_with fail
      refine hc.mono ?_
      rintro e w1 ⟨rfl, hb⟩
      have L1 := L.below hb
      have hpt := pointer_any L1 I hty hn4 (i := i) (by omega)
      rw [hp] at hpt
      have c0 := L1.c0
      have HI := hide hi
      clear hc L L1
      go_wp2_with fail
      refine hpt.mono ?_
      rintro e w2 ⟨rfl, rfl⟩
      go_wp2_with fail
      refine (last w2 hb).mono ?_
      rintro e w3 ⟨rfl, hr⟩
      go_wp2
      go_ret
      exact ⟨rfl, hr.out⟩
    | true =>
      cases hm : namesB h v with
      | false =>
        rw [if_pos ⟨rfl, rfl⟩]
        go_enter Try.func15, Try.ntmps15
        go_wp2_with fail
        refine hc.mono ?_
        rintro e w1 ⟨rfl, hb⟩
        have L1 := L.below hb
        have hpt := pointer_any L1 I hty hn4 (i := i) (by omega)
        rw [hp] at hpt
        have hnm := names_any L1 I hv
        rw [hm] at hnm
        have HI := hide hi
        have HL := hide L
        clear hc L L1
        go_wp2_with fail
        refine hpt.mono ?_
        rintro e w2 ⟨rfl, rfl⟩
        go_wp2_with fail
        refine hnm.mono ?_
        rintro e w3 ⟨rfl, hb3⟩
        have hb4 := hb.trans (hb3.mono hb.size)
        have c0 := (HL.out.below hb4).c0
        clear hb3 hpt hnm
        go_wp2
        go_ret
        exact ⟨rfl, HL.out.below hb4, HStep.of_below hb4⟩
      | true =>
        rw [if_neg (by simp)]
        go_enter Try.func15, Try.ntmps15
        go_wp2_with fail
        refine hc.mono ?_
        rintro e w1 ⟨rfl, hb⟩
        have L1 := L.below hb
        have hpt := pointer_any L1 I hty hn4 (i := i) (by omega)
        rw [hp] at hpt
        have hnm := names_any L1 I hv
        rw [hm] at hnm
        have HI := hide hi
        have HL := hide L
        clear hc L L1
        go_wp2_with fail
        refine hpt.mono ?_
        rintro e w2 ⟨rfl, rfl⟩
        go_wp2_with fail
        refine hnm.mono ?_
        rintro e w3 ⟨rfl, hb3⟩
        have hb4 := hb.trans (hb3.mono hb.size)
        have c0 := (HL.out.below hb4).c0
        clear hb3 hpt hnm
        go_wp2_with fail
        refine (last w3 hb4).mono ?_
        rintro e w5 ⟨rfl, hr⟩
        go_wp2
        go_ret
        exact ⟨rfl, hr.out⟩
end
end Go.Proofs.Ytimpmgbahgganaa
