/- each: T. -/
import Derived.Test.YtnkdlbiicfnmcaaCdS0Jt
import Derived.Test.YtnkdlbiicfnmcaaCdSF
import Derived.Test.YtnkdlbiicfnmcaaCdSL
import Derived.Test.YtnkdlbiicfnmcaaCdOP
namespace Go.Proofs.Ytnkdlbiicfnmcaa
open Go.RowKit
def EaRT (w : World) (l : List (List Int)) (a : Value) (wr : World) : Prop := ∃ j : Nat, a = .int .i64 j ∧ j ≤ l.length ∧ (l.take j).all sndL = true ∧ Below w.heap.size w wr
section
variable {w : World} {B : Nat}
set_option maxHeartbeats 1000000 in
theorem eachT_any {v : Value} {l : List (List Int)} (R : SlAt 1 (LstP B) B w v l) (hB : B ≤ w.heap.size) :
    Calls Try.prog 24 #[v, .int .i64 1024, .func (.func 25) #[] #[]] w fun e w' => e = .returned (.bool (eachB 1024 sndL l)) ∧ Below w.heap.size w w' := by
  obtain ⟨ao, cap, rfl, hlen, hel⟩ := R
  unfold eachB
  by_cases hm : l.length ≤ 1024
  · rw [decide_eq_true hm, Bool.true_and]
    have HEL := hide hel
    have b1 : (l.length : Int) ≤ 1024 := by omega
    have d0 : decide (1024 < (l.length : Int)) = false := by simp; omega
    have HB := hide hB
    clear hel hlen hm hB
    go_enter Try.func24, Try.ntmps24
    go_wp2
    go_loopw [15] (fun a wr => EaRT w l a wr) (fun a _ => l.length - (intOf a).toNat)
    case atStart => exact ⟨0, rfl, Nat.zero_le _, by simp, Below.refl _ _⟩
    case round =>
      obtain ⟨j, rfl, hj, hall, hb⟩ := hrel
      have HALL := hide hall
      have HBW := hide hb
      clear hall hb
      by_cases hlt : j < l.length
      · obtain ⟨x, hx⟩ : ∃ x, l[j]? = some x := ⟨l[j], by simp [hlt]⟩
        obtain ⟨g, o, cs, hao, hgB, hcs, hP⟩ := HEL.out j x hx
        subst hao
        have hk : ∀ r u, cs[r]? = some u → wr.cell? ⟨g, o + j * 1 + r, none⟩ = some u := fun r u hu => by
          rw [World.cell?_of_block (a := ⟨g, o + j * 1 + r, none⟩) (HBW.out.block g (Nat.lt_of_lt_of_le hgB HB.out))]; exact hcs r u hu
        have hgw : g < wr.heap.size := Nat.lt_of_lt_of_le hgB (Nat.le_trans HB.out HBW.out.size)
        obtain ⟨v1, rfl, a1, c1, rfl, _⟩ := hP
        have c10 : wr.cell? ⟨g, o + j, none⟩ = some (.slice a1 x.length c1) := by have := hk 0 _ rfl; simpa using this
        have d1 : decide (j < l.length) = true := by simpa using hlt
        have d2 : decide ((j : Int) < (l.length : Int)) = true := by simp; omega
        have bj : (j : Int) < (l.length : Int) := by omega
        have HX := hide hx
        clear hcs hk hx hgB
        generalize hn : l.length = n at *
        have HNl := hide hn
        clear hn
        have HIT := hide (sndT_any (l := x) (a := a1) (c := c1) rfl wr)
        generalize hs : sndL x = d at *
        have HSx := hide hs
        clear hs
        go_wp2_with fail
        refine HIT.out.mono ?_
        rintro e w3 ⟨rfl, hb3⟩
        have HB3 := hide (HBW.out.trans (hb3.mono HBW.out.size))
        clear hb3 HIT
        cases d with
        | true =>
          go_wp2
          go_roundw
          case rel => exact ⟨j + 1, by go_num, by rw [HNl.out]; exact hlt, all_next HX.out HALL.out HSx.out, HB3.out⟩
          case measure => rw [intOf_int]; simp [intOf]; omega
        | false =>
          go_wp2
          go_ret
          refine ⟨?_, HB3.out⟩
          rw [all_bad HX.out HSx.out]
          rfl
      · obtain rfl : j = l.length := by omega
        have d1 : decide (l.length < l.length) = false := by simp
        have d2 : decide ((l.length : Int) < (l.length : Int)) = false := by simp
        have HA2 := hide (show l.all sndL = true by have := HALL.out; rwa [List.take_length] at this)
        generalize hn : l.length = n at *
        clear hn
        go_wp2
        go_ret
        refine ⟨?_, HBW.out⟩
        rw [HA2.out]
        rfl
  · rw [decide_eq_false hm, Bool.false_and]
    have d0 : decide (1024 < (l.length : Int)) = true := by simp; omega
    clear hel hlen hm hB
    generalize l.length = n at *
    go_enter Try.func24, Try.ntmps24
    go_wp2
    go_ret
    exact ⟨rfl, Below.refl _ _⟩
end
end Go.Proofs.Ytnkdlbiicfnmcaa

namespace Go.Proofs.Ytnkdlbiicfnmcaa
open Go.RowKit
section
variable {w : World} {B : Nat}
set_option maxHeartbeats 1000000 in
theorem sound_any {p : Pg} {v1 v2 v3 v4 : Value} (R : PgAt B w v1 v2 v3 v4 p) (hB : B ≤ w.heap.size) :
    Calls Try.prog 11 #[.agg #[v1, v2, v3, v4]] w fun e w' => e = .returned (.bool (sndP p)) ∧ Below w.heap.size w w' := by
  obtain ⟨W1, hW1⟩ : ∃ W1, w.alloc (.cells #[v1, v2, v3, v4] 27) = W1 := ⟨_, rfl⟩
  have BB := hide (show Below w.heap.size w W1 from hW1 ▸ (Below.refl _ _).alloc (Nat.le_refl _) _)
  have hb1 : W1.heap[w.heap.size]? = some (.cells #[v1, v2, v3, v4] 27 (0, 0)) := hW1 ▸ heap_new _ _ rfl
  have hz1 : W1.heap.size = w.heap.size + 1 := by rw [← hW1]; simp
  have KP : ∀ W, Below W1.heap.size W1 W → PgAt B W v1 v2 v3 v4 p ∧ B ≤ W.heap.size ∧ W.heap[w.heap.size]? = some (.cells #[v1, v2, v3, v4] 27 (0, 0)) ∧ Below w.heap.size w W := fun W h =>
    ⟨R.keep (Nat.le_refl _) (fun j hj => (h.block j (by omega)).trans (BB.out.block j (by omega))), by have := h.size; omega, (h.block _ (by omega)).trans hb1, BB.out.trans (h.mono (by omega))⟩
  have HKP := hide KP
  have C1 := hide (eachL_any (KP _ (Below.refl _ _)).1.ty (KP _ (Below.refl _ _)).2.1)
  have C2 := hide (show ∀ W, Below W1.heap.size W1 W → _ from fun W h => eachF_any (KP W h).1.fu (KP W h).2.1)
  have C3 := hide (show ∀ W, Below W1.heap.size W1 W → _ from fun W h => eachT_any (KP W h).1.ta (KP W h).2.1)
  have C4 := hide (show ∀ W, Below W1.heap.size W1 W → _ from fun W h => eachS_any (KP W h).1.st (KP W h).2.1)
  have KC := hide (show ∀ W, Below W1.heap.size W1 W → W.cell? ⟨w.heap.size, 0, none⟩ = some v1 ∧ W.cell? ⟨w.heap.size, 1, none⟩ = some v2 ∧ W.cell? ⟨w.heap.size, 2, none⟩ = some v3 ∧ W.cell? ⟨w.heap.size, 3, none⟩ = some v4 from fun W h =>
    have hb := (KP W h).2.2.1
    ⟨cell_of hb rfl, cell_of hb rfl, cell_of hb rfl, cell_of hb rfl⟩)
  obtain ⟨a1, n1, hv1, _⟩ := R.ty
  obtain ⟨a2, n2, hv2, _⟩ := R.fu
  obtain ⟨a3, n3, hv3, _⟩ := R.ta
  obtain ⟨a4, n4, hv4, _⟩ := R.st
  subst hv1 hv2 hv3 hv4
  obtain ⟨k0, k1, k2, k3⟩ := KC.out W1 (Below.refl _ _)
  unfold sndP
  generalize eachB 1024 sndL p.ty = d1 at *
  generalize eachB 4096 sndF p.fu = d2 at *
  generalize eachB 1024 sndL p.ta = d3 at *
  generalize eachB 1024 sndS p.st = d4 at *
  clear R hB hb1 hz1 KP
  generalize p.ty.length = m1 at *
  generalize p.fu.length = m2 at *
  generalize p.ta.length = m3 at *
  generalize p.st.length = m4 at *
  go_enter Try.func11, Try.ntmps11
  go_wp2_with fail
  refine C1.out.mono ?_
  rintro e w2 ⟨rfl, hb2⟩
  obtain ⟨l0, l1, l2, l3⟩ := KC.out w2 hb2
  have H2 := hide hb2
  clear hb2 C1 hW1 k0 k1 k2 k3
  cases d1 with
  | false =>
    go_wp2
    go_ret
    exact ⟨rfl, (HKP.out _ H2.out).2.2.2⟩
  | true =>
    go_wp2_with fail
    refine (C2.out w2 H2.out).mono ?_
    rintro e w3 ⟨rfl, hb3⟩
    have H3 := hide (H2.out.trans (hb3.mono H2.out.size))
    obtain ⟨k0, k1, k2, k3⟩ := KC.out w3 H3.out
    clear hb3 C2 H2 l0 l1 l2 l3
    cases d2 with
    | false =>
      go_wp2
      go_ret
      exact ⟨rfl, (HKP.out _ H3.out).2.2.2⟩
    | true =>
      go_wp2_with fail
      refine (C3.out w3 H3.out).mono ?_
      rintro e w4 ⟨rfl, hb4⟩
      have H4 := hide (H3.out.trans (hb4.mono H3.out.size))
      obtain ⟨l0, l1, l2, l3⟩ := KC.out w4 H4.out
      clear hb4 C3 H3 k0 k1 k2 k3
      cases d3 with
      | false =>
        go_wp2
        go_ret
        exact ⟨rfl, (HKP.out _ H4.out).2.2.2⟩
      | true =>
        go_wp2_with fail
        refine (C4.out w4 H4.out).mono ?_
        rintro e w5 ⟨rfl, hb5⟩
        have H5 := hide (H4.out.trans (hb5.mono H4.out.size))
        clear hb5 C4 H4 l0 l1 l2 l3
        go_wp2
        go_ret
        exact ⟨by simp, (HKP.out _ H5.out).2.2.2⟩
end
end Go.Proofs.Ytnkdlbiicfnmcaa

namespace Go.Proofs.Ytnkdlbiicfnmcaa
open Go.RowKit
def pg0 : Pg := ⟨[], [], [], []⟩
/-- Decode's answer. -/
def decP (b : By) : Pg × Int :=
  if MB < b.length then (pg0, 13)
  else if (pgR ⟨b, false⟩).2.bad = true ∨ 0 < (pgR ⟨b, false⟩).2.rest.length then (pg0, 3)
  else if sndP (pgR ⟨b, false⟩).1 = true then ((pgR ⟨b, false⟩).1, 0)
  else (pg0, 2)
section
variable {w w' : World}
theorem RowP.sl {α : Type} {T k B : Nat} {P P' : World → List Value → α → Prop} {v : Value} {l : List α} (h : RowP T k P B w v l) (hP : ∀ cs x, P w cs x → P' w cs x) : SlAt k P' w.heap.size w v l := by
  obtain ⟨xs, hown, hch⟩ := h
  have hm : l.length ≤ 9223372036854775807 := by
    rcases hown.2 with ⟨_, h1⟩ | ⟨g, cap, cur, _, _, _, h3, h4, _⟩
    · omega
    · simp only [maxLen] at h4; omega
  rcases hown.2 with ⟨h1, h2⟩ | ⟨g, cap, cur, h1, _, h3, h4, h5, h6, h7⟩
  · exact ⟨none, 0, by rw [h1, h2], hm, fun j x hx => by have := get_lt hx; omega⟩
  · refine ⟨_, cap, h1, hm, fun j x hx => ?_⟩
    obtain ⟨cs, e1, e2, e3⟩ := hch j x hx
    refine ⟨g, 0, cs, rfl, lt_of_block h3, fun r u hu => ?_, hP cs x e3⟩
    have := hown.cells (g := g) (by rw [h1]; rfl) (j * k + r) u (e2 r u hu)
    rw [show (⟨g, 0, none⟩ : Addr).add (j * k + r) = ⟨g, 0 + j * k + r, none⟩ by unfold Addr.add; split <;> simp_all] at this
    exact this
theorem PgR.at {v1 v2 v3 v4 : Value} {p : Pg} (h : PgR w v1 v2 v3 v4 p) : PgAt w.heap.size w v1 v2 v3 v4 p := by
  have hl : ∀ cs x, RLst w cs x → LstP w.heap.size w cs x := fun cs x ⟨v, h1, h2⟩ => ⟨v, h1, h2.sl fun _ _ h => h⟩
  exact ⟨h.ty.sl hl, h.fu.sl fun cs x ⟨a, b, c, d, h1, h2, h3, h4, h5, h6⟩ => ⟨a, b, c, d, h1, h2, h3.sl fun _ _ h => h, h4.sl fun _ _ h => h, h5.sl fun _ _ h => h, h6.sl fun _ _ h => h⟩, h.ta.sl hl, h.st.sl fun _ _ h => h⟩
theorem pg0_at (B : Nat) (w : World) : PgAt B w (.slice none 0 0) (.slice none 0 0) (.slice none 0 0) (.slice none 0 0) pg0 :=
  ⟨⟨none, 0, rfl, by simp [pg0], fun j x h => by simp [pg0] at h⟩, ⟨none, 0, rfl, by simp [pg0], fun j x h => by simp [pg0] at h⟩, ⟨none, 0, rfl, by simp [pg0], fun j x h => by simp [pg0] at h⟩, ⟨none, 0, rfl, by simp [pg0], fun j x h => by simp [pg0] at h⟩⟩
theorem PgAt.grow {B : Nat} {v1 v2 v3 v4 : Value} {p : Pg} (h : PgAt B w v1 v2 v3 v4 p) (hb : Below B w w') (hB : B ≤ w'.heap.size) : PgAt w'.heap.size w' v1 v2 v3 v4 p := h.keep hB (fun j hj => hb.block j hj)
end
end Go.Proofs.Ytnkdlbiicfnmcaa
