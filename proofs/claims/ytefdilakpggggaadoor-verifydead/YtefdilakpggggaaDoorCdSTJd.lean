/- each: T. -/
import Derived.Test.YtefdilakpggggaaDoorCdS0
import Derived.Test.YtefdilakpggggaaDoorCdSF
import Derived.Test.YtefdilakpggggaaDoorCdSL
import Derived.Test.YtefdilakpggggaaDoorVfCk
import Derived.Deep.CutRange
namespace Go.Proofs.YtefdilakpggggaaDoor
open Go.RowKit
def EaRT (w : World) (l : List (List Int)) (a : Value) (wr : World) : Prop := ∃ j : Nat, a = .int .i64 j ∧ j ≤ l.length ∧ (l.take j).all sndL = true ∧ Below w.heap.size w wr
section
variable {w : World} {B : Nat}
set_option maxHeartbeats 1000000 in
theorem eachT_any {v : Value} {l : List (List Int)} (R : SlAt 1 (LstP B) B w v l) (hB : B ≤ w.heap.size) :
    Calls Tryd.prog 31 #[v, .int .i64 1024, .func (.func 32) #[] #[]] w fun e w' => e = .returned (.bool (eachB 1024 sndL l)) ∧ Below w.heap.size w w' := by
  obtain ⟨ao, cap, rfl, hlen, hel⟩ := R
  unfold eachB
  by_cases hm : l.length ≤ 1024
  · rw [decide_eq_true hm, Bool.true_and]
    have HEL := hide hel
    have b1 : (l.length : Int) ≤ 1024 := by omega
    have d0 : decide (1024 < (l.length : Int)) = false := by simp; omega
    have HB := hide hB
    clear hel hlen hm hB
    go_enter Tryd.func31, Tryd.ntmps31
    go_wp2
    go_loopw [15] (fun a wr => EaRT w l a wr) (fun a _ => l.length - (intOf a).toNat)
    case atStart => exact ⟨0, rfl, Nat.zero_le _, by simp, Below.refl _ _⟩
    case round =>
      obtain ⟨j, rfl, hj, hall, hb⟩ := hrel
      have HALL := hide hall
      have HBW := hide hb
      clear hall hb
      by_cases hlt : j < l.length
      · obtain ⟨x, hx⟩ : ∃ x, l[j]? = some x := ⟨l[j], by simp [hlt]⟩
        obtain ⟨g, o, cs, hao, hgB, hcs, hP⟩ := HEL.out j x hx
        subst hao
        have hk : ∀ r u, cs[r]? = some u → wr.cell? ⟨g, o + j * 1 + r, none⟩ = some u := fun r u hu => by
          rw [World.cell?_of_block (a := ⟨g, o + j * 1 + r, none⟩) (HBW.out.block g (Nat.lt_of_lt_of_le hgB HB.out))]; exact hcs r u hu
        have hgw : g < wr.heap.size := Nat.lt_of_lt_of_le hgB (Nat.le_trans HB.out HBW.out.size)
        obtain ⟨v1, rfl, a1, c1, rfl, _⟩ := hP
        have c10 : wr.cell? ⟨g, o + j, none⟩ = some (.slice a1 x.length c1) := by have := hk 0 _ rfl; simpa using this
        have d1 : decide (j < l.length) = true := by simpa using hlt
        have d2 : decide ((j : Int) < (l.length : Int)) = true := by simp; omega
        have bj : (j : Int) < (l.length : Int) := by omega
        have HX := hide hx
        clear hcs hk hx hgB
        generalize hn : l.length = n at *
        have HNl := hide hn
        clear hn
        have HIT := hide (sndT_any (l := x) (a := a1) (c := c1) rfl wr)
        generalize hs : sndL x = d at *
        have HSx := hide hs
        clear hs
        go_wp2_with fail
        refine HIT.out.mono ?_
        rintro e w3 ⟨rfl, hb3⟩
        have HB3 := hide (HBW.out.trans (hb3.mono HBW.out.size))
        clear hb3 HIT
        cases d with
        | true =>
          go_wp2
          go_roundw
          case rel => exact ⟨j + 1, by go_num, by rw [HNl.out]; exact hlt, all_next HX.out HALL.out HSx.out, HB3.out⟩
          case measure => rw [intOf_int]; simp [intOf]; omega
        | false =>
          go_wp2
          go_ret
          refine ⟨?_, HB3.out⟩
          rw [all_bad HX.out HSx.out]
          rfl
      · obtain rfl : j = l.length := by omega
        have d1 : decide (l.length < l.length) = false := by simp
        have d2 : decide ((l.length : Int) < (l.length : Int)) = false := by simp
        have HA2 := hide (show l.all sndL = true by have := HALL.out; rwa [List.take_length] at this)
        generalize hn : l.length = n at *
        clear hn
        go_wp2
        go_ret
        refine ⟨?_, HBW.out⟩
        rw [HA2.out]
        rfl
  · rw [decide_eq_false hm, Bool.false_and]
    have d0 : decide (1024 < (l.length : Int)) = true := by simp; omega
    clear hel hlen hm hB
    generalize l.length = n at *
    go_enter Tryd.func31, Tryd.ntmps31
    go_wp2
    go_ret
    exact ⟨rfl, Below.refl _ _⟩
end
end Go.Proofs.YtefdilakpggggaaDoor

namespace Go.Proofs.YtefdilakpggggaaDoor
open Go.RowKit
def EaRS (w : World) (l : List (By)) (a : Value) (wr : World) : Prop := ∃ j : Nat, a = .int .i64 j ∧ j ≤ l.length ∧ (l.take j).all sndS = true ∧ Below w.heap.size w wr
section
variable {w : World} {B : Nat}
set_option maxHeartbeats 1000000 in
theorem eachS_any {v : Value} {l : List (By)} (R : SlAt 1 StrP B w v l) (hB : B ≤ w.heap.size) :
    Calls Tryd.prog 33 #[v, .int .i64 1024, .func (.func 34) #[] #[]] w fun e w' => e = .returned (.bool (eachB 1024 sndS l)) ∧ Below w.heap.size w w' := by
  obtain ⟨ao, cap, rfl, hlen, hel⟩ := R
  unfold eachB
  by_cases hm : l.length ≤ 1024
  · rw [decide_eq_true hm, Bool.true_and]
    have HEL := hide hel
    have b1 : (l.length : Int) ≤ 1024 := by omega
    have d0 : decide (1024 < (l.length : Int)) = false := by simp; omega
    have HB := hide hB
    clear hel hlen hm hB
    go_enter Tryd.func33, Tryd.ntmps33
    go_wp2
    go_loopw [15] (fun a wr => EaRS w l a wr) (fun a _ => l.length - (intOf a).toNat)
    case atStart => exact ⟨0, rfl, Nat.zero_le _, by simp, Below.refl _ _⟩
    case round =>
      obtain ⟨j, rfl, hj, hall, hb⟩ := hrel
      have HALL := hide hall
      have HBW := hide hb
      clear hall hb
      by_cases hlt : j < l.length
      · obtain ⟨x, hx⟩ : ∃ x, l[j]? = some x := ⟨l[j], by simp [hlt]⟩
        obtain ⟨g, o, cs, hao, hgB, hcs, hP⟩ := HEL.out j x hx
        subst hao
        have hk : ∀ r u, cs[r]? = some u → wr.cell? ⟨g, o + j * 1 + r, none⟩ = some u := fun r u hu => by
          rw [World.cell?_of_block (a := ⟨g, o + j * 1 + r, none⟩) (HBW.out.block g (Nat.lt_of_lt_of_le hgB HB.out))]; exact hcs r u hu
        have hgw : g < wr.heap.size := Nat.lt_of_lt_of_le hgB (Nat.le_trans HB.out HBW.out.size)
        obtain rfl := hP
        have c10 : wr.cell? ⟨g, o + j, none⟩ = some (.string ⟨x.toArray⟩) := by have := hk 0 _ rfl; simpa using this
        have d1 : decide (j < l.length) = true := by simpa using hlt
        have d2 : decide ((j : Int) < (l.length : Int)) = true := by simp; omega
        have bj : (j : Int) < (l.length : Int) := by omega
        have HX := hide hx
        clear hcs hk hx hgB
        generalize hn : l.length = n at *
        have HNl := hide hn
        clear hn
        have HIT := hide (sndS_any x wr)
        generalize hs : sndS x = d at *
        have HSx := hide hs
        clear hs
        go_wp2_with fail
        refine HIT.out.mono ?_
        rintro e w3 ⟨rfl, hb3⟩
        have HB3 := hide (HBW.out.trans (hb3.mono HBW.out.size))
        clear hb3 HIT
        cases d with
        | true =>
          go_wp2
          go_roundw
          case rel => exact ⟨j + 1, by go_num, by rw [HNl.out]; exact hlt, all_next HX.out HALL.out HSx.out, HB3.out⟩
          case measure => rw [intOf_int]; simp [intOf]; omega
        | false =>
          go_wp2
          go_ret
          refine ⟨?_, HB3.out⟩
          rw [all_bad HX.out HSx.out]
          rfl
      · obtain rfl : j = l.length := by omega
        have d1 : decide (l.length < l.length) = false := by simp
        have d2 : decide ((l.length : Int) < (l.length : Int)) = false := by simp
        have HA2 := hide (show l.all sndS = true by have := HALL.out; rwa [List.take_length] at this)
        generalize hn : l.length = n at *
        clear hn
        go_wp2
        go_ret
        refine ⟨?_, HBW.out⟩
        rw [HA2.out]
        rfl
  · rw [decide_eq_false hm, Bool.false_and]
    have d0 : decide (1024 < (l.length : Int)) = true := by simp; omega
    clear hel hlen hm hB
    generalize l.length = n at *
    go_enter Tryd.func33, Tryd.ntmps33
    go_wp2
    go_ret
    exact ⟨rfl, Below.refl _ _⟩
end
end Go.Proofs.YtefdilakpggggaaDoor

namespace Go.Proofs.YtefdilakpggggaaDoor
open Go.RowKit
section
variable {w : World} {B : Nat}
set_option maxHeartbeats 1000000 in
theorem sound_any {p : Pg} {v1 v2 v3 v4 : Value} (R : PgAt B w v1 v2 v3 v4 p) (hB : B ≤ w.heap.size) :
    Calls Tryd.prog 16 #[.agg #[v1, v2, v3, v4]] w fun e w' => e = .returned (.bool (sndP p)) ∧ Below w.heap.size w w' := by
  obtain ⟨W1, hW1⟩ : ∃ W1, w.alloc (.cells #[v1, v2, v3, v4] 27) = W1 := ⟨_, rfl⟩
  have BB := hide (show Below w.heap.size w W1 from hW1 ▸ (Below.refl _ _).alloc (Nat.le_refl _) _)
  have hb1 : W1.heap[w.heap.size]? = some (.cells #[v1, v2, v3, v4] 27 (0, 0)) := hW1 ▸ heap_new _ _ rfl
  have hz1 : W1.heap.size = w.heap.size + 1 := by rw [← hW1]; simp
  have KP : ∀ W, Below W1.heap.size W1 W → PgAt B W v1 v2 v3 v4 p ∧ B ≤ W.heap.size ∧ W.heap[w.heap.size]? = some (.cells #[v1, v2, v3, v4] 27 (0, 0)) ∧ Below w.heap.size w W := fun W h =>
    ⟨R.keep (Nat.le_refl _) (fun j hj => (h.block j (by omega)).trans (BB.out.block j (by omega))), by have := h.size; omega, (h.block _ (by omega)).trans hb1, BB.out.trans (h.mono (by omega))⟩
  have HKP := hide KP
  have C1 := hide (eachL_any (KP _ (Below.refl _ _)).1.ty (KP _ (Below.refl _ _)).2.1)
  have C2 := hide (show ∀ W, Below W1.heap.size W1 W → _ from fun W h => eachF_any (KP W h).1.fu (KP W h).2.1)
  have C3 := hide (show ∀ W, Below W1.heap.size W1 W → _ from fun W h => eachT_any (KP W h).1.ta (KP W h).2.1)
  have C4 := hide (show ∀ W, Below W1.heap.size W1 W → _ from fun W h => eachS_any (KP W h).1.st (KP W h).2.1)
  have KC := hide (show ∀ W, Below W1.heap.size W1 W → W.cell? ⟨w.heap.size, 0, none⟩ = some v1 ∧ W.cell? ⟨w.heap.size, 1, none⟩ = some v2 ∧ W.cell? ⟨w.heap.size, 2, none⟩ = some v3 ∧ W.cell? ⟨w.heap.size, 3, none⟩ = some v4 from fun W h =>
    have hb := (KP W h).2.2.1
    ⟨cell_of hb rfl, cell_of hb rfl, cell_of hb rfl, cell_of hb rfl⟩)
  obtain ⟨a1, n1, hv1, _⟩ := R.ty
  obtain ⟨a2, n2, hv2, _⟩ := R.fu
  obtain ⟨a3, n3, hv3, _⟩ := R.ta
  obtain ⟨a4, n4, hv4, _⟩ := R.st
  subst hv1 hv2 hv3 hv4
  obtain ⟨k0, k1, k2, k3⟩ := KC.out W1 (Below.refl _ _)
  unfold sndP
  generalize eachB 1024 sndL p.ty = d1 at *
  generalize eachB 4096 sndF p.fu = d2 at *
  generalize eachB 1024 sndL p.ta = d3 at *
  generalize eachB 1024 sndS p.st = d4 at *
  clear R hB hb1 hz1 KP
  generalize p.ty.length = m1 at *
  generalize p.fu.length = m2 at *
  generalize p.ta.length = m3 at *
  generalize p.st.length = m4 at *
  go_enter Tryd.func16, Tryd.ntmps16
  go_wp2_with fail
  refine C1.out.mono ?_
  rintro e w2 ⟨rfl, hb2⟩
  obtain ⟨l0, l1, l2, l3⟩ := KC.out w2 hb2
  have H2 := hide hb2
  clear hb2 C1 hW1 k0 k1 k2 k3
  cases d1 with
  | false =>
    go_wp2
    go_ret
    exact ⟨rfl, (HKP.out _ H2.out).2.2.2⟩
  | true =>
    go_wp2_with fail
    refine (C2.out w2 H2.out).mono ?_
    rintro e w3 ⟨rfl, hb3⟩
    have H3 := hide (H2.out.trans (hb3.mono H2.out.size))
    obtain ⟨k0, k1, k2, k3⟩ := KC.out w3 H3.out
    clear hb3 C2 H2 l0 l1 l2 l3
    cases d2 with
    | false =>
      go_wp2
      go_ret
      exact ⟨rfl, (HKP.out _ H3.out).2.2.2⟩
    | true =>
      go_wp2_with fail
      refine (C3.out w3 H3.out).mono ?_
      rintro e w4 ⟨rfl, hb4⟩
      have H4 := hide (H3.out.trans (hb4.mono H3.out.size))
      obtain ⟨l0, l1, l2, l3⟩ := KC.out w4 H4.out
      clear hb4 C3 H3 k0 k1 k2 k3
      cases d3 with
      | false =>
        go_wp2
        go_ret
        exact ⟨rfl, (HKP.out _ H4.out).2.2.2⟩
      | true =>
        go_wp2_with fail
        refine (C4.out w4 H4.out).mono ?_
        rintro e w5 ⟨rfl, hb5⟩
        have H5 := hide (H4.out.trans (hb5.mono H4.out.size))
        clear hb5 C4 H4 l0 l1 l2 l3
        go_wp2
        go_ret
        exact ⟨by simp, (HKP.out _ H5.out).2.2.2⟩
end
end Go.Proofs.YtefdilakpggggaaDoor

namespace Go.Proofs.YtefdilakpggggaaDoor
open Go.RowKit
section
variable {B : Nat} {w : World} {p : Pg}
def CkO (p : Pg) (w : World) (e : Ending) (W : World) : Prop := e = .returned (.tuple #[.int .i64 (checkP p).1, .int .i64 (checkP p).2.1, .int .i64 (checkP p).2.2]) ∧ Below w.heap.size w W
set_option maxRecDepth 100000 in
set_option maxHeartbeats 1000000 in
theorem check_any {v1 v2 v3 v4 : Value} (P : PgAt B w v1 v2 v3 v4 p) (hB : B ≤ w.heap.size) (hT : Tb w) (hb0 : 0 < B) : Calls Tryd.prog 8 #[.agg #[v1, v2, v3, v4]] w (CkO p w) := by
  obtain ⟨a1, d1, hv1⟩ := sl_form P.ty
  obtain ⟨a2, d2, hv2⟩ := sl_form P.fu
  obtain ⟨a3, d3, hv3⟩ := sl_form P.ta
  obtain ⟨a4, d4, hv4⟩ := sl_form P.st
  subst hv1 hv2 hv3 hv4
  obtain ⟨W1, hW1⟩ : ∃ W1, w.alloc (.cells #[.slice a1 p.ty.length d1, .slice a2 p.fu.length d2, .slice a3 p.ta.length d3, .slice a4 p.st.length d4] 27) = W1 := ⟨_, rfl⟩
  have b1 : Below w.heap.size w W1 := by rw [← hW1]; exact (Below.refl _ _).alloc (Nat.le_refl _) _
  have e1 : W1.heap[w.heap.size]? = some (.cells #[.slice a1 p.ty.length d1, .slice a2 p.fu.length d2, .slice a3 p.ta.length d3, .slice a4 p.st.length d4] 27 (0, 0)) := by rw [← hW1]; exact heap_new _ _ rfl
  have HBX := hide (show ∀ W : World, Below W1.heap.size W1 W → W.cell? ⟨w.heap.size, 0, none⟩ = some (.slice a1 p.ty.length d1) ∧ W.cell? ⟨w.heap.size, 1, none⟩ = some (.slice a2 p.fu.length d2) ∧ W.cell? ⟨w.heap.size, 2, none⟩ = some (.slice a3 p.ta.length d3) ∧ W.cell? ⟨w.heap.size, 3, none⟩ = some (.slice a4 p.st.length d4) from fun W h => by
    have h1 := (h.block _ (lt_of_block e1)).trans e1
    exact ⟨cell_of h1 rfl, cell_of h1 rfl, cell_of h1 rfl, cell_of h1 rfl⟩)
  have HPG := hide (show ∀ W : World, Below W1.heap.size W1 W → PgAt B W (.slice a1 p.ty.length d1) (.slice a2 p.fu.length d2) (.slice a3 p.ta.length d3) (.slice a4 p.st.length d4) p ∧ B ≤ W.heap.size ∧ Tb W from fun W h => ⟨P.keep (Nat.le_refl _) (fun j hj => (bel_tr b1 h).block j (Nat.lt_of_lt_of_le hj hB)), Nat.le_trans hB (bel_tr b1 h).size, hT.keep ((bel_tr b1 h).block 0 (Nat.lt_of_lt_of_le hb0 hB))⟩)
  have HB1 := hide b1
  obtain ⟨k0, k1, k2, k3⟩ := HBX.out W1 (Below.refl _ _)
  have hl0 := lt_of_block e1
  have HSO := hide (sound_any (HPG.out W1 (Below.refl _ _)).1 (HPG.out W1 (Below.refl _ _)).2.1)
  have HBZ := hide hb0
  have HCB := hide (show sndP p = false → checkP p = (0, 0, 2) from fun h => by unfold checkP; rw [if_pos h])
  clear P hB hT hb0 b1 e1
  generalize p.ty.length = n1 at *
  generalize p.fu.length = n2 at *
  generalize p.ta.length = n3 at *
  generalize p.st.length = n4 at *
  cases hs : sndP p with
  | false =>
    rw [hs] at HSO
    have HC := hide (HCB.out hs)
    go_enter Tryd.func8, Tryd.ntmps8
    go_wp2_with fail
    refine HSO.out.mono ?_
    rintro e w2 ⟨rfl, hb2⟩
    have HB2 := hide (bel_tr HB1.out hb2)
    clear hb2
    go_wp2
    refine bodyPost_ret (v := .tuple #[.int .i64 0, .int .i64 0, .int .i64 2]) (by simp [results, Tryd.results8, go_sem]) rfl ?_
    exact ⟨by rw [HC.out], HB2.out⟩
  | true =>
    rw [hs] at HSO
    have HC := hide (checkP_ck hs)
    have HFF := hide (fun (W : World) (h : Below W1.heap.size W1 W) => first_any (HPG.out W h).1 (HPG.out W h).2.1 hs (HPG.out W h).2.2 HBZ.out)
    clear hs
    go_enter Tryd.func8, Tryd.ntmps8
    go_wp2_with fail
    refine HSO.out.mono ?_
    rintro e w2 ⟨rfl, hb2⟩
    have HB2 := hide hb2
    clear hb2 k0 k1 k2 k3 hW1
    obtain ⟨k0, k1, k2, k3⟩ := HBX.out w2 HB2.out
    have hl2 : w.heap.size < w2.heap.size := Nat.lt_of_lt_of_le hl0 HB2.out.size
    go_wp2_with fail
    refine (HFF.out w2 HB2.out).mono ?_
    rintro e w3 ⟨rfl, hb3⟩
    have HB3 := hide (bel_tr HB1.out (bel_tr HB2.out hb3))
    clear hb3 k0 k1 k2 k3
    obtain ⟨c1, hc1⟩ : ∃ c, (ckP p).1 = c := ⟨_, rfl⟩
    obtain ⟨c2, hc2⟩ : ∃ c, (ckP p).2.1 = c := ⟨_, rfl⟩
    obtain ⟨c3, hc3⟩ : ∃ c, (ckP p).2.2 = c := ⟨_, rfl⟩
    rw [hc1, hc2, hc3]
    have HCC := hide (show checkP p = (c1, c2, c3) from by rw [HC.out, ← hc1, ← hc2, ← hc3])
    clear hc1 hc2 hc3
    go_wp2_with fail
    go_region
    all_goals go_wp2
    all_goals (
      refine bodyPost_ret (v := .tuple #[.int .i64 c1, .int .i64 c2, .int .i64 c3]) (by simp [results, Tryd.results8, go_sem]) rfl ?_
      exact ⟨by rw [HCC.out], below_drew (HB3.out.alloc HB3.out.size _)⟩)
/-- How soundFlow ends. -/
def SfO (B : Nat) (p : Pg) (m : Int) (w : World) (e : Ending) (W : World) : Prop := Below w.heap.size w W ∧
  (((checkP p).2.2 ≠ 0 ∧ e = .returned (.tuple #[.pointer none, .int .i64 (checkP p).2.2])) ∨
  ((checkP p).2.2 = 0 ∧ inB m p.fu.length = false ∧ e = .returned (.tuple #[.pointer none, .int .i64 6])) ∨
  ∃ (k : Nat) (f : Fd) (F : Fl) (A ahb wtb E : Nat) (V : Fv) (at_ : Int), (checkP p).2.2 = 0 ∧ m = (k : Int) ∧ p.fu[k]? = some f ∧ followP p f = .ok F ∧ e = .returned (.tuple #[.pointer (some ⟨A, 0, none⟩), .int .i64 0]) ∧ FlM B E A ahb wtb W p f V m at_ F)
end
end Go.Proofs.YtefdilakpggggaaDoor

namespace Go.Proofs.YtefdilakpggggaaDoor
open Go.RowKit
section
variable {p : Pg} {f : Fd}
theorem puts_err {i : In3} {top low e : Int} (h : putsP p f i top low = .error e) : e ≠ 0 := by
  obtain ⟨C, hC⟩ : ∃ C : Except Int (List Int) → Prop, C = fun r => ∀ e, r = .error e → e ≠ 0 := ⟨_, rfl⟩
  have ok : ∀ l, C (.ok l) := fun l => by rw [hC]; intro e h; cases h
  have e11 : C (.error 11) := by rw [hC]; intro e h; cases h; decide
  have e8 : C (.error 8) := by rw [hC]; intro e h; cases h; decide
  suffices hs : C (putsP p f i top low) by rw [hC] at hs; exact hs e h
  unfold putsP
  refine ite_elim C (fun _ => ok _) fun _ => ite_elim C (fun _ => ok _) fun _ => ite_elim C (fun _ => ok _) fun _ => ite_elim C (fun _ => ok _) fun _ => ite_elim C (fun _ => ok _) fun _ => ite_elim C (fun _ => ok _) fun _ => ite_elim C (fun _ => ok _) fun _ => ite_elim C (fun _ => ?_) fun _ => ite_elim C (fun _ => ?_) fun _ => ite_elim C (fun _ => ?_) fun _ => ite_elim C (fun _ => ok _) fun _ => ite_elim C (fun _ => ok _) fun _ => ite_elim C (fun _ => ok _) fun _ => ite_elim C (fun _ => ok _) fun _ => ite_elim C (fun _ => ok _) fun _ => ok _
  · cases fieldP p low i.a with
    | none => exact e11
    | some k => exact ok _
  · cases fieldP p low i.a with
    | none => exact e11
    | some k => exact ite_elim C (fun _ => ok _) (fun _ => e8)
  · cases fieldP p low i.a with
    | none => exact e11
    | some k => exact ite_elim C (fun _ => ok _) (fun _ => e11)
theorem look_err {x : Nat} {i : In3} {s : List Int} {e : Int} (h : lookP p f x i s = .error e) : e ≠ 0 := by
  unfold lookP at h
  dsimp only at h
  split at h
  · cases h; decide
  · split at h
    · cases h; decide
    · split at h
      · cases h; decide
      · split at h
        · rename_i e' he
          cases h
          exact puts_err he
        · split at h
          · cases h
          · cases h; decide
theorem come_err {F : Fl} {x : Nat} {s : List Int} {e : Int} (h : comeP F x s = .error e) : e ≠ 0 := by
  unfold comeP at h
  split at h
  · cases h
  · split at h
    · cases h
    · cases h; decide
theorem comes_err {s : List Int} {e : Int} : ∀ {l : List Int} {F : Fl}, comesP s l F = .error e → e ≠ 0
  | [], F, h => by cases h
  | y :: r, F, h => by
    unfold comesP at h
    cases hc : comeP F y.toNat s with
    | ok G => rw [hc] at h; exact comes_err h
    | error e' => rw [hc] at h; cases h; exact come_err hc
theorem run_err {x : Nat} {e : Int} : ∀ {n : Nat} {F : Fl}, runP p f n F = .error (x, e) → e ≠ 0
  | 0, F, h => by cases h
  | n + 1, F, h => by
    unfold runP at h
    split at h
    · cases h
    · rename_i y hy
      cases hs : stepP p f y F with
      | error e' =>
        rw [hs] at h
        cases h
        unfold stepP at hs
        split at hs
        · rename_i e2 he
          cases hs
          exact look_err he
        · exact comes_err hs
      | ok G => rw [hs] at h; exact run_err h
theorem funcs_ok : ∀ {l : List Fd} {i : Nat}, (funcsP p i l).2.2 = 0 → funcsP p i l = (0, 0, 0) ∧ ∀ f ∈ l, ∃ F, followP p f = .ok F
  | [], i, _ => ⟨rfl, fun f h => by cases h⟩
  | g :: r, i, h => by
    unfold funcsP at h ⊢
    cases hf : followP p g with
    | error xe =>
      rw [hf] at h
      exact absurd h (run_err hf)
    | ok F =>
      rw [hf] at h
      obtain ⟨h1, h2⟩ := funcs_ok h
      refine ⟨h1, fun f hm => ?_⟩
      rcases List.mem_cons.mp hm with rfl | hm
      · exact ⟨F, hf⟩
      · exact h2 f hm
/-- A program that is sound. -/
theorem check_ok (h : (checkP p).2.2 = 0) : checkP p = (0, 0, 0) ∧ sndP p = true ∧ headsP p = none ∧ ∀ f ∈ p.fu, ∃ F, followP p f = .ok F := by
  unfold checkP at h ⊢
  cases hs : sndP p with
  | false => rw [hs] at h; cases h
  | true =>
    rw [hs] at h
    rw [if_neg (by simp)] at h ⊢
    cases hh : headsP p with
    | some i => rw [hh] at h; cases h
    | none =>
      rw [hh] at h
      obtain ⟨h1, h2⟩ := funcs_ok h
      exact ⟨h1, rfl, rfl, h2⟩
/-- It is sound, if each is. -/
theorem ok_check (hs : sndP p = true) (hh : headsP p = none) (hf : ∀ f ∈ p.fu, ∃ F, followP p f = .ok F) : checkP p = (0, 0, 0) := by
  unfold checkP
  rw [if_neg (by rw [hs]; simp), hh]
  have : ∀ (l : List Fd) (i : Nat), (∀ f ∈ l, ∃ F, followP p f = .ok F) → funcsP p i l = (0, 0, 0) := by
    intro l
    induction l with
    | nil => intro i _; rfl
    | cons g r ih =>
      intro i h
      obtain ⟨F, hF⟩ := h g (by simp)
      unfold funcsP
      rw [hF]
      exact ih (i + 1) (fun f hf => h f (by simp [hf]))
  exact this _ _ hf
/-- What holds at the end of a way. -/
theorem run_inv (H : Hok p) (hf : FdOk p f) : ∀ {n k : Nat} {F G : Fl}, FInv p f k F → runP p f n F = .ok G → ∃ j, j ≤ k + n ∧ FInv p f j G
  | 0, k, F, G, I, h => by cases h; exact ⟨k, by omega, I⟩
  | n + 1, k, F, G, I, h => by
    unfold runP at h
    split at h
    · cases h; exact ⟨k, by omega, I⟩
    · rename_i y hy
      cases hs : stepP p f y F with
      | error e' => rw [hs] at h; cases h
      | ok G1 =>
        rw [hs] at h
        obtain ⟨j, hj, hI⟩ := run_inv H hf (step_inv H hf I hy hs).1 h
        exact ⟨j, by omega, hI⟩
theorem follow_inv (H : Hok p) (hf : FdOk p f) {F : Fl} (h : followP p f = .ok F) : FInv p f (f.co.length + 1) F := by
  obtain ⟨j, hj, hI⟩ := run_inv H hf (fl0_inv hf.co).1 h
  refine ⟨hI.la, hI.lw, fun y t ht => ⟨(hI.st y t ht).1, ?_⟩, ?_, hI.wa⟩
  · have := (hI.st y t ht).2
    exact Nat.le_trans this (Nat.mul_le_mul_left _ (by omega))
  · exact Nat.le_trans hI.mo (Nat.mul_le_mul_left _ (by omega))
end
section
variable {B : Nat} {w : World} {p : Pg}
set_option maxRecDepth 100000 in
set_option maxHeartbeats 1000000 in
theorem soundFlow_any {v1 v2 v3 v4 : Value} (P : PgAt B w v1 v2 v3 v4 p) (hB : B ≤ w.heap.size) (hT : Tb w) (hb0 : 0 < B) (m : Int) : Calls Tryd.prog 20 #[.agg #[v1, v2, v3, v4], .int .i64 m] w (SfO B p m w) := by
  obtain ⟨a1, d1, hv1⟩ := sl_form P.ty
  obtain ⟨a2, d2, hv2⟩ := sl_form P.fu
  obtain ⟨a3, d3, hv3⟩ := sl_form P.ta
  obtain ⟨a4, d4, hv4⟩ := sl_form P.st
  subst hv1 hv2 hv3 hv4
  obtain ⟨W1, hW1⟩ : ∃ W1, w.alloc (.cells #[.slice a1 p.ty.length d1, .slice a2 p.fu.length d2, .slice a3 p.ta.length d3, .slice a4 p.st.length d4] 27) = W1 := ⟨_, rfl⟩
  have b1 : Below w.heap.size w W1 := by rw [← hW1]; exact (Below.refl _ _).alloc (Nat.le_refl _) _
  have e1 : W1.heap[w.heap.size]? = some (.cells #[.slice a1 p.ty.length d1, .slice a2 p.fu.length d2, .slice a3 p.ta.length d3, .slice a4 p.st.length d4] 27 (0, 0)) := by rw [← hW1]; exact heap_new _ _ rfl
  have HBX := hide (show ∀ W : World, Below W1.heap.size W1 W → W.cell? ⟨w.heap.size, 0, none⟩ = some (.slice a1 p.ty.length d1) ∧ W.cell? ⟨w.heap.size, 1, none⟩ = some (.slice a2 p.fu.length d2) ∧ W.cell? ⟨w.heap.size, 2, none⟩ = some (.slice a3 p.ta.length d3) ∧ W.cell? ⟨w.heap.size, 3, none⟩ = some (.slice a4 p.st.length d4) from fun W h => by
    have h1 := (h.block _ (lt_of_block e1)).trans e1
    exact ⟨cell_of h1 rfl, cell_of h1 rfl, cell_of h1 rfl, cell_of h1 rfl⟩)
  have HPG := hide (show ∀ W : World, Below W1.heap.size W1 W → PgAt B W (.slice a1 p.ty.length d1) (.slice a2 p.fu.length d2) (.slice a3 p.ta.length d3) (.slice a4 p.st.length d4) p ∧ B ≤ W.heap.size ∧ Tb W from fun W h => ⟨P.keep (Nat.le_refl _) (fun j hj => (bel_tr b1 h).block j (Nat.lt_of_lt_of_le hj hB)), Nat.le_trans hB (bel_tr b1 h).size, hT.keep ((bel_tr b1 h).block 0 (Nat.lt_of_lt_of_le hb0 hB))⟩)
  have HB1 := hide b1
  obtain ⟨k0, k1, k2, k3⟩ := HBX.out W1 (Below.refl _ _)
  have hl0 := lt_of_block e1
  have HCK := hide (check_any (HPG.out W1 (Below.refl _ _)).1 (HPG.out W1 (Below.refl _ _)).2.1 (HPG.out W1 (Below.refl _ _)).2.2 hb0)
  have HBZ := hide hb0
  clear P hB hT hb0 b1 e1
  obtain ⟨n2, hN2⟩ : ∃ n, p.fu.length = n := ⟨_, rfl⟩
  rw [hN2] at HBX HPG HCK k1 hW1 ⊢
  have HN2 := hide hN2
  clear hN2
  generalize p.ty.length = n1 at *
  generalize p.ta.length = n3 at *
  generalize p.st.length = n4 at *
  have HCC := hide (check_ok (p := p))
  unfold CkO at HCK
  obtain ⟨cf, hcf⟩ : ∃ c, (checkP p).1 = c := ⟨_, rfl⟩
  obtain ⟨ca, hca⟩ : ∃ c, (checkP p).2.1 = c := ⟨_, rfl⟩
  obtain ⟨ce, hce⟩ : ∃ c, (checkP p).2.2 = c := ⟨_, rfl⟩
  rw [hcf, hca, hce] at HCK
  have HCE := hide hce
  clear hcf hca hce
  by_cases hc0 : ce = 0
  · have q0 : (ce != 0) = false := by simp [hc0]
    obtain ⟨_, o1, o2, o3⟩ := HCC.out (HCE.out.trans hc0)
    cases hin : inB m n2 with
    | false =>
      have HF := hide (show ∀ W : World, Below w.heap.size w W → SfO B p m w (.returned (.tuple #[.pointer none, .int .i64 6])) W from fun W h => ⟨h, .inr (.inl ⟨HCE.out.trans hc0, by rw [HN2.out]; exact hin, rfl⟩)⟩)
      have HW := hide (fun W : World => within_any W m n2)
      rw [hin] at HW
      clear hc0 o1 o2 o3
      go_enter Tryd.func20, Tryd.ntmps20
      go_wp2_with fail
      refine HCK.out.mono ?_
      rintro e w2 ⟨rfl, hb2⟩
      have HB2 := hide hb2
      clear hb2 k0 k1 k2 k3 hW1
      obtain ⟨k0, k1, k2, k3⟩ := HBX.out w2 HB2.out
      have hl2 : w.heap.size < w2.heap.size := Nat.lt_of_lt_of_le hl0 HB2.out.size
      go_wp2_with fail
      refine (HW.out _).mono ?_
      rintro e w3 ⟨rfl, rfl⟩
      go_wp2
      go_ret2
      exact HF.out _ (bel_tr HB1.out HB2.out)
    | true =>
      obtain ⟨mk, rfl, hmk⟩ := in_nat hin
      obtain ⟨f, hf⟩ : ∃ f, p.fu[mk]? = some f := ⟨p.fu[mk]'(by rw [HN2.out]; exact hmk), by simp⟩
      obtain ⟨F, hF⟩ := o3 f (List.mem_of_getElem? hf)
      have HFO := hide (fun (W : World) (h : Below W1.heap.size W1 W) => follow_any (HPG.out W h).1 (HPG.out W h).2.1 (hok_of o1 o2) (HPG.out W h).2.2 HBZ.out hf)
      have HFN := hide (show ∀ W : World, Below w.heap.size w W → ∀ (A ahb wtb E : Nat) (V : Fv) (at_ : Int), FlM B E A ahb wtb W p f V mk at_ F → SfO B p mk w (.returned (.tuple #[.pointer (some ⟨A, 0, none⟩), .int .i64 0])) W from fun W h A ahb wtb E V at_ hM => ⟨h, .inr (.inr ⟨mk, f, F, A, ahb, wtb, E, V, at_, HCE.out.trans hc0, rfl, hf, hF, rfl, hM⟩)⟩)
      have HFF := hide hF
      have HW := hide (fun W : World => within_any W (mk : Int) n2)
      rw [hin] at HW
      clear hc0 o1 o2 o3 hf hF
      go_enter Tryd.func20, Tryd.ntmps20
      go_wp2_with fail
      refine HCK.out.mono ?_
      rintro e w2 ⟨rfl, hb2⟩
      have HB2 := hide hb2
      clear hb2 k0 k1 k2 k3 hW1
      obtain ⟨k0, k1, k2, k3⟩ := HBX.out w2 HB2.out
      have hl2 : w.heap.size < w2.heap.size := Nat.lt_of_lt_of_le hl0 HB2.out.size
      go_wp2_with fail
      refine (HW.out _).mono ?_
      rintro e w3 ⟨rfl, rfl⟩
      go_wp2_with fail
      refine (HFO.out _ HB2.out).mono ?_
      rintro e w4 ⟨h4, hb4⟩
      rw [HFF.out] at h4
      obtain ⟨A, ahb, wtb, E, V, at_, rfl, hM⟩ := h4
      have HM := hide hM
      have HB4 := hide (bel_tr HB1.out (bel_tr HB2.out hb4))
      clear hM hb4
      go_wp2
      go_ret2
      exact HFN.out _ HB4.out _ _ _ _ _ _ HM.out
  · have q0 : (ce != 0) = true := by simpa using hc0
    have HF := hide (show ∀ W : World, Below w.heap.size w W → SfO B p m w (.returned (.tuple #[.pointer none, .int .i64 ce])) W from fun W h => ⟨h, .inl ⟨by rw [HCE.out]; exact hc0, by rw [HCE.out]⟩⟩)
    clear hc0
    go_enter Tryd.func20, Tryd.ntmps20
    go_wp2_with fail
    refine HCK.out.mono ?_
    rintro e w2 ⟨rfl, hb2⟩
    have HB2 := hide hb2
    clear hb2
    go_wp2
    go_ret2
    exact HF.out _ (bel_tr HB1.out HB2.out)
end
end Go.Proofs.YtefdilakpggggaaDoor

namespace Go.Proofs.YtefdilakpggggaaDoor
open Go.RowKit
/-- The words of areas. -/
def arW (p : Pg) (l : List Int) : Nat := (l.map fun t => ((p.ty[t.toNat]?).getD []).length).sum
def szP (p : Pg) (f : Fd) (F : Fl) : Nat := f.lo.length + F.mo + arW p f.ar
/-- How Size ends. -/
def SzO (p : Pg) (m : Int) (w : World) (e : Ending) (W : World) : Prop := Below w.heap.size w W ∧
  (((checkP p).2.2 ≠ 0 ∧ e = .returned (.tuple #[.int .i64 0, .int .i64 (checkP p).2.2])) ∨
  ((checkP p).2.2 = 0 ∧ inB m p.fu.length = false ∧ e = .returned (.tuple #[.int .i64 0, .int .i64 6])) ∨
  ∃ (k : Nat) (f : Fd) (F : Fl), (checkP p).2.2 = 0 ∧ m = (k : Int) ∧ p.fu[k]? = some f ∧ followP p f = .ok F ∧ e = .returned (.tuple #[.int .i64 (szP p f F : Int), .int .i64 0]))
theorem arW_next {p : Pg} {l : List Int} {j : Nat} {x : Int} (h : l[j]? = some x) : arW p (l.take (j + 1)) = arW p (l.take j) + ((p.ty[x.toNat]?).getD []).length := by
  unfold arW
  rw [List.take_add_one, h]
  simp
theorem arW_le {p : Pg} (H : ∀ l ∈ p.ty, l.length ≤ 4096) : ∀ l : List Int, arW p l ≤ 4096 * l.length
  | [] => by simp [arW]
  | x :: r => by
    have ih := arW_le H r
    have : ((p.ty[x.toNat]?).getD []).length ≤ 4096 := by
      cases h : p.ty[x.toNat]? with
      | none => simp
      | some l => exact H l (List.mem_of_getElem? h)
    unfold arW at *
    simp only [List.map_cons, List.sum_cons, List.length_cons]
    omega
def SzR (p : Pg) (l : List Int) (b : Nat) (w : World) (a c : Value) (wr : World) : Prop := ∃ j : Nat, c = .int .i64 j ∧ j ≤ l.length ∧ a = .int .i64 ((b + arW p (l.take j) : Nat) : Int) ∧ Below w.heap.size w wr
section
variable {B : Nat} {w : World} {p : Pg}
set_option maxRecDepth 100000 in
set_option maxHeartbeats 1000000 in
theorem size_any {v1 v2 v3 v4 : Value} (P : PgAt B w v1 v2 v3 v4 p) (hB : B ≤ w.heap.size) (hT : Tb w) (hb0 : 0 < B) (m : Int) : Calls Tryd.prog 12 #[.agg #[v1, v2, v3, v4], .int .i64 m] w (SzO p m w) := by
  obtain ⟨a1, d1, hv1⟩ := sl_form P.ty
  obtain ⟨a2, d2, hv2⟩ := sl_form P.fu
  obtain ⟨a3, d3, hv3⟩ := sl_form P.ta
  obtain ⟨a4, d4, hv4⟩ := sl_form P.st
  subst hv1 hv2 hv3 hv4
  obtain ⟨W1, hW1⟩ : ∃ W1, w.alloc (.cells #[.slice a1 p.ty.length d1, .slice a2 p.fu.length d2, .slice a3 p.ta.length d3, .slice a4 p.st.length d4] 27) = W1 := ⟨_, rfl⟩
  have b1 : Below w.heap.size w W1 := by rw [← hW1]; exact (Below.refl _ _).alloc (Nat.le_refl _) _
  have e1 : W1.heap[w.heap.size]? = some (.cells #[.slice a1 p.ty.length d1, .slice a2 p.fu.length d2, .slice a3 p.ta.length d3, .slice a4 p.st.length d4] 27 (0, 0)) := by rw [← hW1]; exact heap_new _ _ rfl
  have HBX := hide (show ∀ W : World, Below W1.heap.size W1 W → W.cell? ⟨w.heap.size, 0, none⟩ = some (.slice a1 p.ty.length d1) ∧ W.cell? ⟨w.heap.size, 1, none⟩ = some (.slice a2 p.fu.length d2) ∧ W.cell? ⟨w.heap.size, 2, none⟩ = some (.slice a3 p.ta.length d3) ∧ W.cell? ⟨w.heap.size, 3, none⟩ = some (.slice a4 p.st.length d4) from fun W h => by
    have h1 := (h.block _ (lt_of_block e1)).trans e1
    exact ⟨cell_of h1 rfl, cell_of h1 rfl, cell_of h1 rfl, cell_of h1 rfl⟩)
  have HPG := hide (show ∀ W : World, Below W1.heap.size W1 W → PgAt B W (.slice a1 p.ty.length d1) (.slice a2 p.fu.length d2) (.slice a3 p.ta.length d3) (.slice a4 p.st.length d4) p ∧ B ≤ W.heap.size ∧ Tb W from fun W h => ⟨P.keep (Nat.le_refl _) (fun j hj => (bel_tr b1 h).block j (Nat.lt_of_lt_of_le hj hB)), Nat.le_trans hB (bel_tr b1 h).size, hT.keep ((bel_tr b1 h).block 0 (Nat.lt_of_lt_of_le hb0 hB))⟩)
  have HB1 := hide b1
  obtain ⟨k0, k1, k2, k3⟩ := HBX.out W1 (Below.refl _ _)
  have hl0 := lt_of_block e1
  have HSF := hide (soundFlow_any (HPG.out W1 (Below.refl _ _)).1 (HPG.out W1 (Below.refl _ _)).2.1 (HPG.out W1 (Below.refl _ _)).2.2 hb0 m)
  clear P hB hT hb0 b1 e1
  obtain ⟨n1, hN1⟩ : ∃ n, p.ty.length = n := ⟨_, rfl⟩
  rw [hN1] at HBX HPG HSF k0 hW1 ⊢
  have HN1 := hide hN1
  clear hN1
  obtain ⟨n2, hN2⟩ : ∃ n, p.fu.length = n := ⟨_, rfl⟩
  rw [hN2] at HBX HPG HSF k1 hW1 ⊢
  have HN2 := hide hN2
  clear hN2
  generalize p.ta.length = n3 at *
  generalize p.st.length = n4 at *
  go_enter Tryd.func12, Tryd.ntmps12
  go_wp2_with fail
  refine HSF.out.mono ?_
  rintro e w2 ⟨hb2, (⟨hc, rfl⟩ | ⟨hc, hi, rfl⟩ | ⟨k, f, F, A, ahb, wtb, E, V, at_, hc, hm, hf, hF, rfl, hM⟩)⟩
  · have HB2 := hide (bel_tr HB1.out hb2)
    have HC := hide hc
    obtain ⟨ce, hce⟩ : ∃ c, (checkP p).2.2 = c := ⟨_, rfl⟩
    have HF := hide (show ∀ W, Below w.heap.size w W → SzO p m w (.returned (.tuple #[.int .i64 0, .int .i64 ce])) W from fun W h => ⟨h, .inl ⟨HC.out, by rw [hce]⟩⟩)
    rw [hce] at hc ⊢
    have q0 : (ce != 0) = true := by simpa using hc
    clear hb2 hc hce
    go_wp2
    go_ret2
    exact HF.out _ HB2.out
  · have HB2 := hide (bel_tr HB1.out hb2)
    have HF := hide (show ∀ W, Below w.heap.size w W → SzO p m w (.returned (.tuple #[.int .i64 0, .int .i64 6])) W from fun W h => ⟨h, .inr (.inl ⟨hc, hi, rfl⟩)⟩)
    clear hb2 hc hi
    go_wp2
    go_ret2
    exact HF.out _ HB2.out
  · obtain ⟨_, o1, o2, _⟩ := check_ok hc
    have H := hok_of o1 o2
    have hfo := H.fu f (List.mem_of_getElem? hf)
    have I := follow_inv H hfo hF
    have HF := hide (show ∀ W, Below w.heap.size w W → SzO p m w (.returned (.tuple #[.int .i64 (szP p f F : Int), .int .i64 0])) W from fun W h => ⟨h, .inr (.inr ⟨k, f, F, hc, hm, hf, hF, rfl⟩)⟩)
    have c7 : w2.cell? ⟨A, 7, none⟩ = some V.u1 := cell_of hM.fl.box rfl
    have c9 : w2.cell? ⟨A, 9, none⟩ = some V.u3 := cell_of hM.fl.box rfl
    have c13 : w2.cell? ⟨A, 13, none⟩ = some (.int .i64 (F.mo : Int)) := cell_of hM.fl.box rfl
    obtain ⟨x1, z1, h1⟩ := sl_form hM.fl.lo
    obtain ⟨x3, z3, h3⟩ := sl_form hM.fl.ar
    rw [h1] at c7
    rw [h3] at c9
    have hlA := (hM.lt (.inl rfl)).2
    have RA := hM.fl.ar
    rw [h3] at RA
    obtain ⟨_, _, hv, _, hel⟩ := RA
    cases hv
    have HEL := hide (show ∀ (W : World), Below w2.heap.size w2 W → ∀ (j : Nat) (t : Int), f.ar[j]? = some t → ∃ g o, x3 = some ⟨g, o, none⟩ ∧ g < W.heap.size ∧ W.cell? ⟨g, o + j, none⟩ = some (.int .i64 t) from fun W h j t ht => by
      obtain ⟨g, o, e1, e2, e3, _⟩ := ints_at hel ht
      have hg : g < w2.heap.size := Nat.lt_of_lt_of_le e2 hM.fl.hB
      exact ⟨g, o, e1, Nat.lt_of_lt_of_le hg h.size, (h.cell (p := ⟨g, o + j, none⟩) hg).trans e3⟩)
    have HAR := hide hfo.ar
    have HMO := hide (show f.lo.length ≤ 4096 ∧ F.mo ≤ 300000000 ∧ f.ar.length ≤ 4096 from ⟨hfo.nl, by have := I.mo; have := hfo.nc; omega, hfo.na⟩)
    have HAW := hide (arW_le fun l hl => (H.ty l hl).2.1)
    have HB2 := hide hb2
    have HSZ := hide (show szP p f F = f.lo.length + F.mo + arW p f.ar from rfl)
    have hlI : w.heap.size < w2.heap.size := Nat.lt_of_lt_of_le hl0 hb2.size
    clear hb2 hc hm hf hF hM o1 o2 H hfo I h1 h3 hel k0 k1 k2 k3 hW1
    obtain ⟨k0, k1, k2, k3⟩ := HBX.out w2 HB2.out
    generalize f.lo.length = ll at *
    generalize F.mo = mo at *
    obtain ⟨hb1, hb2, hb3⟩ := HMO.out
    have hwp : IntKind.i64.wrap ((ll : Int) + (mo : Int)) = (ll : Int) + (mo : Int) := by
      rw [show (ll : Int) + (mo : Int) = ((ll + mo : Nat) : Int) by omega]
      exact wrap_nat (by omega)
    generalize hal : f.ar.length = al at *
    have HAL := hide hal
    clear hal
    go_wp2_with fail
    go_region
    go_wp2
    rw [show (ll : Int) + (mo : Int) = ((ll + mo : Nat) : Int) by omega]
    have HB3 := hide (show Below w2.heap.size w2 w2.drew from below_drew (Below.refl _ _))
    go_loopw [8, 37] (fun a c wr => SzR p f.ar (ll + mo) w2 a c wr) (fun _ c _ => al - (intOf c).toNat)
    case atStart => exact ⟨0, rfl, Nat.zero_le _, rfl, HB3.out⟩
    case round =>
      obtain ⟨j, rfl, hj, rfl, hb⟩ := hrel
      have HBR := hide hb
      rw [HAL.out] at hj
      clear hb k0 k1 k2 k3 c7 c9 c13
      obtain ⟨k0, k1, k2, k3⟩ := HBX.out wr (bel_tr HB2.out HBR.out)
      have hlw : w.heap.size < wr.heap.size := Nat.lt_of_lt_of_le hlI HBR.out.size
      by_cases hlt : j < al
      · obtain ⟨t, ht⟩ : ∃ t, f.ar[j]? = some t := ⟨f.ar[j]'(by rw [HAL.out]; exact hlt), by simp⟩
        obtain ⟨g, o, rfl, hg, hc⟩ := HEL.out wr HBR.out j t ht
        obtain ⟨tk, rfl, htk⟩ := in_nat (HAR.out t (List.mem_of_getElem? ht))
        obtain ⟨l, hl⟩ : ∃ l, p.ty[tk]? = some l := ⟨p.ty[tk], by simp⟩
        obtain ⟨PW, hBw, _⟩ := HPG.out wr (bel_tr HB2.out HBR.out)
        obtain ⟨g2, o2, c2, nn, u, hv, hnn, hlt2, hg2, hc2, hsl⟩ := lst_at PW.ty hl
        cases hv
        obtain ⟨ua, uc, rfl⟩ := sl_form hsl
        have hg2w : g2 < wr.heap.size := Nat.lt_of_lt_of_le hg2 hBw
        have d1 : decide (j < al) = true := by simpa using hlt
        have d2 : decide (tk < n1) = true := by simpa using hlt2
        have HNX := hide (show ll + mo + arW p (f.ar.take (j + 1)) = ll + mo + arW p (f.ar.take j) + l.length from by rw [arW_next ht, Int.toNat_natCast, hl, Option.getD_some]; omega)
        have hle : ll + mo + arW p (f.ar.take (j + 1)) ≤ 400000000 := by
          have h1 := HAW.out (f.ar.take (j + 1))
          have h2 : (f.ar.take (j + 1)).length ≤ 4096 := by rw [List.length_take, HAL.out]; omega
          omega
        rw [HNX.out] at hle
        clear PW hnn hsl hl ht htk
        generalize l.length = len at *
        obtain ⟨base, hba⟩ : ∃ b, ll + mo + arW p (f.ar.take j) = b := ⟨_, rfl⟩
        rw [hba] at hle HNX ⊢
        clear hba
        have hwb : IntKind.i64.wrap ((base : Int) + (len : Int)) = (base : Int) + (len : Int) := by
          rw [show (base : Int) + (len : Int) = ((base + len : Nat) : Int) by omega]
          exact wrap_nat (by omega)
        have d3 : (j : Int) ≤ 4096 := by omega
        go_wp2
        go_roundw
        case rel => exact ⟨j + 1, by first | exact num_next hlt (by omega) | go_num, by rw [HAL.out]; exact hlt, by rw [HNX.out]; first | rfl | (congr 1; omega), HBR.out⟩
        case measure => first | exact meas_int hlt (by omega) | (rw [intOf_int, intOf_int]; omega)
      · obtain rfl : al = j := by omega
        have d1 : decide (al < al) = false := by simp
        have HE := hide (show ll + mo + arW p (f.ar.take al) = szP p f F from by rw [HSZ.out, ← HAL.out, List.take_length])
        rw [HE.out]
        go_wp2
        go_ret2
        exact HF.out _ (bel_tr HB1.out (bel_tr HB2.out HBR.out))
end
end Go.Proofs.YtefdilakpggggaaDoor

namespace Go.Proofs.YtefdilakpggggaaDoor
open Go.RowKit
def awF : Fd := ⟨0, [], [], [], [⟨1, 5, 0⟩, ⟨25, 0, 0⟩, ⟨28, 0, 0⟩]⟩
def awP : Pg := ⟨[], [awF], [], []⟩
theorem aw_check : checkP awP = (0, 0, 0) := by decide +kernel
theorem aw_size : (match followP awP awF with | .ok F => szP awP awF F | .error _ => 0) = 1 := by decide +kernel
theorem sl_nil {α : Type} {k : Nat} {P : World → List Value → α → Prop} {B : Nat} {w : World} : SlAt k P B w (.slice none 0 0) ([] : List α) := ⟨none, 0, rfl, ⟨by simp, by simp, by unfold maxLen; omega⟩, fun j x hx => by simp at hx⟩
section
variable {w : World}
theorem aw_pg {W : World} {b0 b1 : Nat} (h0 : W.heap[b0]? = some (.cells #[.int .i64 1, .int .i64 5, .int .i64 0, .int .i64 25, .int .i64 0, .int .i64 0, .int .i64 28, .int .i64 0, .int .i64 0] 50 (0, 0))) (h1 : W.heap[b1]? = some (.cells #[.int .i64 0, .slice none 0 0, .slice none 0 0, .slice none 0 0, .slice (some ⟨b0, 0, none⟩) 3 3] 48 (0, 0))) : PgAt W.heap.size W (.slice none 0 0) (.slice (some ⟨b1, 0, none⟩) 1 1) (.slice none 0 0) (.slice none 0 0) awP := by
  refine ⟨sl_nil, ⟨some ⟨b1, 0, none⟩, 1, rfl, ⟨by simp [awP], by simp [awP], by unfold maxLen; omega⟩, fun j x hx => ?_⟩, sl_nil, sl_nil⟩
  match j, hx with
  | 0, hx =>
    cases hx
    refine ⟨b1, 0, [.int .i64 0, .slice none 0 0, .slice none 0 0, .slice none 0 0, .slice (some ⟨b0, 0, none⟩) 3 3], rfl, lt_of_block h1, fun r u hu => ?_, _, _, _, _, rfl, by simp [awF], sl_nil, sl_nil, sl_nil, ⟨some ⟨b0, 0, none⟩, 3, rfl, ⟨by simp [awF], by simp [awF], by unfold maxLen; omega⟩, fun j y hy => ?_⟩⟩
    · rw [Nat.zero_mul, Nat.add_zero, Nat.zero_add]
      exact cell_of h1 (by simpa using hu)
    · match j, hy with
      | 0, hy =>
        cases hy
        refine ⟨b0, 0, [.int .i64 1, .int .i64 5, .int .i64 0], rfl, lt_of_block h0, fun r u hu => ?_, rfl, by simp⟩
        match r, hu with
        | 0, hu => cases hu; exact cell_of h0 rfl
        | 1, hu => cases hu; exact cell_of h0 rfl
        | 2, hu => cases hu; exact cell_of h0 rfl
      | 1, hy =>
        cases hy
        refine ⟨b0, 0, [.int .i64 25, .int .i64 0, .int .i64 0], rfl, lt_of_block h0, fun r u hu => ?_, rfl, by simp⟩
        match r, hu with
        | 0, hu => cases hu; exact cell_of h0 rfl
        | 1, hu => cases hu; exact cell_of h0 rfl
        | 2, hu => cases hu; exact cell_of h0 rfl
      | 2, hy =>
        cases hy
        refine ⟨b0, 0, [.int .i64 28, .int .i64 0, .int .i64 0], rfl, lt_of_block h0, fun r u hu => ?_, rfl, by simp⟩
        match r, hu with
        | 0, hu => cases hu; exact cell_of h0 rfl
        | 1, hu => cases hu; exact cell_of h0 rfl
        | 2, hu => cases hu; exact cell_of h0 rfl
set_option maxRecDepth 100000 in
set_option maxHeartbeats 1000000 in
theorem awake_any (w : World) (hT : Tb w) : Calls Tryd.prog 10 #[] w fun e w' => e = .returned (.bool true) ∧ Below w.heap.size w w' := by
  have h0 : 0 < w.heap.size := World.block_lt_of_cell? w ⟨0, 0, none⟩ (hT 0 (by decide))
  obtain ⟨W1, hW1⟩ : ∃ W1, ((w.alloc (.cells #[.int .i64 1, .int .i64 5, .int .i64 0, .int .i64 25, .int .i64 0, .int .i64 0, .int .i64 28, .int .i64 0, .int .i64 0] 50)).alloc (.cells #[.int .i64 0, .slice none 0 0, .slice none 0 0, .slice none 0 0, .slice (some ⟨w.heap.size, 0, none⟩) 3 3] 48)).alloc (.cells #[.slice none 0 0, .slice (some ⟨w.heap.size + 1, 0, none⟩) 1 1, .slice none 0 0, .slice none 0 0] 27) = W1 := ⟨_, rfl⟩
  have b1 : Below w.heap.size w W1 := by rw [← hW1]; exact (((Below.refl _ _).alloc (Nat.le_refl _) _).alloc (by simp) _).alloc (by simp; omega) _
  have g0 : W1.heap[w.heap.size]? = some (.cells #[.int .i64 1, .int .i64 5, .int .i64 0, .int .i64 25, .int .i64 0, .int .i64 0, .int .i64 28, .int .i64 0, .int .i64 0] 50 (0, 0)) := by rw [← hW1, Below.heap_alloc _ _ _ (by simp; omega), Below.heap_alloc _ _ _ (by simp)]; exact heap_new _ _ rfl
  have g1 : W1.heap[w.heap.size + 1]? = some (.cells #[.int .i64 0, .slice none 0 0, .slice none 0 0, .slice none 0 0, .slice (some ⟨w.heap.size, 0, none⟩) 3 3] 48 (0, 0)) := by rw [← hW1, Below.heap_alloc _ _ _ (by simp)]; exact heap_new _ _ (by simp)
  have g2 : W1.heap[w.heap.size + 1 + 1]? = some (.cells #[.slice none 0 0, .slice (some ⟨w.heap.size + 1, 0, none⟩) 1 1, .slice none 0 0, .slice none 0 0] 27 (0, 0)) := by rw [← hW1]; exact heap_new _ _ (by simp)
  have HCK := hide (check_any (aw_pg g0 g1) (Nat.le_refl _) (hT.keep (b1.block 0 h0)) (Nat.lt_of_lt_of_le h0 b1.size))
  have HSZ := hide (show ∀ W : World, Below W1.heap.size W1 W → Calls Tryd.prog 12 #[.agg #[.slice none 0 0, .slice (some ⟨w.heap.size + 1, 0, none⟩) 1 1, .slice none 0 0, .slice none 0 0], .int .i64 0] W fun e w' => e = .returned (.tuple #[.int .i64 1, .int .i64 0]) ∧ Below W.heap.size W w' from fun W h => by
    have hb := bel_tr b1 h
    refine (size_any (aw_pg ((h.block _ (lt_of_block g0)).trans g0) ((h.block _ (lt_of_block g1)).trans g1)) (Nat.le_refl _) (hT.keep (hb.block 0 h0)) (Nat.lt_of_lt_of_le h0 hb.size) 0).mono ?_
    rintro e w' ⟨hb2, (⟨hc, _⟩ | ⟨_, hi, _⟩ | ⟨k, f, F, _, hk, hf, hF, rfl⟩)⟩
    · rw [aw_check] at hc
      exact absurd rfl hc
    · cases hi
    · have hk0 : k = 0 := by omega
      subst hk0
      cases hf
      have hs := aw_size
      rw [hF] at hs
      have hs2 : szP awP awF F = 1 := hs
      rw [hs2]
      exact ⟨rfl, hb2⟩)
  unfold CkO at HCK
  rw [aw_check] at HCK
  have HB1 := hide b1
  have HBX := hide (show ∀ W : World, Below W1.heap.size W1 W → W.cell? ⟨w.heap.size + 1 + 1, 0, none⟩ = some (.slice none 0 0) ∧ W.cell? ⟨w.heap.size + 1 + 1, 1, none⟩ = some (.slice (some ⟨w.heap.size + 1, 0, none⟩) 1 1) ∧ W.cell? ⟨w.heap.size + 1 + 1, 2, none⟩ = some (.slice none 0 0) ∧ W.cell? ⟨w.heap.size + 1 + 1, 3, none⟩ = some (.slice none 0 0) ∧ w.heap.size + 1 + 1 < W.heap.size from fun W h => by
    have h1 := (h.block _ (lt_of_block g2)).trans g2
    exact ⟨cell_of h1 rfl, cell_of h1 rfl, cell_of h1 rfl, cell_of h1 rfl, lt_of_block h1⟩)
  obtain ⟨k0, k1, k2, k3, k4⟩ := HBX.out W1 (Below.refl _ _)
  clear b1 g0 g1 g2 hT h0
  have HW1 := hide hW1
  clear hW1
  go_enter Tryd.func10, Tryd.ntmps10
  go_upto_region 2 with (fail)
  rw [HW1.out]
  go_wp2_with fail
  refine HCK.out.mono ?_
  rintro e w2 ⟨rfl, hb2⟩
  have HB2 := hide hb2
  clear hb2 k0 k1 k2 k3 k4
  obtain ⟨k0, k1, k2, k3, k4⟩ := HBX.out w2 HB2.out
  go_wp2_with fail
  refine (HSZ.out w2 HB2.out).mono ?_
  rintro e w3 ⟨rfl, hb3⟩
  have HB3 := hide (bel_tr HB1.out (bel_tr HB2.out hb3))
  clear hb3 k0 k1 k2 k3 k4
  go_wp2
  go_ret
  exact ⟨rfl, HB3.out⟩
end
end Go.Proofs.YtefdilakpggggaaDoor

namespace Go.Proofs.YtefdilakpggggaaDoor
structure Ext (p q : Pg) : Prop where
  ty : ∀ (t : Nat) (l : List Int), p.ty[t]? = some l → q.ty[t]? = some l
  tl : p.ty.length ≤ q.ty.length
  fu : ∀ (m : Nat) (g : Fd), p.fu[m]? = some g → ∃ g', q.fu[m]? = some g' ∧ parK g' = parK g ∧ g'.re = g.re
  fl : p.fu.length ≤ q.fu.length
  ta : ∀ (t : Nat) (l : List Int), p.ta[t]? = some l → q.ta[t]? = some l
  al : p.ta.length ≤ q.ta.length
  sl : p.st.length ≤ q.st.length
structure ExF (f g : Fd) : Prop where
  lo : ∀ (k : Nat) (x : Int), f.lo[k]? = some x → g.lo[k]? = some x
  ll : f.lo.length ≤ g.lo.length
  ar : ∀ (k : Nat) (x : Int), f.ar[k]? = some x → g.ar[k]? = some x
  al : f.ar.length ≤ g.ar.length
  re : g.re = f.re
  co : ∀ (k : Nat) (i : In3), f.co[k]? = some i → g.co[k]? = some i
  cl : f.co.length ≤ g.co.length
section
variable {p q : Pg} {f g : Fd} {i : In3}
theorem in_mono {x : Int} {m n : Nat} (h : inB x m = true) (hm : m ≤ n) : inB x n = true := by
  simp only [inB, decide_eq_true_eq] at h ⊢
  omega
theorem kb_mono {m n : Nat} {k : Int} (h : isKB m k = true) (hm : m ≤ n) : isKB n k = true := by
  unfold isKB at h ⊢
  rw [decide_eq_true_eq] at h ⊢
  omega
theorem free_mono {m n : Nat} {k : Int} (h : freeB m k = true) (hm : m ≤ n) : freeB n k = true := by
  unfold freeB at h ⊢
  rw [Bool.and_eq_true] at h ⊢
  exact ⟨kb_mono h.1 hm, h.2⟩
theorem only_ext (X : Ext p q) {t k : Int} (h : onlyB p t k = true) : onlyB q t k = true := by
  unfold onlyB at h ⊢
  rw [decide_eq_true_eq] at h ⊢
  exact X.ty _ _ h
theorem names_ext (X : Ext p q) (Y : ExF f g) (h : namesB p f i = true) : namesB q g i = true := by
  unfold namesB at h ⊢
  by_cases h1 : i.o = 2
  · rw [if_pos h1, Bool.and_eq_true] at h ⊢
    exact ⟨h.1, kb_mono h.2 X.tl⟩
  rw [if_neg h1] at h ⊢
  by_cases h2 : i.o = 3 ∨ i.o = 4
  · rw [if_pos h2] at h ⊢; exact in_mono h Y.ll
  rw [if_neg h2] at h ⊢
  by_cases h3 : i.o = 7
  · rw [if_pos h3] at h ⊢; exact h
  rw [if_neg h3] at h ⊢
  by_cases h4 : i.o = 11 ∨ i.o = 12 ∨ i.o = 21
  · rw [if_pos h4] at h ⊢; exact in_mono h X.tl
  rw [if_neg h4] at h ⊢
  by_cases h5 : i.o = 13
  · rw [if_pos h5] at h ⊢; exact in_mono h Y.al
  rw [if_neg h5] at h ⊢
  by_cases h6 : i.o = 16
  · rw [if_pos h6] at h ⊢; exact in_mono h X.tl
  rw [if_neg h6] at h ⊢
  by_cases h7 : i.o = 22
  · rw [if_pos h7] at h ⊢; exact in_mono h X.fl
  rw [if_neg h7] at h ⊢
  by_cases h8 : i.o = 23
  · rw [if_pos h8] at h ⊢; exact in_mono h X.al
  rw [if_neg h8] at h ⊢
  by_cases h9 : i.o = 29
  · rw [if_pos h9] at h ⊢
    simp only [Bool.and_eq_true] at h ⊢
    exact ⟨⟨in_mono h.1.1 X.sl, in_mono h.1.2 X.tl⟩, only_ext X h.2⟩
  rw [if_neg h9]
theorem call_ext (X : Ext p q) {a : Int} (h : inB a p.fu.length = true) : parK (callP q a) = parK (callP p a) ∧ (callP q a).re = (callP p a).re := by
  obtain ⟨m, rfl, hm⟩ := in_nat h
  obtain ⟨g, hg⟩ : ∃ g, p.fu[m]? = some g := ⟨p.fu[m], by simp⟩
  obtain ⟨g', h1, h2, h3⟩ := X.fu m g hg
  rw [call_at hg, call_at h1]
  exact ⟨h2, h3⟩
theorem item_ext (X : Ext p q) (H : Hok p) {a : Int} (h : inB a p.ta.length = true) : parK (itemP q a) = parK (itemP p a) ∧ (itemP q a).re = (itemP p a).re := by
  obtain ⟨t, rfl, ht⟩ := in_nat h
  obtain ⟨tb, m0, g, h1, h2, h3, h4⟩ := table_at H ht
  obtain ⟨g', e1, e2, e3⟩ := X.fu m0 g h3
  have : itemP q (t : Int) = g' := by
    unfold itemP
    rw [Int.toNat_natCast, X.ta t tb h1, Option.getD_some, h2, Option.getD_some, Int.toNat_natCast, e1]
    rfl
  rw [h4, this]
  exact ⟨e2, e3⟩
theorem nm_22 (h : namesB p f i = true) (ho : i.o = 22) : inB i.a p.fu.length = true := by
  unfold namesB at h
  rw [if_neg (by omega), if_neg (by omega), if_neg (by omega), if_neg (by omega), if_neg (by omega), if_neg (by omega), if_pos ho] at h
  exact h
theorem nm_23 (h : namesB p f i = true) (ho : i.o = 23) : inB i.a p.ta.length = true := by
  unfold namesB at h
  rw [if_neg (by omega), if_neg (by omega), if_neg (by omega), if_neg (by omega), if_neg (by omega), if_neg (by omega), if_neg (by omega), if_pos ho] at h
  exact h
theorem nm_lo (h : namesB p f i = true) (ho : i.o = 3 ∨ i.o = 4) : inB i.a f.lo.length = true := by
  unfold namesB at h
  rw [if_neg (by omega), if_pos ho] at h
  exact h
theorem nm_ar (h : namesB p f i = true) (ho : i.o = 13) : inB i.a f.ar.length = true := by
  unfold namesB at h
  rw [if_neg (by omega), if_neg (by omega), if_neg (by omega), if_neg (by omega), if_pos ho] at h
  exact h
theorem get_ext {l m : List Int} (hx : ∀ (k : Nat) (x : Int), l[k]? = some x → m[k]? = some x) {a : Int} (h : inB a l.length = true) : (m[a.toNat]?).getD 0 = (l[a.toNat]?).getD 0 := by
  obtain ⟨k, rfl, hk⟩ := in_nat h
  obtain ⟨x, h1⟩ : ∃ x, l[k]? = some x := ⟨l[k], by simp⟩
  rw [Int.toNat_natCast, h1, hx k x h1]
theorem takes_ext (X : Ext p q) (Y : ExF f g) (H : Hok p) (h : namesB p f i = true) : takesP q g i = takesP p f i := by
  unfold takesP
  by_cases h1 : i.o = 4
  · rw [if_pos h1, if_pos h1, get_ext Y.lo (nm_lo h (.inr h1))]
  rw [if_neg h1, if_neg h1]
  by_cases h2 : i.o = 22
  · obtain ⟨e1, _⟩ := call_ext X (nm_22 h h2)
    simp only [h2, e1]
    rfl
  by_cases h3 : i.o = 23
  · obtain ⟨e1, _⟩ := item_ext X H (nm_23 h h3)
    simp only [h3, e1]
    rfl
  simp only [h2, h3, if_false, Y.re]
theorem field_ext (X : Ext p q) {k a v : Int} (h : fieldP p k a = some v) : fieldP q k a = some v := by
  unfold fieldP at h ⊢
  dsimp only at h ⊢
  cases ht : p.ty[((bareK k - 2) / 2).toNat]? with
  | none =>
    rw [ht] at h
    simp [inB] at h
  | some l =>
    rw [ht] at h
    rw [X.ty _ _ ht]
    exact h
theorem puts_ext (X : Ext p q) (Y : ExF f g) (H : Hok p) (h : namesB p f i = true) {top low : Int} {l : List Int} (hp : putsP p f i top low = .ok l) : putsP q g i top low = .ok l := by
  unfold putsP at hp ⊢
  by_cases h1 : i.o = 1 ∨ i.o = 7 ∨ i.o = 8 ∨ i.o = 18 ∨ i.o = 20
  · rw [if_pos h1] at hp ⊢; exact hp
  rw [if_neg h1] at hp ⊢
  by_cases h2 : i.o = 2
  · rw [if_pos h2] at hp ⊢; exact hp
  rw [if_neg h2] at hp ⊢
  by_cases h3 : i.o = 3
  · rw [if_pos h3] at hp ⊢
    rw [get_ext Y.lo (nm_lo h (.inl h3))]
    exact hp
  rw [if_neg h3] at hp ⊢
  by_cases h4 : i.o = 6
  · rw [if_pos h4] at hp ⊢; exact hp
  rw [if_neg h4] at hp ⊢
  by_cases h5 : i.o = 11 ∨ i.o = 21
  · rw [if_pos h5] at hp ⊢; exact hp
  rw [if_neg h5] at hp ⊢
  by_cases h6 : i.o = 12
  · rw [if_pos h6] at hp ⊢; exact hp
  rw [if_neg h6] at hp ⊢
  by_cases h7 : i.o = 13
  · rw [if_pos h7] at hp ⊢
    rw [get_ext Y.ar (nm_ar h h7)]
    exact hp
  rw [if_neg h7] at hp ⊢
  by_cases h8 : i.o = 14
  · rw [if_pos h8] at hp ⊢
    cases hf : fieldP p low i.a with
    | none => rw [hf] at hp; cases hp
    | some k => rw [hf] at hp; rw [field_ext X hf]; exact hp
  rw [if_neg h8] at hp ⊢
  by_cases h9 : i.o = 15
  · rw [if_pos h9] at hp ⊢
    cases hf : fieldP p low i.a with
    | none => rw [hf] at hp; cases hp
    | some k => rw [hf] at hp; rw [field_ext X hf]; exact hp
  rw [if_neg h9] at hp ⊢
  by_cases h10 : i.o = 16
  · rw [if_pos h10] at hp ⊢
    cases hf : fieldP p low i.a with
    | none => rw [hf] at hp; cases hp
    | some k =>
      rw [hf] at hp
      rw [field_ext X hf]
      dsimp only at hp ⊢
      split at hp
      · rename_i ho
        rw [if_pos (only_ext X ho)]
        exact hp
      · cases hp
  rw [if_neg h10] at hp ⊢
  by_cases h11 : i.o = 17
  · rw [if_pos h11] at hp ⊢; exact hp
  rw [if_neg h11] at hp ⊢
  by_cases h12 : i.o = 19
  · rw [if_pos h12] at hp ⊢; exact hp
  rw [if_neg h12] at hp ⊢
  by_cases h13 : i.o = 22
  · rw [if_pos h13] at hp ⊢
    rw [(call_ext X (nm_22 h h13)).2]
    exact hp
  rw [if_neg h13] at hp ⊢
  by_cases h14 : i.o = 23
  · rw [if_pos h14] at hp ⊢
    rw [(item_ext X H (nm_23 h h14)).2]
    exact hp
  rw [if_neg h14] at hp ⊢
  exact hp
theorem look_ext (X : Ext p q) (Y : ExF f g) (H : Hok p) {x : Nat} {s : List Int} {r : List Int × List Int} (h : lookP p f x i s = .ok r) : lookP q g x i s = .ok r := by
  unfold lookP at h ⊢
  dsimp only at h ⊢
  split at h
  · cases h
  · rename_i h1
    rw [Bool.not_eq_false] at h1
    rw [takes_ext X Y H h1, if_neg (by rw [names_ext X Y h1]; simp)]
    split at h
    · cases h
    · rename_i h2
      rw [if_neg h2]
      split at h
      · cases h
      · rename_i h3
        rw [if_neg h3]
        split at h
        · cases h
        · rename_i l h4
          rw [puts_ext X Y H h1 h4]
          dsimp only
          split at h
          · rename_i h5
            rw [if_pos (List.all_eq_true.mpr fun y hy => in_mono (List.all_eq_true.mp h5 y hy) Y.cl)]
            exact h
          · cases h
/-- As before, with room behind it. -/
structure Pad (m : Nat) (F G : Fl) : Prop where
  ah : G.ah = F.ah ++ List.replicate m none
  wt : G.wt = F.wt ++ List.replicate m false
  mo : G.mo = F.mo
theorem least_pad : ∀ (l : List Bool) (m : Nat), leastP (l ++ List.replicate m false) = leastP l
  | [], m => by
    rw [List.nil_append]
    refine least_none fun k => ?_
    rw [List.getElem?_replicate]
    split <;> rfl
  | true :: r, m => rfl
  | false :: r, m => by
    rw [List.cons_append]
    unfold leastP
    rw [least_pad r m]
theorem come_pad {m x : Nat} {s : List Int} {F F' G : Fl} (hP : Pad m F F') (hx : x < F.ah.length) (hw : x < F.wt.length) (h : comeP F x s = .ok G) : ∃ G', comeP F' x s = .ok G' ∧ Pad m G G' := by
  unfold comeP at h ⊢
  rw [hP.ah, List.getElem?_append_left hx]
  split at h
  · cases h
    refine ⟨_, rfl, ?_, ?_, hP.mo⟩
    · dsimp only
      rw [List.set_append_left _ _ hx]
    · dsimp only
      rw [hP.wt, List.set_append_left _ _ hw]
  · split at h
    · rename_i ht
      cases h
      rw [if_pos ht]
      exact ⟨F', rfl, hP⟩
    · cases h
theorem comes_pad {m k : Nat} {s : List Int} : ∀ {l : List Int} {F F' G : Fl}, Pad m F F' → FInv p f k F → (∀ y ∈ l, inB y f.co.length = true) → (∀ k ∈ s, isKB p.ty.length k = true) → s.length ≤ 4096 * k → comesP s l F = .ok G → ∃ G', comesP s l F' = .ok G' ∧ Pad m G G'
  | [], F, F', G, hP, _, _, _, _, h => by cases h; exact ⟨F', rfl, hP⟩
  | y :: r, F, F', G, hP, I, hy, hk, hl, h => by
    unfold comesP at h ⊢
    obtain ⟨n, rfl, hn⟩ := in_nat (hy y (by simp))
    rw [Int.toNat_natCast] at h ⊢
    cases hc : comeP F n s with
    | error e => rw [hc] at h; cases h
    | ok G1 =>
      rw [hc] at h
      obtain ⟨G2, c1, c2⟩ := come_pad hP (by rw [I.la]; exact hn) (by rw [I.lw]; exact hn) hc
      rw [c1]
      exact comes_pad c2 (come_inv hc I hn hk hl).1 (fun z hz => hy z (by simp [hz])) hk hl h
theorem run_pad {m : Nat} (X : Ext p q) (Y : ExF f g) (H : Hok p) (hf : FdOk p f) : ∀ {n k n' : Nat} {F F' G : Fl}, n ≤ n' → FInv p f k F → Pad m F F' → MM F < n → runP p f n F = .ok G → ∃ G', runP q g n' F' = .ok G' ∧ Pad m G G'
  | 0, k, n', F, F', G, _, _, _, hm, _ => by omega
  | n + 1, k, n', F, F', G, hn, I, hP, hm, h => by
    obtain ⟨n2, rfl⟩ : ∃ n2, n' = n2 + 1 := ⟨n' - 1, by omega⟩
    have hl : leastP F'.wt = leastP F.wt := by rw [hP.wt]; exact least_pad _ _
    cases hw : leastP F.wt with
    | none =>
      rw [run_none hw] at h
      cases h
      exact ⟨F', run_none (hl.trans hw), hP⟩
    | some x =>
      rw [run_some hw] at h
      rw [run_some (hl.trans hw)]
      cases hs : stepP p f x F with
      | error e => rw [hs] at h; cases h
      | ok G1 =>
        rw [hs] at h
        have hw2 := least_inv hw
        have hxw : x < F.wt.length := by
          rcases Nat.lt_or_ge x F.wt.length with h1 | h1
          · exact h1
          · rw [List.getElem?_eq_none h1] at hw2; cases hw2
        obtain ⟨t, ht⟩ := I.wa x hw2
        obtain ⟨t1, t2⟩ := I.st x t ht
        have hxa := get_lt ht
        obtain ⟨i, hi⟩ : ∃ i, f.co[x]? = some i := ⟨f.co[x]'(by rw [← I.lw]; exact hxw), by simp⟩
        obtain ⟨J, mj⟩ := step_inv H hf I hw hs
        have hst : ∃ G2, stepP q g x F' = .ok G2 ∧ Pad m G1 G2 := by
          unfold stepP at hs ⊢
          rw [hP.ah, List.getElem?_append_left hxa, ht, Option.getD_some, Option.getD_some, Y.co x i hi, Option.getD_some]
          rw [ht, Option.getD_some, Option.getD_some, hi, Option.getD_some] at hs
          cases hlk : lookP p f x i t with
          | error e => rw [hlk] at hs; cases hs
          | ok bn =>
            obtain ⟨b, ns⟩ := bn
            rw [hlk] at hs
            rw [look_ext X Y H hlk]
            dsimp only at hs ⊢
            obtain ⟨l1, l2, l3⟩ := look_kb H hf t1 hlk
            refine comes_pad (k := k + 1) (F := { F with wt := F.wt.set x false, mo := max F.mo b.length }) ⟨rfl, ?_, ?_⟩ ?_ l3 l1 (by omega) hs
            · dsimp only
              rw [hP.wt, List.set_append_left _ _ hxw]
            · dsimp only
              rw [hP.mo]
            · refine ⟨I.la, by simp [I.lw], fun y t ht => ?_, ?_, fun y hy => ?_⟩
              · obtain ⟨u1, u2⟩ := I.st y t ht
                exact ⟨u1, by omega⟩
              · dsimp only
                have := I.mo
                omega
              · dsimp only at hy ⊢
                by_cases hxy : x = y
                · subst hxy
                  rw [List.getElem?_set_self hxw] at hy
                  cases hy
                · rw [List.getElem?_set_ne hxy] at hy
                  exact I.wa y hy
        obtain ⟨G2, g1, g2⟩ := hst
        rw [g1]
        exact run_pad X Y H hf (by omega) J g2 (by omega) h
/-- The way through a function, in a program that has more. -/
theorem follow_ext (X : Ext p q) (Y : ExF f g) (H : Hok p) (hf : FdOk p f) {F : Fl} (h : followP p f = .ok F) : ∃ G, followP q g = .ok G ∧ Pad (g.co.length - f.co.length) F G := by
  obtain ⟨I, hm⟩ := fl0_inv (p := p) hf.co
  have hP : Pad (g.co.length - f.co.length) (fl0 f.co.length) (fl0 g.co.length) := by
    have hg : g.co.length = f.co.length + (g.co.length - f.co.length) := by have := Y.cl; omega
    generalize g.co.length - f.co.length = d at hg
    rw [hg]
    unfold fl0
    refine ⟨?_, ?_, rfl⟩
    · dsimp only
      rw [← List.replicate_append_replicate, List.set_append_left _ _ (by simpa using hf.co)]
    · dsimp only
      rw [← List.replicate_append_replicate, List.set_append_left _ _ (by simpa using hf.co)]
  exact run_pad X Y H hf (by have := Y.cl; omega) I hP (by rw [hm]; omega) h
end
end Go.Proofs.YtefdilakpggggaaDoor

namespace Go.Proofs.YtefdilakpggggaaDoor
def moF : Fd := ⟨0, [], [], [], [⟨24, 0, 0⟩]⟩
def moS : By := [109, 111, 114, 101]
def addQ (p : Pg) : Pg := ⟨p.ty ++ [[2]], p.fu ++ [moF], p.ta ++ [[(p.fu.length : Int)]], p.st ++ [moS]⟩
section
variable {p : Pg}
theorem add_ext : Ext p (addQ p) :=
  ⟨fun t l h => by unfold addQ; dsimp only; rw [List.getElem?_append_left (get_lt h)]; exact h, by simp [addQ], fun m g h => ⟨g, by unfold addQ; dsimp only; rw [List.getElem?_append_left (get_lt h)]; exact h, rfl, rfl⟩, by simp [addQ], fun t l h => by unfold addQ; dsimp only; rw [List.getElem?_append_left (get_lt h)]; exact h, by simp [addQ], by simp [addQ]⟩
theorem exf_refl (f : Fd) : ExF f f := ⟨fun _ _ h => h, Nat.le_refl _, fun _ _ h => h, Nat.le_refl _, rfl, fun _ _ h => h, Nat.le_refl _⟩
theorem each_app {α : Type} {m : Nat} {s : α → Bool} {l : List α} {x : α} (h : eachB m s l = true) (hl : l.length + 1 ≤ m) (hx : s x = true) : eachB m s (l ++ [x]) = true := by
  obtain ⟨_, h2⟩ := eachB_le h
  unfold eachB
  rw [Bool.and_eq_true, decide_eq_true_eq, List.all_eq_true]
  refine ⟨by simpa using hl, fun y hy => ?_⟩
  rw [List.mem_append] at hy
  rcases hy with hy | hy
  · exact h2 y hy
  · simp at hy
    subst hy
    exact hx
theorem add_snd (h : sndP p = true) (h1 : p.ty.length ≤ 900) (h2 : p.fu.length ≤ 900) (h3 : p.st.length ≤ 900) (h4 : p.ta.length ≤ 900) : sndP (addQ p) = true := by
  simp only [sndP, Bool.and_eq_true] at h ⊢
  exact ⟨each_app h.1 (by omega) (by decide), each_app h.2.1 (by omega) (by decide), each_app h.2.2.1 (by omega) rfl, each_app h.2.2.2 (by omega) (by decide)⟩
theorem head_mono {m n : Nat} {f : Fd} (h : headB m f = true) (hm : m ≤ n) : headB n f = true := by
  simp only [headB, Bool.and_eq_true, List.all_eq_true, decide_eq_true_eq] at h ⊢
  exact ⟨⟨⟨fun k hk => kb_mono (h.1.1.1 k hk) hm, fun t ht => in_mono (h.1.1.2 t ht) hm⟩, fun k hk => free_mono (h.1.2 k hk) hm⟩, h.2⟩
theorem firstBad_none_iff {p : Pg} : ∀ {i : Nat} {l : List Fd}, firstBad p i l = none ↔ ∀ (k : Nat) (f : Fd), l[k]? = some f → headB p.ty.length f = true ∧ (0 < i + k ∨ (f.pa = 0 ∧ f.re = []))
  | i, [] => by simp [firstBad]
  | i, g :: r => by
    unfold firstBad
    constructor
    · intro h k f hk
      split at h
      · rename_i hc
        cases k with
        | zero => cases hk; exact ⟨hc.1, by rw [Nat.add_zero]; exact hc.2⟩
        | succ k =>
          have := (firstBad_none_iff.mp h) k f hk
          rw [Nat.add_assoc, Nat.add_comm 1 k] at this
          exact this
      · cases h
    · intro h
      have h0 := h 0 g rfl
      rw [Nat.add_zero] at h0
      rw [if_pos h0]
      refine firstBad_none_iff.mpr fun k f hk => ?_
      have := h (k + 1) f hk
      rw [Nat.add_assoc, Nat.add_comm 1 k]
      exact this
theorem heads_none : headsP p = none ↔ (∀ l ∈ p.ty, 0 < l.length ∧ ∀ k ∈ l, freeB p.ty.length k = true) ∧ firstBad p 0 p.fu = none ∧ (∀ t ∈ p.ta, tableB p t = true) ∧ 0 < p.fu.length := by
  unfold headsP
  constructor
  · intro h
    split at h
    · cases h
    · rename_i h1
      rw [Bool.not_eq_false, List.all_eq_true] at h1
      split at h
      · cases h
      · rename_i h2
        split at h
        · rename_i h3
          rw [Bool.and_eq_true, List.all_eq_true, decide_eq_true_eq] at h3
          exact ⟨fun l hl => by have := h1 l hl; rw [Bool.and_eq_true, decide_eq_true_eq, List.all_eq_true] at this; exact this, h2, h3.1, h3.2⟩
        · cases h
  · rintro ⟨h1, h2, h3, h4⟩
    rw [if_neg (by rw [Bool.not_eq_false, List.all_eq_true]; intro l hl; rw [Bool.and_eq_true, decide_eq_true_eq, List.all_eq_true]; exact h1 l hl), h2]
    dsimp only
    rw [if_pos (by rw [Bool.and_eq_true, List.all_eq_true, decide_eq_true_eq]; exact ⟨h3, h4⟩)]
/-- A table stays right. -/
theorem table_ext {q : Pg} (X : Ext p q) {t : List Int} (h : tableB p t = true) : tableB q t = true := by
  unfold tableB at h ⊢
  rw [Bool.and_eq_true, List.all_eq_true] at h ⊢
  refine ⟨h.1, fun x hx => ?_⟩
  have hx2 := h.2 x hx
  simp only [Bool.and_eq_true, decide_eq_true_eq] at hx2 ⊢
  have h0 : inB ((t[0]?).getD 0) p.fu.length = true := by
    have hl : 0 < t.length := of_decide_eq_true h.1
    have := h.2 t[0] (List.getElem_mem hl)
    rw [List.getElem?_eq_getElem hl, Option.getD_some]
    simp only [Bool.and_eq_true] at this
    exact this.1.1
  obtain ⟨a1, a2⟩ := call_ext X h0
  obtain ⟨b1, b2⟩ := call_ext X hx2.1.1
  rw [a1, a2, b1, b2]
  exact ⟨⟨in_mono hx2.1.1 X.fl, hx2.1.2⟩, hx2.2⟩
theorem add_heads (h : headsP p = none) : headsP (addQ p) = none := by
  obtain ⟨h1, h2, h3, h4⟩ := heads_none.mp h
  rw [heads_none]
  refine ⟨fun l hl => ?_, ?_, fun t ht => ?_, by simp [addQ]⟩
  · have hn : (addQ p).ty.length = p.ty.length + 1 := by simp [addQ]
    have hl2 : l ∈ p.ty ++ [[2]] := hl
    rw [List.mem_append] at hl2
    rcases hl2 with hl2 | hl2
    · exact ⟨(h1 l hl2).1, fun k hk => free_mono ((h1 l hl2).2 k hk) (by omega)⟩
    · simp at hl2
      subst hl2
      refine ⟨by simp, fun k hk => ?_⟩
      simp at hk
      subst hk
      rw [hn]
      unfold freeB isKB bareK
      rw [if_neg (by decide)]
      simp
      omega
  · rw [firstBad_none_iff] at h2 ⊢
    intro k f hk
    have hk2 : (p.fu ++ [moF])[k]? = some f := hk
    rcases Nat.lt_or_ge k p.fu.length with hlt | hge
    · rw [List.getElem?_append_left hlt] at hk2
      obtain ⟨e1, e2⟩ := h2 k f hk2
      exact ⟨head_mono e1 (by simp [addQ]), e2⟩
    · rw [List.getElem?_append_right hge] at hk2
      have : f = moF := by
        have hk3 : k - p.fu.length = 0 := by have := get_lt hk2; simp at this; omega
        rw [hk3] at hk2
        cases hk2
        rfl
      subst this
      exact ⟨rfl, .inr ⟨rfl, rfl⟩⟩
  · have ht2 : t ∈ p.ta ++ [[(p.fu.length : Int)]] := ht
    rw [List.mem_append] at ht2
    rcases ht2 with ht2 | ht2
    · exact table_ext add_ext (h3 t ht2)
    · simp at ht2
      subst ht2
      unfold tableB
      simp [inB, addQ]
      omega
theorem add_moF : ∃ F, followP (addQ p) moF = .ok F := by
  refine ⟨⟨[some []], [false], 0⟩, ?_⟩
  rfl
theorem add_check (h : (checkP p).2.2 = 0) (h1 : p.ty.length ≤ 900) (h2 : p.fu.length ≤ 900) (h3 : p.st.length ≤ 900) (h4 : p.ta.length ≤ 900) : checkP p = (0, 0, 0) ∧ checkP (addQ p) = (0, 0, 0) := by
  obtain ⟨c1, c2, c3, c4⟩ := check_ok h
  refine ⟨c1, ok_check (add_snd c2 h1 h2 h3 h4) (add_heads c3) fun f hf => ?_⟩
  have H := hok_of c2 c3
  have hf2 : f ∈ p.fu ++ [moF] := hf
  rw [List.mem_append] at hf2
  rcases hf2 with hf2 | hf2
  · obtain ⟨F, hF⟩ := c4 f hf2
    obtain ⟨G, hG, _⟩ := follow_ext add_ext (exf_refl f) H (H.fu f hf2) hF
    exact ⟨G, hG⟩
  · simp at hf2
    subst hf2
    exact add_moF
end
end Go.Proofs.YtefdilakpggggaaDoor

namespace Go.Proofs.YtefdilakpggggaaDoor
open Go.RowKit
/-- Lists of k cells, one behind the other. -/
theorem flat_get {k : Nat} : ∀ {css : List (List Value)}, (∀ c ∈ css, c.length = k) → css.flatten.length = css.length * k ∧ ∀ (j : Nat) (c : List Value) (r : Nat) (u : Value), css[j]? = some c → c[r]? = some u → css.flatten[j * k + r]? = some u
  | [], _ => ⟨by simp, fun j c r u h => by simp at h⟩
  | a :: t, h => by
    have ha := h a (by simp)
    obtain ⟨ih1, ih2⟩ := flat_get (css := t) (fun c hc => h c (by simp [hc]))
    refine ⟨by rw [List.flatten_cons, List.length_append, ih1, ha, List.length_cons, Nat.succ_mul, Nat.add_comm], fun j c r u hj hr => ?_⟩
    rw [List.flatten_cons]
    cases j with
    | zero =>
      cases hj
      rw [Nat.zero_mul, Nat.zero_add, List.getElem?_append_left (get_lt hr)]
      exact hr
    | succ j =>
      have hj2 : t[j]? = some c := hj
      rw [List.getElem?_append_right (by rw [ha, Nat.succ_mul]; omega), ha, show (j + 1) * k + r - k = j * k + r by rw [Nat.succ_mul]; omega]
      exact ih2 j c r u hj2 hr
theorem flat_inv {k : Nat} (hk : 0 < k) : ∀ {css : List (List Value)}, (∀ c ∈ css, c.length = k) → ∀ (n : Nat) (u : Value), css.flatten[n]? = some u → ∃ c, css[n / k]? = some c ∧ c[n % k]? = some u
  | [], _, n, u, h => by simp at h
  | a :: t, h, n, u, hn => by
    have ha := h a (by simp)
    rw [List.flatten_cons] at hn
    rcases Nat.lt_or_ge n k with hlt | hge
    · rw [List.getElem?_append_left (by omega)] at hn
      exact ⟨a, by rw [Nat.div_eq_of_lt hlt]; rfl, by rw [Nat.mod_eq_of_lt hlt]; exact hn⟩
    · rw [List.getElem?_append_right (by omega), ha] at hn
      obtain ⟨c, h1, h2⟩ := flat_inv hk (fun c hc => h c (by simp [hc])) (n - k) u hn
      refine ⟨c, ?_, ?_⟩
      · rw [Nat.div_eq_sub_div hk hge]; exact h1
      · rw [Nat.mod_eq_sub_mod hge]; exact h2
section
variable {α : Type} {k B : Nat} {P : World → List Value → α → Prop} {w w' : World}
/-- The cells of a list that lies. -/
theorem sl_css {v : Value} {l : List α} (R : SlAt k P B w v l) (hk : ∀ cs x, P w cs x → cs.length = k) : ∃ css : List (List Value), css.length = l.length ∧ (∀ c ∈ css, c.length = k) ∧ (∀ (j : Nat) (x : α), l[j]? = some x → ∃ c, css[j]? = some c ∧ P w c x) ∧ ∃ ao cap, v = .slice ao l.length cap ∧ (0 < l.length → ∃ g o, ao = some ⟨g, o, none⟩ ∧ g < B ∧ ∀ (j : Nat) (c : List Value) (r : Nat) (u : Value), css[j]? = some c → c[r]? = some u → w.cell? ⟨g, o + j * k + r, none⟩ = some u) := by
  obtain ⟨ao, cap, hv, _, hel⟩ := R
  have key : ∀ n, n ≤ l.length → ∃ css : List (List Value), css.length = n ∧ (∀ c ∈ css, c.length = k) ∧ (∀ (j : Nat) (x : α), j < n → l[j]? = some x → ∃ c, css[j]? = some c ∧ P w c x ∧ ∃ g o, ao = some ⟨g, o, none⟩ ∧ g < B ∧ ∀ (r : Nat) (u : Value), c[r]? = some u → w.cell? ⟨g, o + j * k + r, none⟩ = some u) := by
    intro n
    induction n with
    | zero => intro _; exact ⟨[], rfl, fun c hc => (by cases hc), fun j x hj => by omega⟩
    | succ n ih =>
      intro hn
      obtain ⟨css, h1, h2, h3⟩ := ih (by omega)
      obtain ⟨x, hx⟩ : ∃ x, l[n]? = some x := ⟨l[n], by simp⟩
      obtain ⟨g, o, cs, e1, e2, e3, e4⟩ := hel n x hx
      refine ⟨css ++ [cs], by simp [h1], fun c hc => ?_, fun j y hj hy => ?_⟩
      · rw [List.mem_append] at hc
        rcases hc with hc | hc
        · exact h2 c hc
        · simp at hc; subst hc; exact hk _ _ e4
      · rcases Nat.lt_or_ge j n with hlt | hge
        · obtain ⟨c, c1, c2⟩ := h3 j y hlt hy
          exact ⟨c, by rw [List.getElem?_append_left (by omega)]; exact c1, c2⟩
        · obtain rfl : j = n := by omega
          rw [hx] at hy
          cases hy
          exact ⟨cs, by rw [List.getElem?_append_right (by omega), h1]; simp, e4, g, o, e1, e2, e3⟩
  obtain ⟨css, h1, h2, h3⟩ := key l.length (Nat.le_refl _)
  refine ⟨css, h1, h2, fun j x hx => ?_, ao, cap, hv, fun hl => ?_⟩
  · obtain ⟨c, c1, c2, _⟩ := h3 j x (get_lt hx) hx
    exact ⟨c, c1, c2⟩
  · obtain ⟨x0, hx0⟩ : ∃ x, l[0]? = some x := ⟨l[0], by simp⟩
    obtain ⟨_, _, _, g, o, e1, e2, _⟩ := h3 0 x0 hl hx0
    refine ⟨g, o, e1, e2, fun j c r u hj hr => ?_⟩
    have hjl : j < l.length := by have := get_lt hj; omega
    obtain ⟨x, hx⟩ : ∃ x, l[j]? = some x := ⟨l[j], by simp⟩
    obtain ⟨c', c1, _, g', o', f1, _, f3⟩ := h3 j x hjl hx
    rw [hj] at c1
    cases c1
    rw [e1] at f1
    cases f1
    exact f3 r u hr
/-- A row of one's own, as a list that lies. -/
theorem row_sl {e : TypeId} {v : Value} {l : List α} {css : List (List Value)} {C : Nat} (h : w.ownsRow C e k v l.length css.flatten) (hk : ∀ c ∈ css, c.length = k) (hl : css.length = l.length) (hP : ∀ (j : Nat) (x : α), l[j]? = some x → ∃ c, css[j]? = some c ∧ P w c x) (hB : w.heap.size ≤ B) (hlen : l.length ≤ 1000000) : SlAt k P B w v l := by
  rcases h.2 with ⟨rfl, h0⟩ | ⟨g, cap, cur, rfl, h1, h2, h3, h4, h5, h6⟩
  · have := List.eq_nil_of_length_eq_zero h0
    subst this
    exact sl_nil
  · refine ⟨_, cap, rfl, ⟨by omega, h3, h4⟩, fun j x hx => ?_⟩
    obtain ⟨c, c1, c2⟩ := hP j x hx
    refine ⟨g, 0, c, rfl, Nat.lt_of_lt_of_le (lt_of_block h2) hB, fun r u hr => cell_of h2 ?_, c2⟩
    have h7 := (flat_get hk).2 j c r u c1 hr
    rw [← h6, List.getElem?_take] at h7
    rw [Nat.zero_add]
    split at h7
    · rw [Array.getElem?_toList] at h7
      exact h7
    · cases h7
theorem run_nil_cap {t ty e : TypeId} {i : TypeInfo} {C n : Nat} {v : Value} {xs : List Value} (ht : Tryd.prog.underlying t = some (.slice e)) (hi : Tryd.prog.info? e = some i) (hown : w.ownsRow C e k v n xs) (c : Nat) : (Builtin.append_ #[t, t] ty #[v, .slice none 0 c]).run Tryd.prog w = .ok v w := by
  rcases hown.2 with ⟨rfl, rfl⟩ | ⟨g, cap, cur, rfl, _, _, hnc, _⟩
  · simp [Builtin.append_, run_underlying ht, sizeOf, typeInfo, hi, Builtin.lenOf, Builtin.firstCells]
  · simp [Builtin.append_, run_underlying ht, sizeOf, typeInfo, hi, Builtin.lenOf, Builtin.firstCells, hnc, storeCells]
/-- All of a list behind an empty one. -/
theorem run_all {t ty e : TypeId} {i : TypeInfo} {z : Value} {bytes C : Nat} (ht : Tryd.prog.underlying t = some (.slice e)) (hi : Tryd.prog.info? e = some i) (hz : i.zero = some z) (hsize : i.size = k) (hby : i.bytes = bytes) (hzs : z.cells.size = k) (hk0 : 0 < k) {v0 v : Value} {l : List α} (R : SlAt k P B w v l) (hk : ∀ cs x, P w cs x → cs.length = k) (h1 : ∀ cs x, P w cs x → ∀ u ∈ cs, u.oneCell' = true) (hlen : l.length ≤ 100000) (hbt : bytes ≤ 1000) (h0 : w.ownsRow C e k v0 0 []) (hC : C ≤ w.heap.size) :
    ∃ (v' : Value) (w' : World) (css : List (List Value)), (Builtin.append_ #[t, t] ty #[v0, v]).run Tryd.prog w = .ok v' w' ∧ w'.ownsRow C e k v' l.length css.flatten ∧ w.grownBy w' v0.ownBlock ∧ (v'.ownBlock = v0.ownBlock ∨ v'.ownBlock = some w.heap.size) ∧ css.length = l.length ∧ (∀ c ∈ css, c.length = k) ∧ ∀ (j : Nat) (x : α), l[j]? = some x → ∃ c, css[j]? = some c ∧ P w c x := by
  obtain ⟨css, c1, c2, c3, ao, cap, rfl, c5⟩ := sl_css R hk
  rcases Nat.eq_zero_or_pos l.length with hl0 | hl0
  · have hl : l = [] := List.eq_nil_of_length_eq_zero hl0
    subst hl
    have hcs : css = [] := List.eq_nil_of_length_eq_zero c1
    subst hcs
    cases ao with
    | none => exact ⟨v0, w, [], run_nil_cap ht hi h0 cap, h0, ⟨rfl, rfl, rfl, Nat.le_refl _, fun _ _ _ => rfl⟩, .inl rfl, rfl, c2, c3⟩
    | some ad =>
      obtain ⟨v', w', hr, ho, hgr, _, hat⟩ := run_append_own_at (P := Tryd.prog) w C t ty e i z k bytes ht hi hz hsize hby hzs hk0 v0 0 [] h0 ad 0 cap [] (by simp) (fun j u h => by simp at h) (fun u h => by cases h) (by unfold maxLen; omega) (by omega) hC
      exact ⟨v', w', [], hr, ho, hgr, hat, rfl, c2, c3⟩
  · obtain ⟨g, o, rfl, hg, hcell⟩ := c5 hl0
    obtain ⟨v', w', hr, ho, hgr, _, hat⟩ := run_append_own_at (P := Tryd.prog) w C t ty e i z k bytes ht hi hz hsize hby hzs hk0 v0 0 [] h0 ⟨g, o, none⟩ l.length cap css.flatten (by rw [(flat_get c2).1, c1]) (fun n u hn => by
        obtain ⟨c, d1, d2⟩ := flat_inv hk0 c2 n u hn
        have := hcell _ c _ u d1 d2
        rw [Nat.add_assoc, Nat.div_add_mod'] at this
        have ha : (⟨g, o, none⟩ : Addr).add n = ⟨g, o + n, none⟩ := by simp [Addr.add]
        rw [ha]
        exact this) (fun u hu => by
        rw [List.mem_flatten] at hu
        obtain ⟨c, hc, huc⟩ := hu
        obtain ⟨j, hj⟩ := List.getElem?_of_mem hc
        obtain ⟨x, hx⟩ : ∃ x, l[j]? = some x := ⟨l[j]'(by have := get_lt hj; omega), by simp⟩
        obtain ⟨c', e1, e2⟩ := c3 j x hx
        rw [hj] at e1
        cases e1
        exact h1 _ _ e2 u huc) (by unfold maxLen; omega) (by
        have : (0 + l.length) * bytes ≤ 100000 * 1000 := Nat.mul_le_mul (by omega) hbt
        omega) hC
    rw [Nat.zero_add] at ho
    exact ⟨v', w', css, hr, by simpa using ho, hgr, hat, c1, c2, c3⟩
end
section
variable {α : Type} {k bE : Nat}
/-- A row of one's own whose items are so. -/
def Rw (bE e k : Nat) (Q : List Value → α → Prop) (W : World) (v : Value) (l : List α) : Prop :=
  ∃ css : List (List Value), W.ownsRow bE e k v l.length css.flatten ∧ css.length = l.length ∧ (∀ c ∈ css, c.length = k) ∧ ∀ (j : Nat) (x : α), l[j]? = some x → ∃ c, css[j]? = some c ∧ Q c x
theorem owns_emp {W : World} {e bE : Nat} (h : W.heap[bE]? = some (.cells #[] e (0, 0))) : W.ownsRow bE e k (.slice (some ⟨bE, 0, none⟩) 0 0) 0 [] :=
  ⟨by simp, .inr ⟨bE, 0, #[], rfl, Nat.le_refl _, h, Nat.le_refl _, by decide, by simp, by simp⟩⟩
theorem own_ge {W : World} {C e n : Nat} {v : Value} {xs : List Value} (h : W.ownsRow C e k v n xs) : ∀ g, v.ownBlock = some g → C ≤ g ∧ g < W.heap.size := by
  intro g hg
  rcases h.2 with ⟨rfl, _⟩ | ⟨g', cap, cur, rfl, h1, h2, _⟩
  · cases hg
  · cases hg
    exact ⟨h1, lt_of_block h2⟩
/-- The first append: all of a list behind an empty one. -/
theorem app_first {P : World → List Value → α → Prop} {t ty e B : Nat} {i : TypeInfo} {z : Value} {bytes : Nat} (ht : Tryd.prog.underlying t = some (.slice e)) (hi : Tryd.prog.info? e = some i) (hz : i.zero = some z) (hsize : i.size = k) (hby : i.bytes = bytes) (hzs : z.cells.size = k) (hk0 : 0 < k) {W5 : World} {v : Value} {l : List α} (R : SlAt k P B W5 v l) (hk : ∀ cs x, P W5 cs x → cs.length = k) (h1 : ∀ cs x, P W5 cs x → ∀ u ∈ cs, u.oneCell' = true) (hlen : l.length ≤ 100000) (hbt : bytes ≤ 1000) (hE : W5.heap[bE]? = some (.cells #[] e (0, 0))) :
    ∃ (v5 : Value) (W6 : World), (Builtin.append_ #[t, t] ty #[.slice (some ⟨bE, 0, none⟩) 0 0, v]).run Tryd.prog W5 = .ok v5 W6 ∧ Rw bE e k (P W5) W6 v5 l ∧ Below bE W5 W6 ∧ (v5.ownBlock = some bE ∨ v5.ownBlock = some W5.heap.size) ∧ ∀ j, j < W5.heap.size → j ≠ bE → W6.heap[j]? = W5.heap[j]? := by
  obtain ⟨v', w', css, r1, r2, r3, r4, r5, r6, r7⟩ := run_all (w := W5) (ty := ty) ht hi hz hsize hby hzs hk0 R hk h1 (by omega) hbt (owns_emp hE) (Nat.le_of_lt (lt_of_block hE))
  refine ⟨v', w', r1, ⟨css, r2, r5, r6, r7⟩, ⟨r3.os, r3.tape, r3.output, r3.size, fun j hj => r3.block j (Nat.lt_trans hj (lt_of_block hE)) ?_⟩, r4, fun j hj hne => r3.block j hj ?_⟩
  · intro h
    have : j = bE := by simpa [Value.ownBlock] using h
    omega
  · intro h
    exact hne (by simpa [Value.ownBlock] using h)
/-- The second append: one more item. -/
theorem app_next {Q : List Value → α → Prop} {t ty e : Nat} {i : TypeInfo} {z : Value} {bytes : Nat} (ht : Tryd.prog.underlying t = some (.slice e)) (hi : Tryd.prog.info? e = some i) (hz : i.zero = some z) (hsize : i.size = k) (hby : i.bytes = bytes) (hzs : z.cells.size = k) (hk0 : 0 < k) {W7 : World} {v : Value} {l : List α} (R : Rw bE e k Q W7 v l) (hlen : l.length ≤ 100000) (hbt : bytes ≤ 1000) (hC : bE ≤ W7.heap.size) {bI : Nat} {cs : Array Value} {fr : Nat × Nat} {te : Nat} (hI : W7.heap[bI]? = some (.cells cs te fr)) (hcs : cs.size = k) (h1 : ∀ u ∈ cs.toList, u.oneCell' = true) (x : α) :
    ∃ a8 c8 W8, (Builtin.append_ #[t, t] ty #[v, .slice (some ⟨bI, 0, none⟩) 1 1]).run Tryd.prog W7 = .ok (.slice a8 (l.length + 1) c8) W8 ∧ Rw bE e k (fun c y => Q c y ∨ (c = cs.toList ∧ y = x)) W8 (.slice a8 (l.length + 1) c8) (l ++ [x]) ∧ W7.grownBy W8 v.ownBlock ∧ ((Value.slice a8 (l.length + 1) c8).ownBlock = v.ownBlock ∨ (Value.slice a8 (l.length + 1) c8).ownBlock = some W7.heap.size) := by
  obtain ⟨css, d1, d2, d3, d4⟩ := R
  obtain ⟨v', w', r1, r2, r3, _, r5⟩ := run_append_own_at (P := Tryd.prog) W7 bE t ty e i z k bytes ht hi hz hsize hby hzs hk0 v l.length css.flatten d1 ⟨bI, 0, none⟩ 1 1 cs.toList (by simp [hcs]) (World.news_of_block hI) h1 (by unfold maxLen; omega) (by
    have : (l.length + 1) * bytes ≤ 100001 * 1000 := Nat.mul_le_mul (by omega) hbt
    omega) hC
  obtain ⟨a8, c8, rfl⟩ := row_form r2
  refine ⟨a8, c8, w', r1, ⟨css ++ [cs.toList], ?_, by simp [d2], fun c hc => ?_, fun j y hy => ?_⟩, r3, r5⟩
  · rw [List.flatten_append, List.flatten_singleton, List.length_append, List.length_singleton]
    exact r2
  · rw [List.mem_append] at hc
    rcases hc with hc | hc
    · exact d3 c hc
    · simp at hc; subst hc; simpa using hcs
  · rcases Nat.lt_or_ge j l.length with hlt | hge
    · rw [List.getElem?_append_left hlt] at hy
      obtain ⟨c, e1, e2⟩ := d4 j y hy
      exact ⟨c, by rw [List.getElem?_append_left (by omega)]; exact e1, .inl e2⟩
    · have hj : j = l.length := by have := get_lt hy; simp at this; omega
      subst hj
      rw [List.getElem?_append_right (Nat.le_refl _), Nat.sub_self] at hy
      cases hy
      exact ⟨cs.toList, by rw [← d2, List.getElem?_append_right (Nat.le_refl _), Nat.sub_self]; rfl, .inr ⟨rfl, rfl⟩⟩
theorem Rw.sl {Q : List Value → α → Prop} {P : World → List Value → α → Prop} {e : Nat} {W W' : World} {v : Value} {l : List α} (R : Rw bE e k Q W v l) (hown : ∀ g, v.ownBlock = some g → W'.heap[g]? = W.heap[g]?) (hQ : ∀ c x, Q c x → P W' c x) (hlen : l.length ≤ 1000000) : SlAt k P W'.heap.size W' v l := by
  obtain ⟨css, d1, d2, d3, d4⟩ := R
  refine row_sl (ownsRow_keep d1 hown) d3 d2 (fun j x hx => ?_) (Nat.le_refl _) (by omega)
  obtain ⟨c, e1, e2⟩ := d4 j x hx
  exact ⟨c, e1, hQ c x e2⟩
/-- What a list is at the end, whatever comes of the block b and behind it. -/
def Fut (k : Nat) (P : Nat → World → List Value → α → Prop) (b B : Nat) (W4 W8 : World) (v : Value) (l : List α) : Prop :=
  ∀ W : World, W8.heap.size ≤ W.heap.size → (∀ j, b < j → j < W8.heap.size → W.heap[j]? = W8.heap[j]?) → (∀ j, j < B → W.heap[j]? = W4.heap[j]?) → SlAt k (P W.heap.size) W.heap.size W v l
/-- Both appends in a row. -/
theorem app_two {P : Nat → World → List Value → α → Prop} {t e B b : Nat} {i : TypeInfo} {z : Value} {bytes : Nat} (ht : Tryd.prog.underlying t = some (.slice e)) (hi : Tryd.prog.info? e = some i) (hz : i.zero = some z) (hsize : i.size = k) (hby : i.bytes = bytes) (hzs : z.cells.size = k) (hk0 : 0 < k) {W4 : World} {v : Value} {l : List α} (R : SlAt k (P B) B W4 v l) (hk : ∀ w cs x, P B w cs x → cs.length = k) (h1 : ∀ w cs x, P B w cs x → ∀ u ∈ cs, u.oneCell' = true) (hkeep : ∀ (w w' : World) (B' : Nat) cs x, B ≤ B' → (∀ j, j < B → w'.heap[j]? = w.heap[j]?) → P B w cs x → P B' w' cs x) (hlen : l.length ≤ 900) (hbt : bytes ≤ 1000) (hBb : B ≤ b) (hb : b < W4.heap.size) :
    ∃ (v5 : Value) (W6 : World), (Builtin.append_ #[t, t] t #[.slice (some ⟨W4.heap.size, 0, none⟩) 0 0, v]).run Tryd.prog (W4.alloc (.cells #[] e)) = .ok v5 W6 ∧ Below W4.heap.size W4 W6 ∧ W4.heap.size < W6.heap.size ∧
      ∀ (W7 : World) (bI : Nat) (cs : Array Value) (te : Nat) (fr : Nat × Nat) (x : α), Below W6.heap.size W6 W7 → W6.heap.size ≤ bI → W7.heap[bI]? = some (.cells cs te fr) → cs.size = k → (∀ u ∈ cs.toList, u.oneCell' = true) →
        (∀ W : World, W7.heap.size ≤ W.heap.size → (∀ j, W6.heap.size ≤ j → j < W7.heap.size → W.heap[j]? = W7.heap[j]?) → P W.heap.size W cs.toList x) →
        ∃ a8 c8 W8, (Builtin.append_ #[t, t] t #[v5, .slice (some ⟨bI, 0, none⟩) 1 1]).run Tryd.prog W7 = .ok (.slice a8 (l.length + 1) c8) W8 ∧ Below W4.heap.size W4 W8 ∧ Fut k P b B W4 W8 (.slice a8 (l.length + 1) c8) (l ++ [x]) := by
  have b4 : Below W4.heap.size W4 (W4.alloc (.cells #[] e)) := (Below.refl _ _).alloc (Nat.le_refl _) _
  have R5 : SlAt k (P B) B (W4.alloc (.cells #[] e)) v l := R.keep (Nat.le_refl _) (fun j hj => b4.block j (by omega)) (fun cs x h => hkeep _ _ _ cs x (Nat.le_refl _) (fun j hj => b4.block j (by omega)) h)
  obtain ⟨v5, W6, r1, r2, r3, r4, r5⟩ := app_first (ty := t) ht hi hz hsize hby hzs hk0 R5 (hk _) (h1 _) (by omega) hbt (heap_new W4 (.cells #[] e) rfl)
  have hs6 : W4.heap.size < W6.heap.size := Nat.lt_of_lt_of_le (lt_of_block (heap_new W4 (.cells #[] e) rfl)) r3.size
  have b6 : Below W4.heap.size W4 W6 := b4.trans r3
  refine ⟨v5, W6, r1, b6, hs6, fun W7 bI cs te fr x g1 g2 g3 g4 g5 g6 => ?_⟩
  have ho5 : ∀ g, v5.ownBlock = some g → W4.heap.size ≤ g ∧ g < W6.heap.size := by
    obtain ⟨css, d1, _⟩ := r2
    exact own_ge d1
  have R7 : Rw W4.heap.size e k (P B (W4.alloc (.cells #[] e))) W7 v5 l := by
    obtain ⟨css, d1, d2⟩ := r2
    exact ⟨css, ownsRow_keep d1 (fun g hg => g1.block g (ho5 g hg).2), d2⟩
  have hs7 : W6.heap.size ≤ W7.heap.size := g1.size
  obtain ⟨a8, c8, W8, q1, q2, q3, q4⟩ := app_next (ty := t) ht hi hz hsize hby hzs hk0 R7 (by omega) hbt (by omega) g3 g4 g5 x
  have hs8 : W7.heap.size ≤ W8.heap.size := q3.size
  refine ⟨a8, c8, W8, q1, (bel_tr b6 g1).trans ⟨q3.os, q3.tape, q3.output, q3.size, fun j hj => q3.block j (by omega) (fun h => ?_)⟩, fun W f1 f2 f3 => ?_⟩
  · have := (ho5 j h.symm).1
    omega
  · refine q2.sl (fun g hg => ?_) (fun c y hc => ?_) (by simp; omega)
    · obtain ⟨css, d1, _⟩ := q2
      have := own_ge d1 g hg
      exact f2 g (by omega) this.2
    · rcases hc with hc | ⟨rfl, rfl⟩
      · exact hkeep _ _ _ _ _ (by omega) (fun j hj => (f3 j hj).trans (b4.block j (by omega)).symm) hc
      · refine g6 W (by omega) (fun j h6 h7 => (f2 j (by omega) (by omega)).trans (q3.block j h7 (fun h => ?_)))
        have := (ho5 j h.symm).2
        omega
end
end Go.Proofs.YtefdilakpggggaaDoor

namespace Go.Proofs.YtefdilakpggggaaDoor
open Go.RowKit
theorem info_str : (Tryd.prog.info? 9).map (fun i => (i.zero, i.size, i.bytes)) = some (some (.string ⟨#[]⟩), 1, 16) := by kernel_rfl
theorem info_ints : (Tryd.prog.info? 44).map (fun i => (i.zero, i.size, i.bytes)) = some (some (.slice none 0 0), 1, 24) := by kernel_rfl
theorem info_Lay : (Tryd.prog.info? 53).map (fun i => (i.zero, i.size, i.bytes)) = some (some (.agg #[.slice none 0 0]), 1, 24) := by kernel_rfl
theorem info_Fn : (Tryd.prog.info? 48).map (fun i => (i.zero, i.size, i.bytes)) = some (some (.agg #[.int .i64 0, .slice none 0 0, .slice none 0 0, .slice none 0 0, .slice none 0 0]), 5, 104) := by kernel_rfl
section
variable {W : World} {g T : Nat} {f : Nat × Nat}
theorem ints_one {a : Int} (h : W.heap[g]? = some (.cells #[.int .i64 a] T f)) (h1 : -9223372036854775808 ≤ a) (h2 : a ≤ 9223372036854775807) : SlAt 1 IntP W.heap.size W (.slice (some ⟨g, 0, none⟩) 1 1) [a] := by
  refine ⟨_, 1, rfl, ⟨by simp, by simp, by decide⟩, fun j x hx => ?_⟩
  match j, hx with
  | 0, hx =>
    cases hx
    refine ⟨g, 0, [.int .i64 a], rfl, lt_of_block h, fun r u hr => ?_, rfl, h1, h2⟩
    match r, hr with
    | 0, hr => cases hr; exact cell_of h rfl
theorem ins_one (h : W.heap[g]? = some (.cells #[.int .i64 24, .int .i64 0, .int .i64 0] T f)) : SlAt 3 InsP W.heap.size W (.slice (some ⟨g, 0, none⟩) 1 1) [⟨24, 0, 0⟩] := by
  refine ⟨_, 1, rfl, ⟨by decide, by decide, by decide⟩, fun j x hx => ?_⟩
  match j, hx with
  | 0, hx =>
    cases hx
    refine ⟨g, 0, [.int .i64 24, .int .i64 0, .int .i64 0], rfl, lt_of_block h, fun r u hr => ?_, rfl, ⟨by decide, by decide⟩, ⟨by decide, by decide⟩, ⟨by decide, by decide⟩⟩
    match r, hr with
    | 0, hr => cases hr; exact cell_of h rfl
    | 1, hr => cases hr; exact cell_of h rfl
    | 2, hr => cases hr; exact cell_of h rfl
end
section
variable {B b : Nat} {W4 : World} {v : Value}
theorem lst_len (w : World) (cs : List Value) (x : List Int) (h : LstP B w cs x) : cs.length = 1 := by obtain ⟨u, rfl, _⟩ := h; rfl
theorem lst_one (w : World) (cs : List Value) (x : List Int) (h : LstP B w cs x) : ∀ u ∈ cs, u.oneCell' = true := by
  obtain ⟨u, rfl, ao, cap, rfl, _⟩ := h
  intro u hu
  simp at hu
  subst hu
  rfl
theorem lst_keep (w w' : World) (B' : Nat) (cs : List Value) (x : List Int) (hB : B ≤ B') (h : ∀ j, j < B → w'.heap[j]? = w.heap[j]?) (hp : LstP B w cs x) : LstP B' w' cs x := by
  obtain ⟨u, h1, h2⟩ := hp
  exact ⟨u, h1, ints_keep hB h h2⟩
theorem fd_len (w : World) (cs : List Value) (x : Fd) (h : FdP B w cs x) : cs.length = 5 := by obtain ⟨_, _, _, _, rfl, _⟩ := h; rfl
theorem fd_one (w : World) (cs : List Value) (x : Fd) (h : FdP B w cs x) : ∀ u ∈ cs, u.oneCell' = true := by
  obtain ⟨_, _, _, _, rfl, _, ⟨_, _, rfl, _⟩, ⟨_, _, rfl, _⟩, ⟨_, _, rfl, _⟩, ⟨_, _, rfl, _⟩⟩ := h
  intro u hu
  simp at hu
  rcases hu with rfl | rfl | rfl | rfl | rfl <;> rfl
theorem fd_keep (w w' : World) (B' : Nat) (cs : List Value) (x : Fd) (hB : B ≤ B') (h : ∀ j, j < B → w'.heap[j]? = w.heap[j]?) (hp : FdP B w cs x) : FdP B' w' cs x := by
  obtain ⟨a, b, c, d, h1, h2, h3, h4, h5, h6⟩ := hp
  exact ⟨a, b, c, d, h1, h2, ints_keep hB h h3, ints_keep hB h h4, ints_keep hB h h5, ins_keep hB h h6⟩
def StrQ (_ : Nat) (w : World) (cs : List Value) (s : By) : Prop := StrP w cs s
theorem two_ty {l : List (List Int)} (R : SlAt 1 (LstP B) B W4 v l) (hlen : l.length ≤ 900) (hBb : B ≤ b) (hb : b < W4.heap.size) :
    ∃ (v5 : Value) (W6 : World) (a8 : Option Addr) (c8 : Nat) (W8 : World), (Builtin.append_ #[22, 22] 22 #[.slice (some ⟨W4.heap.size, 0, none⟩) 0 0, v]).run Tryd.prog (W4.alloc (.cells #[] 53)) = .ok v5 W6 ∧ W4.heap.size < W6.heap.size ∧
      (Builtin.append_ #[22, 22] 22 #[v5, .slice (some ⟨W6.heap.size + 1, 0, none⟩) 1 1]).run Tryd.prog ((W6.alloc (.cells #[.int .i64 2] 3)).alloc (.cells #[.slice (some ⟨W6.heap.size, 0, none⟩) 1 1] 53)) = .ok (.slice a8 (l.length + 1) c8) W8 ∧ Below W4.heap.size W4 W8 ∧ Fut 1 LstP b B W4 W8 (.slice a8 (l.length + 1) c8) (l ++ [[2]]) := by
  obtain ⟨i0, hi, hz0, hz1, hz2⟩ := info_parts info_Lay
  obtain ⟨v5, W6, r1, r2, r3, r4⟩ := app_two (P := LstP) (b := b) Tryd.underlying22 hi hz0 hz1 hz2 rfl (by decide) R lst_len lst_one lst_keep hlen (by decide) hBb hb
  obtain ⟨W7, hW7⟩ : ∃ W7, (W6.alloc (.cells #[.int .i64 2] 3)).alloc (.cells #[.slice (some ⟨W6.heap.size, 0, none⟩) 1 1] 53) = W7 := ⟨_, rfl⟩
  have e1 : W7.heap[W6.heap.size]? = some (.cells #[.int .i64 2] 3 (0, 0)) := by rw [← hW7, heap_alloc_old _ _ (by simp)]; exact heap_new _ _ rfl
  have e2 : W7.heap[W6.heap.size + 1]? = some (.cells #[.slice (some ⟨W6.heap.size, 0, none⟩) 1 1] 53 (0, 0)) := by rw [← hW7]; exact heap_new _ _ (by simp)
  have b7 : Below W6.heap.size W6 W7 := by rw [← hW7]; exact ((Below.refl _ _).alloc (Nat.le_refl _) _).alloc (by simp) _
  obtain ⟨a8, c8, W8, q1, q2, q3⟩ := r4 W7 (W6.heap.size + 1) _ _ _ [2] b7 (by omega) e2 rfl (by intro u hu; simp at hu; subst hu; rfl) (fun W h1 h2 => ⟨_, rfl, ints_one ((h2 _ (Nat.le_refl _) (lt_of_block e1)).trans e1) (by decide) (by decide)⟩)
  exact ⟨v5, W6, a8, c8, W8, r1, r3, by rw [hW7]; exact q1, q2, q3⟩
theorem two_fu {l : List Fd} (R : SlAt 5 (FdP B) B W4 v l) (hlen : l.length ≤ 900) (hBb : B ≤ b) (hb : b < W4.heap.size) :
    ∃ (v5 : Value) (W6 : World) (a8 : Option Addr) (c8 : Nat) (W8 : World), (Builtin.append_ #[23, 23] 23 #[.slice (some ⟨W4.heap.size, 0, none⟩) 0 0, v]).run Tryd.prog (W4.alloc (.cells #[] 48)) = .ok v5 W6 ∧ W4.heap.size < W6.heap.size ∧
      (Builtin.append_ #[23, 23] 23 #[v5, .slice (some ⟨W6.heap.size + 1, 0, none⟩) 1 1]).run Tryd.prog ((W6.alloc (.cells #[.int .i64 24, .int .i64 0, .int .i64 0] 50)).alloc (.cells #[.int .i64 0, .slice none 0 0, .slice none 0 0, .slice none 0 0, .slice (some ⟨W6.heap.size, 0, none⟩) 1 1] 48)) = .ok (.slice a8 (l.length + 1) c8) W8 ∧ Below W4.heap.size W4 W8 ∧ Fut 5 FdP b B W4 W8 (.slice a8 (l.length + 1) c8) (l ++ [moF]) := by
  obtain ⟨i0, hi, hz0, hz1, hz2⟩ := info_parts info_Fn
  obtain ⟨v5, W6, r1, r2, r3, r4⟩ := app_two (P := FdP) (b := b) Tryd.underlying23 hi hz0 hz1 hz2 rfl (by decide) R fd_len fd_one fd_keep hlen (by decide) hBb hb
  obtain ⟨W7, hW7⟩ : ∃ W7, (W6.alloc (.cells #[.int .i64 24, .int .i64 0, .int .i64 0] 50)).alloc (.cells #[.int .i64 0, .slice none 0 0, .slice none 0 0, .slice none 0 0, .slice (some ⟨W6.heap.size, 0, none⟩) 1 1] 48) = W7 := ⟨_, rfl⟩
  have e1 : W7.heap[W6.heap.size]? = some (.cells #[.int .i64 24, .int .i64 0, .int .i64 0] 50 (0, 0)) := by rw [← hW7, heap_alloc_old _ _ (by simp)]; exact heap_new _ _ rfl
  have e2 : W7.heap[W6.heap.size + 1]? = some (.cells #[.int .i64 0, .slice none 0 0, .slice none 0 0, .slice none 0 0, .slice (some ⟨W6.heap.size, 0, none⟩) 1 1] 48 (0, 0)) := by rw [← hW7]; exact heap_new _ _ (by simp)
  have b7 : Below W6.heap.size W6 W7 := by rw [← hW7]; exact ((Below.refl _ _).alloc (Nat.le_refl _) _).alloc (by simp) _
  obtain ⟨a8, c8, W8, q1, q2, q3⟩ := r4 W7 (W6.heap.size + 1) _ _ _ moF b7 (by omega) e2 rfl (by intro u hu; simp at hu; rcases hu with rfl | rfl | rfl <;> rfl) (fun W h1 h2 => ⟨_, _, _, _, rfl, ⟨by decide, by decide⟩, sl_nil, sl_nil, sl_nil, ins_one ((h2 _ (Nat.le_refl _) (lt_of_block e1)).trans e1)⟩)
  exact ⟨v5, W6, a8, c8, W8, r1, r3, by rw [hW7]; exact q1, q2, q3⟩
theorem two_st {l : List By} (R : SlAt 1 StrP B W4 v l) (hlen : l.length ≤ 900) (hBb : B ≤ b) (hb : b < W4.heap.size) :
    ∃ (v5 : Value) (W6 : World) (a8 : Option Addr) (c8 : Nat) (W8 : World), (Builtin.append_ #[25, 25] 25 #[.slice (some ⟨W4.heap.size, 0, none⟩) 0 0, v]).run Tryd.prog (W4.alloc (.cells #[] 9)) = .ok v5 W6 ∧ W4.heap.size < W6.heap.size ∧
      (Builtin.append_ #[25, 25] 25 #[v5, .slice (some ⟨W6.heap.size, 0, none⟩) 1 1]).run Tryd.prog (W6.alloc (.cells #[.string ⟨#[109, 111, 114, 101]⟩] 9)) = .ok (.slice a8 (l.length + 1) c8) W8 ∧ Below W4.heap.size W4 W8 ∧ Fut 1 StrQ b B W4 W8 (.slice a8 (l.length + 1) c8) (l ++ [moS]) := by
  obtain ⟨i0, hi, hz0, hz1, hz2⟩ := info_parts info_str
  obtain ⟨v5, W6, r1, r2, r3, r4⟩ := app_two (P := StrQ) (b := b) Tryd.underlying25 hi hz0 hz1 hz2 rfl (by decide) R (fun w cs x h => by unfold StrQ StrP at h; rw [h]; rfl) (fun w cs x h => by unfold StrQ StrP at h; rw [h]; intro u hu; simp at hu; subst hu; rfl) (fun w w' B' cs x _ _ h => h) hlen (by decide) hBb hb
  obtain ⟨W7, hW7⟩ : ∃ W7, W6.alloc (.cells #[.string ⟨#[109, 111, 114, 101]⟩] 9) = W7 := ⟨_, rfl⟩
  have e1 : W7.heap[W6.heap.size]? = some (.cells #[.string ⟨#[109, 111, 114, 101]⟩] 9 (0, 0)) := by rw [← hW7]; exact heap_new _ _ rfl
  have b7 : Below W6.heap.size W6 W7 := by rw [← hW7]; exact (Below.refl _ _).alloc (Nat.le_refl _) _
  obtain ⟨a8, c8, W8, q1, q2, q3⟩ := r4 W7 W6.heap.size _ _ _ moS b7 (Nat.le_refl _) e1 rfl (by intro u hu; simp at hu; subst hu; rfl) (fun W h1 h2 => rfl)
  exact ⟨v5, W6, a8, c8, W8, r1, r3, by rw [hW7]; exact q1, q2, q3⟩
theorem Fut.next {α : Type} {k : Nat} {P : Nat → World → List Value → α → Prop} {W8 Wn : World} {l : List α} (F : Fut k P b B W4 W8 v l) (hs : W8.heap.size ≤ Wn.heap.size) (h1 : ∀ j, b < j → j < W8.heap.size → Wn.heap[j]? = W8.heap[j]?) (h2 : ∀ j, j < B → Wn.heap[j]? = W4.heap[j]?) : Fut k P b B Wn Wn v l :=
  fun W f1 f2 f3 => F W (Nat.le_trans hs f1) (fun j g1 g2 => (f2 j g1 (Nat.lt_of_lt_of_le g2 hs)).trans (h1 j g1 g2)) (fun j hj => (f3 j hj).trans (h2 j hj))
/-- A store into the box. -/
theorem box_step {W8 : World} {c : Array Value} {T o : Nat} {f : Nat × Nat} {u : Value} (h : Below W4.heap.size W4 W8) (e : W4.heap[b]? = some (.cells c T f)) : (W8.setCell ⟨b, o, none⟩ u).heap[b]? = some (.cells (c.setIfInBounds o u) T f) ∧ W4.heap.size ≤ (W8.setCell ⟨b, o, none⟩ u).heap.size ∧ (W8.setCell ⟨b, o, none⟩ u).heap.size = W8.heap.size ∧ (∀ j, j ≠ b → (W8.setCell ⟨b, o, none⟩ u).heap[j]? = W8.heap[j]?) ∧ (∀ j, j ≠ b → j < W4.heap.size → (W8.setCell ⟨b, o, none⟩ u).heap[j]? = W4.heap[j]?) ∧ ((W8.setCell ⟨b, o, none⟩ u).os = W4.os ∧ (W8.setCell ⟨b, o, none⟩ u).tape = W4.tape ∧ (W8.setCell ⟨b, o, none⟩ u).output = W4.output) := by
  have e8 := (h.block _ (lt_of_block e)).trans e
  have hsz : (W8.setCell ⟨b, o, none⟩ u).heap.size = W8.heap.size := by simp
  have ho : ∀ j, j ≠ b → (W8.setCell ⟨b, o, none⟩ u).heap[j]? = W8.heap[j]? := fun j hj => by simp [World.setCell, Array.getElem?_modify, Ne.symm hj]
  exact ⟨heap_setCell_same W8 b o u e8, by rw [hsz]; exact h.size, hsz, ho, fun j h1 h2 => (ho j h1).trans (h.block j h2), h.os, h.tape, h.output⟩
end
end Go.Proofs.YtefdilakpggggaaDoor

namespace Go.Proofs.YtefdilakpggggaaDoor
open Go.RowKit
/-- Where the region stands: the empty list, the copied one, the new table, the list of it. -/
structure Rg (Wb : World) (B : Nat) (l : List (List Int)) (fl : Int) (X : World) (e0 : Option Nat) (v5 : Option Value) (i1 i2 : Option Nat) : Prop where
  bel : Below Wb.heap.size Wb X
  hE : ∀ x, e0 = some x → v5 = none → Wb.heap.size ≤ x ∧ X.heap[x]? = some (.cells #[] 44 (0, 0))
  h5 : ∀ v, v5 = some v → Rw Wb.heap.size 44 1 (LstP B Wb) X v l ∧ ∀ g, v.ownBlock = some g → i1 ≠ some g ∧ i2 ≠ some g
  h1 : ∀ x, i1 = some x → Wb.heap.size ≤ x ∧ X.heap[x]? = some (.cells #[.int .i64 fl] 3 (0, 0))
  h2 : ∀ x y, i1 = some x → i2 = some y → Wb.heap.size ≤ y ∧ X.heap[y]? = some (.cells #[.slice (some ⟨x, 0, none⟩) 1 1] 44 (0, 0))
section
variable {Wb X : World} {B b : Nat} {l : List (List Int)} {fl : Int} {e0 : Option Nat} {v5 : Option Value} {i1 i2 : Option Nat} {v : Value}
theorem al_old (X : World) (o : Obj) {j : Nat} {u : Obj} (h : X.heap[j]? = some u) : (X.alloc o).heap[j]? = some u := by rw [heap_alloc_old _ _ (lt_of_block h)]; exact h
theorem Rw.al {Q : List Value → List Int → Prop} {C e : Nat} (R : Rw C e 1 Q X v l) (o : Obj) : Rw C e 1 Q (X.alloc o) v l := by
  obtain ⟨css, d1, d2⟩ := R
  exact ⟨css, ownsRow_keep d1 (fun g hg => heap_alloc_old _ _ (own_ge d1 g hg).2), d2⟩
theorem Rg.begin : Rg Wb B l fl Wb none none none none := ⟨Below.refl _ _, fun _ h => (by cases h), fun _ h => (by cases h), fun _ h => (by cases h), fun _ _ h => by cases h⟩
theorem Rg.begin' : Rg Wb B l fl Wb.drew none none none none := ⟨below_drew (Below.refl _ _), fun _ h => (by cases h), fun _ h => (by cases h), fun _ h => (by cases h), fun _ _ h => by cases h⟩
theorem Rg.emp (R : Rg Wb B l fl X none none i1 i2) : Rg Wb B l fl (X.alloc (.cells #[] 44)) (some X.heap.size) none i1 i2 :=
  ⟨R.bel.alloc R.bel.size _, fun x h _ => by cases h; exact ⟨R.bel.size, heap_new _ _ rfl⟩, fun _ h => (by cases h), fun x h => ⟨(R.h1 x h).1, al_old _ _ (R.h1 x h).2⟩, fun x y h g => ⟨(R.h2 x y h g).1, al_old _ _ (R.h2 x y h g).2⟩⟩
theorem Rg.one (R : Rg Wb B l fl X e0 v5 none none) : Rg Wb B l fl (X.alloc (.cells #[.int .i64 fl] 3)) e0 v5 (some X.heap.size) none :=
  ⟨R.bel.alloc R.bel.size _, fun x h g => ⟨(R.hE x h g).1, al_old _ _ (R.hE x h g).2⟩, fun v h => ⟨(R.h5 v h).1.al _, fun g hg => ⟨fun e => by
    obtain ⟨css, d1, _⟩ := (R.h5 v h).1
    have := (own_ge d1 g hg).2
    cases e
    omega, fun e => by cases e⟩⟩, fun x h => by cases h; exact ⟨R.bel.size, heap_new _ _ rfl⟩, fun x y _ h => by cases h⟩
theorem Rg.two {x : Nat} (R : Rg Wb B l fl X e0 v5 (some x) none) : Rg Wb B l fl (X.alloc (.cells #[.slice (some ⟨x, 0, none⟩) 1 1] 44)) e0 v5 (some x) (some X.heap.size) :=
  ⟨R.bel.alloc R.bel.size _, fun x h g => ⟨(R.hE x h g).1, al_old _ _ (R.hE x h g).2⟩, fun v h => ⟨(R.h5 v h).1.al _, fun g hg => ⟨((R.h5 v h).2 g hg).1, fun e => by
    obtain ⟨css, d1, _⟩ := (R.h5 v h).1
    have := (own_ge d1 g hg).2
    cases e
    omega⟩⟩, fun x h => ⟨(R.h1 x h).1, al_old _ _ (R.h1 x h).2⟩, fun x y h g => by cases h; cases g; exact ⟨R.bel.size, heap_new _ _ rfl⟩⟩
theorem Rg.app {x : Nat} (R : Rg Wb B l fl X (some x) none i1 i2) (L : SlAt 1 (LstP B) B Wb v l) (hlen : l.length ≤ 900) (hB : B ≤ Wb.heap.size) (hi : i1 = none → i2 = none) :
    ∃ v5 W6, (Builtin.append_ #[24, 24] 24 #[.slice (some ⟨x, 0, none⟩) 0 0, v]).run Tryd.prog X = .ok v5 W6 ∧ Rg Wb B l fl W6 (some x) (some v5) i1 i2 := by
  obtain ⟨i0, hi0, hz0, hz1, hz2⟩ := info_parts info_ints
  obtain ⟨hx1, hx2⟩ := R.hE x rfl rfl
  have LX : SlAt 1 (LstP B) B X v l := lsts_keep (Nat.le_refl _) (fun j hj => R.bel.block j (by omega)) L
  obtain ⟨v5, W6, r1, r2, r3, r4, r5⟩ := app_first (P := LstP B) (ty := 24) Tryd.underlying24 hi0 hz0 hz1 hz2 rfl (by decide) LX (lst_len X) (lst_one X) (by omega) (by decide) hx2
  have hne1 : ∀ y, i1 = some y → y ≠ x := fun y h e => by
    have := (R.h1 y h).2
    rw [e, hx2] at this
    simp at this
  have hne2 : ∀ y, i2 = some y → y ≠ x := fun y h e => by
    cases hq : i1 with
    | none => rw [hi hq] at h; cases h
    | some z =>
      have := (R.h2 z y hq h).2
      rw [e, hx2] at this
      simp at this
  have hl1 : ∀ y, i1 = some y → y < X.heap.size := fun y h => lt_of_block (R.h1 y h).2
  have hl2 : ∀ y, i2 = some y → y < X.heap.size := fun y h => by
    cases hq : i1 with
    | none => rw [hi hq] at h; cases h
    | some z => exact lt_of_block (R.h2 z y hq h).2
  refine ⟨v5, W6, r1, R.bel.trans ⟨r3.os, r3.tape, r3.output, r3.size, fun j hj => r3.block j (by omega)⟩, fun _ _ h => (by cases h), fun v h => ?_, fun y h => ⟨(R.h1 y h).1, (r5 y (hl1 y h) (hne1 y h)).trans (R.h1 y h).2⟩, fun z y h g => ⟨(R.h2 z y h g).1, (r5 y (hl2 y g) (hne2 y g)).trans (R.h2 z y h g).2⟩⟩
  cases h
  refine ⟨?_, fun g hg => ?_⟩
  · obtain ⟨css, d1, d2, d3, d4⟩ := r2
    refine ⟨css, ⟨d1.1, d1.2.imp id (fun ⟨g, cap, cur, a, b, c⟩ => ⟨g, cap, cur, a, Nat.le_trans hx1 b, c⟩)⟩, d2, d3, fun j y hy => ?_⟩
    obtain ⟨c, e1, e2⟩ := d4 j y hy
    exact ⟨c, e1, lst_keep _ _ _ _ _ (Nat.le_refl _) (fun j hj => (R.bel.block j (by omega)).symm) e2⟩
  · rcases r4 with h4 | h4
    · rw [h4] at hg
      cases hg
      exact ⟨fun e => hne1 _ e rfl, fun e => hne2 _ e rfl⟩
    · rw [h4] at hg
      cases hg
      exact ⟨fun e => Nat.lt_irrefl _ (hl1 _ e), fun e => Nat.lt_irrefl _ (hl2 _ e)⟩
theorem Rg.fin {x y : Nat} {u : Value} (R : Rg Wb B l fl X e0 (some u) (some x) (some y)) (hlen : l.length ≤ 900) (hB : B ≤ Wb.heap.size) (hb : b < Wb.heap.size) (hf1 : -9223372036854775808 ≤ fl) (hf2 : fl ≤ 9223372036854775807) :
    ∃ a8 c8 W8, (Builtin.append_ #[24, 24] 24 #[u, .slice (some ⟨y, 0, none⟩) 1 1]).run Tryd.prog X = .ok (.slice a8 (l.length + 1) c8) W8 ∧ Below Wb.heap.size Wb W8 ∧ Fut 1 LstP b B Wb W8 (.slice a8 (l.length + 1) c8) (l ++ [[fl]]) := by
  obtain ⟨i0, hi0, hz0, hz1, hz2⟩ := info_parts info_ints
  obtain ⟨f1, f2⟩ := R.h1 x rfl
  obtain ⟨f3, f4⟩ := R.h2 x y rfl rfl
  obtain ⟨f5, f6⟩ := R.h5 u rfl
  have ho : ∀ g, u.ownBlock = some g → Wb.heap.size ≤ g ∧ g < X.heap.size := by
    obtain ⟨css, d1, _⟩ := f5
    exact own_ge d1
  obtain ⟨a8, c8, W8, q1, q2, q3, q4⟩ := app_next (ty := 24) Tryd.underlying24 hi0 hz0 hz1 hz2 rfl (by decide) f5 (by omega) (by decide) R.bel.size f4 rfl (by intro u hu; simp at hu; subst hu; rfl) [fl]
  have hs := R.bel.size
  have hs8 : X.heap.size ≤ W8.heap.size := q3.size
  have hx8 : W8.heap[x]? = some (.cells #[.int .i64 fl] 3 (0, 0)) := (q3.block x (lt_of_block f2) (fun e => (f6 x e.symm).1 rfl)).trans f2
  refine ⟨a8, c8, W8, q1, R.bel.trans ⟨q3.os, q3.tape, q3.output, q3.size, fun j hj => q3.block j (by omega) (fun e => by have := (ho j e.symm).1; omega)⟩, fun W g1 g2 g3 => ?_⟩
  refine q2.sl (fun g hg => ?_) (fun c z hc => ?_) (by simp; omega)
  · obtain ⟨css, d1, _⟩ := q2
    have := own_ge d1 g hg
    exact g2 g (by omega) this.2
  · rcases hc with hc | ⟨rfl, rfl⟩
    · exact lst_keep _ _ _ _ _ (by omega) g3 hc
    · exact ⟨_, rfl, ints_one ((g2 x (by omega) (lt_of_block hx8)).trans hx8) hf1 hf2⟩
end
end Go.Proofs.YtefdilakpggggaaDoor

namespace Go.Proofs.YtefdilakpggggaaDoor
def moreF (f : Fd) (j : List In3) : Fd := ⟨f.pa, f.lo, f.re, f.ar, f.co ++ j⟩
def deadQ (p : Pg) (n : Nat) (f : Fd) (j : List In3) : Pg := ⟨p.ty, p.fu.set n (moreF f j), p.ta, p.st⟩
section
variable {p : Pg} {n : Nat} {f : Fd} {j : List In3}
theorem exf_more : ExF f (moreF f j) := ⟨fun _ _ h => h, Nat.le_refl _, fun _ _ h => h, Nat.le_refl _, rfl, fun k i h => by unfold moreF; dsimp only; rw [List.getElem?_append_left (get_lt h)]; exact h, by simp [moreF]⟩
theorem dead_ext (hf : p.fu[n]? = some f) : Ext p (deadQ p n f j) :=
  ⟨fun _ _ h => h, Nat.le_refl _, fun m g h => by
    unfold deadQ
    dsimp only
    rw [List.getElem?_set]
    split
    · rename_i e
      subst e
      rw [hf] at h
      cases h
      rw [if_pos (get_lt hf)]
      exact ⟨_, rfl, rfl, rfl⟩
    · exact ⟨g, h, rfl, rfl⟩, by simp [deadQ], fun _ _ h => h, Nat.le_refl _, Nat.le_refl _⟩
theorem each_set {α : Type} {m : Nat} {s : α → Bool} {l : List α} {x : α} (h : eachB m s l = true) (hx : s x = true) (n : Nat) : eachB m s (l.set n x) = true := by
  obtain ⟨h1, h2⟩ := eachB_le h
  unfold eachB
  rw [Bool.and_eq_true, decide_eq_true_eq, List.all_eq_true]
  refine ⟨by simpa using h1, fun y hy => ?_⟩
  rcases List.mem_or_eq_of_mem_set hy with h | h
  · exact h2 y h
  · rw [h]; exact hx
theorem dead_snd (h : sndP p = true) (hf : p.fu[n]? = some f) (hl : f.co.length + j.length ≤ 65536) (hj : ∀ i ∈ j, sndI i = true) : sndP (deadQ p n f j) = true := by
  simp only [sndP, Bool.and_eq_true] at h ⊢
  refine ⟨h.1, each_set h.2.1 ?_ n, h.2.2.1, h.2.2.2⟩
  have hs := (eachB_le h.2.1).2 f (List.mem_of_getElem? hf)
  unfold sndF at hs ⊢
  simp only [Bool.and_eq_true] at hs ⊢
  refine ⟨hs.1, hs.2.1, hs.2.2.1, hs.2.2.2.1, hs.2.2.2.2.1, ?_⟩
  obtain ⟨_, h2⟩ := eachB_le hs.2.2.2.2.2
  unfold eachB
  rw [Bool.and_eq_true, decide_eq_true_eq, List.all_eq_true]
  refine ⟨by simpa [moreF] using hl, fun y hy => ?_⟩
  have hy2 : y ∈ f.co ++ j := hy
  rw [List.mem_append] at hy2
  rcases hy2 with hy2 | hy2
  · exact h2 y hy2
  · exact hj y hy2
theorem head_more {m : Nat} (h : headB m f = true) : headB m (moreF f j) = true := by
  simp only [headB, Bool.and_eq_true, decide_eq_true_eq] at h ⊢
  refine ⟨h.1, ?_⟩
  have := h.2
  simp [moreF]
  omega
theorem dead_heads (h : headsP p = none) (hf : p.fu[n]? = some f) : headsP (deadQ p n f j) = none := by
  rw [heads_none] at h ⊢
  obtain ⟨a1, a2, a3, a4⟩ := h
  refine ⟨a1, ?_, fun t ht => table_ext (dead_ext hf) (a3 t ht), by simpa [deadQ] using a4⟩
  rw [firstBad_none_iff] at a2 ⊢
  intro k g hk
  have hk2 : (p.fu.set n (moreF f j))[k]? = some g := hk
  rw [List.getElem?_set] at hk2
  split at hk2
  · rename_i e
    subst e
    rw [if_pos (get_lt hf)] at hk2
    cases hk2
    obtain ⟨b1, b2⟩ := a2 n f hf
    exact ⟨head_more b1, b2⟩
  · exact a2 k g hk2
/-- What is never come to may be anything. -/
theorem dead_check (h : (checkP p).2.2 = 0) (hf : p.fu[n]? = some f) (hl : f.co.length + j.length ≤ 65536) (hj : ∀ i ∈ j, sndI i = true) :
    checkP p = (0, 0, 0) ∧ checkP (deadQ p n f j) = (0, 0, 0) ∧ (deadQ p n f j).fu[n]? = some (moreF f j) ∧ ∃ F G, followP p f = .ok F ∧ followP (deadQ p n f j) (moreF f j) = .ok G ∧ szP (deadQ p n f j) (moreF f j) G = szP p f F := by
  obtain ⟨c1, c2, c3, c4⟩ := check_ok h
  have H := hok_of c2 c3
  have hg : (deadQ p n f j).fu[n]? = some (moreF f j) := by
    unfold deadQ
    dsimp only
    rw [List.getElem?_set, if_pos rfl, if_pos (get_lt hf)]
  have hfm := List.mem_of_getElem? hf
  obtain ⟨F, hF⟩ := c4 f hfm
  obtain ⟨G, hG, hP⟩ := follow_ext (dead_ext hf) (exf_more (f := f) (j := j)) H (H.fu f hfm) hF
  refine ⟨c1, ok_check (dead_snd c2 hf hl hj) (dead_heads c3 hf) fun g hgm => ?_, hg, F, G, hF, hG, ?_⟩
  · have hgm2 : g ∈ p.fu.set n (moreF f j) := hgm
    rcases List.mem_or_eq_of_mem_set hgm2 with h2 | h2
    · obtain ⟨F', hF'⟩ := c4 g h2
      obtain ⟨G', hG', _⟩ := follow_ext (dead_ext (j := j) hf) (exf_refl g) H (H.fu g h2) hF'
      exact ⟨G', hG'⟩
    · rw [h2]
      exact ⟨G, hG⟩
  · unfold szP
    rw [hP.mo]
    rfl
end
end Go.Proofs.YtefdilakpggggaaDoor

namespace Go.Proofs.YtefdilakpggggaaDoor
open Go.RowKit
theorem info_InsD : (Tryd.prog.info? 50).map (fun i => (i.zero, i.size, i.bytes)) = some (some (.agg #[.int .i64 0, .int .i64 0, .int .i64 0]), 3, 24) := by kernel_rfl
/-- The cells of a list of functions in one block. -/
def Arr (cur : Array Value) (Q : List Value → Fd → Prop) (l : List Fd) : Prop := ∀ (j : Nat) (x : Fd), l[j]? = some x → ∃ c, Q c x ∧ ∀ (r : Nat) (u : Value), c[r]? = some u → cur[j * 5 + r]? = some u
theorem Rw.arr {Q : List Value → Fd → Prop} {W : World} {bE e : Nat} {v : Value} {l : List Fd} (R : Rw bE e 5 Q W v l) (h0 : 0 < l.length) : ∃ g cap cur, v = .slice (some ⟨g, 0, none⟩) l.length cap ∧ bE ≤ g ∧ W.heap[g]? = some (.cells cur e (0, 0)) ∧ l.length ≤ cap ∧ cap ≤ maxLen ∧ Arr cur Q l := by
  obtain ⟨css, d1, d2, d3, d4⟩ := R
  rcases d1.2 with ⟨_, h⟩ | ⟨g, cap, cur, hv, h1, h2, h3, h4, h5, h6⟩
  · omega
  · refine ⟨g, cap, cur, hv, h1, h2, h3, h4, fun j x hx => ?_⟩
    obtain ⟨c, c1, c2⟩ := d4 j x hx
    refine ⟨c, c2, fun r u hr => ?_⟩
    have h7 := (flat_get d3).2 j c r u c1 hr
    rw [← h6, List.getElem?_take] at h7
    split at h7
    · rw [Array.getElem?_toList] at h7
      exact h7
    · cases h7
theorem owns_weak {W : World} {C C' e k n : Nat} {v : Value} {xs : List Value} (h : W.ownsRow C e k v n xs) (hC : C' ≤ C) : W.ownsRow C' e k v n xs := by
  refine ⟨h.1, ?_⟩
  rcases h.2 with h | ⟨g, cap, cur, hv, h1, h2⟩
  · exact .inl h
  · exact .inr ⟨g, cap, cur, hv, Nat.le_trans hC h1, h2⟩
/-- The list of functions, and the n-th one's code. -/
structure Dd (bE g k : Nat) (cur : Array Value) (Wq W : World) (vc : Value) (c : List In3) : Prop where
  bel : Below bE Wq W
  box : W.heap[g]? = some (.cells (cur.setIfInBounds k vc) 48 (0, 0))
  row : Rw (g + 1) 50 3 (InsP Wq) W vc c
section
variable {bE g k B : Nat} {cur : Array Value} {Wq W X : World} {vc : Value} {c : List In3}
theorem Rw.up {α : Type} {kk C e : Nat} {Q : List Value → α → Prop} {v : Value} {l : List α} (R : Rw C e kk Q W v l) (h : Below W.heap.size W X) : Rw C e kk Q X v l := by
  obtain ⟨css, d1, d2⟩ := R
  exact ⟨css, ownsRow_keep d1 (fun g hg => h.block g (own_ge d1 g hg).2), d2⟩
theorem Dd.up (D : Dd bE g k cur Wq W vc c) (h : Below W.heap.size W X) (hg : bE ≤ g) : Dd bE g k cur Wq X vc c :=
  have hl := lt_of_block D.box
  ⟨D.bel.trans (h.mono (by omega)), (h.block _ hl).trans D.box, D.row.up h⟩
/-- The code's first copy. -/
theorem dd_first {v : Value} {co : List In3} (hq : Wq.heap[g]? = some (.cells cur 48 (0, 0))) (hg : bE ≤ g) (hB : B ≤ bE) (R : SlAt 3 InsP B Wq v co) (hlen : co.length ≤ 1000) (hX : Below Wq.heap.size Wq X) :
    ∃ v5 W6, (Builtin.append_ #[46, 46] 46 #[.slice (some ⟨X.heap.size, 0, none⟩) 0 0, v]).run Tryd.prog (X.alloc (.cells #[] 50)) = .ok v5 W6 ∧ Below Wq.heap.size Wq W6 ∧ Dd bE g k cur Wq (W6.setCell ⟨g, k, none⟩ v5) v5 co := by
  obtain ⟨i0, hi, hz0, hz1, hz2⟩ := info_parts info_InsD
  have hlg := lt_of_block hq
  have b1 : Below Wq.heap.size Wq (X.alloc (.cells #[] 50)) := hX.alloc hX.size _
  have R5 : SlAt 3 InsP B (X.alloc (.cells #[] 50)) v co := ins_keep (Nat.le_refl _) (fun j hj => b1.block j (by omega)) R
  obtain ⟨v5, W6, r1, r2, r3, r4, r5⟩ := app_first (ty := 46) Tryd.underlying46 hi hz0 hz1 hz2 rfl (by decide) R5 (fun cs x h => by rw [h.1]; rfl) (fun cs x h u hu => by rw [h.1] at hu; simp at hu; rcases hu with rfl | rfl | rfl <;> rfl) (by omega) (by decide) (heap_new X (.cells #[] 50) rfl)
  have hs := hX.size
  have b6 : Below Wq.heap.size Wq W6 := b1.trans (r3.mono hs)
  have h6 := (b6.block _ hlg).trans hq
  refine ⟨v5, W6, r1, b6, ⟨(b6.mono (by omega)).setCell hg _, heap_setCell_same W6 g k v5 h6, ?_⟩⟩
  obtain ⟨css, d1, d2, d3, d4⟩ := r2
  refine ⟨css, ownsRow_keep (owns_weak d1 (by omega)) (fun j hj => ?_), d2, d3, fun j x hx => ?_⟩
  · have := (own_ge d1 j hj).1
    simp [World.setCell, Array.getElem?_modify, show g ≠ j by omega]
  · obtain ⟨c, e1, e2⟩ := d4 j x hx
    exact ⟨c, e1, e2⟩
/-- One more instruction. -/
theorem dd_next {o a b : Int} (D : Dd bE g k cur Wq W vc c) (hg : bE ≤ g) (hlen : c.length ≤ 2000) (ho : -9223372036854775808 ≤ o ∧ o ≤ 9223372036854775807) (ha : -9223372036854775808 ≤ a ∧ a ≤ 9223372036854775807) (hb : -9223372036854775808 ≤ b ∧ b ≤ 9223372036854775807) (hX : Below W.heap.size W X) :
    ∃ a8 c8 W8, (Builtin.append_ #[46, 46] 46 #[vc, .slice (some ⟨X.heap.size, 0, none⟩) 1 1]).run Tryd.prog (X.alloc (.cells #[.int .i64 o, .int .i64 a, .int .i64 b] 50)) = .ok (.slice a8 (c.length + 1) c8) W8 ∧ (∀ j, j < W.heap.size → vc.ownBlock ≠ some j → W8.heap[j]? = W.heap[j]?) ∧ W.heap.size ≤ W8.heap.size ∧ Dd bE g k cur Wq (W8.setCell ⟨g, k, none⟩ (.slice a8 (c.length + 1) c8)) (.slice a8 (c.length + 1) c8) (c ++ [⟨o, a, b⟩]) := by
  obtain ⟨i0, hi, hz0, hz1, hz2⟩ := info_parts info_InsD
  have hlg := lt_of_block D.box
  have hs := hX.size
  have b1 : Below W.heap.size W (X.alloc (.cells #[.int .i64 o, .int .i64 a, .int .i64 b] 50)) := hX.alloc hs _
  obtain ⟨a8, c8, W8, q1, q2, q3, q4⟩ := app_next (ty := 46) Tryd.underlying46 hi hz0 hz1 hz2 rfl (by decide) (D.row.up b1) (by omega) (by decide) (by have := b1.size; omega) (heap_new X (.cells #[.int .i64 o, .int .i64 a, .int .i64 b] 50) rfl) rfl (by intro u hu; simp at hu; rcases hu with rfl | rfl | rfl <;> rfl) (⟨o, a, b⟩ : In3)
  have hown : ∀ j, vc.ownBlock = some j → g + 1 ≤ j := fun j hj => by
    obtain ⟨css, d1, _⟩ := D.row
    exact (own_ge d1 j hj).1
  have hold' : ∀ j, j < W.heap.size → vc.ownBlock ≠ some j → W8.heap[j]? = W.heap[j]? := fun j hj hv => (q3.block j (by have := b1.size; omega) (fun h => hv h.symm)).trans (b1.block j hj)
  have hold : ∀ j, j ≤ g → W8.heap[j]? = W.heap[j]? := fun j hj => hold' j (by omega) (fun h => by have := hown j h; omega)
  have h8 : W8.heap[g]? = some (.cells (cur.setIfInBounds k vc) 48 (0, 0)) := (hold g (Nat.le_refl _)).trans D.box
  have hs8 : W.heap.size ≤ W8.heap.size := Nat.le_trans b1.size q3.size
  have b8 : Below bE W W8 := ⟨q3.os.trans b1.os, q3.tape.trans b1.tape, q3.output.trans b1.output, hs8, fun j hj => hold j (by omega)⟩
  refine ⟨a8, c8, W8, q1, hold', hs8, (D.bel.trans b8).setCell hg _, ?_, ?_⟩
  · rw [heap_setCell_same W8 g k _ h8]
    simp
  · obtain ⟨css, d1, d2, d3, d4⟩ := q2
    refine ⟨css, ownsRow_keep d1 (fun j hj => ?_), d2, d3, fun j x hx => ?_⟩
    · have := (own_ge d1 j hj).1
      simp [World.setCell, Array.getElem?_modify, show g ≠ j by omega]
    · obtain ⟨c', e1, e2⟩ := d4 j x hx
      refine ⟨c', e1, ?_⟩
      rcases e2 with e2 | ⟨rfl, rfl⟩
      · exact e2
      · exact ⟨rfl, ho, ha, hb⟩
/-- The list at the end. -/
theorem Dd.fin {n cap : Nat} {l : List Fd} {f : Fd} {W5 : World} {j : List In3} (D : Dd bE g (n * 5 + 4) cur Wq W vc (f.co ++ j)) (A : Arr cur (FdP B W5) l) (hf : l[n]? = some f) (hB : ∀ i, i < B → W.heap[i]? = W5.heap[i]?) (hBs : B ≤ W.heap.size) (hlen : (f.co ++ j).length ≤ 1000000) (h1 : l.length ≤ cap) (h2 : cap ≤ maxLen) (h3 : l.length ≤ 100000) : SlAt 5 (FdP W.heap.size) W.heap.size W (.slice (some ⟨g, 0, none⟩) l.length cap) (l.set n (moreF f j)) := by
  have hlg := lt_of_block D.box
  refine ⟨_, cap, by rw [List.length_set], ⟨by rw [List.length_set]; omega, by rw [List.length_set]; exact h1, h2⟩, fun i x hx => ?_⟩
  rw [List.getElem?_set] at hx
  split at hx
  · rename_i e
    subst e
    rw [if_pos (get_lt hf)] at hx
    cases hx
    obtain ⟨cs, c1, c2⟩ := A _ _ hf
    obtain ⟨v1, v2, v3, v4, rfl, b0, s1, s2, s3, s4⟩ := c1
    refine ⟨g, 0, [.int .i64 f.pa, v1, v2, v3, vc], rfl, hlg, fun r u hr => cell_of D.box ?_, v1, v2, v3, vc, rfl, b0, ints_keep hBs hB s1, ints_keep hBs hB s2, ints_keep hBs hB s3, ?_⟩
    · rw [Nat.zero_add]
      match r, hr with
      | 0, hr => rw [Array.getElem?_setIfInBounds_ne (by omega)]; exact c2 0 u hr
      | 1, hr => rw [Array.getElem?_setIfInBounds_ne (by omega)]; exact c2 1 u hr
      | 2, hr => rw [Array.getElem?_setIfInBounds_ne (by omega)]; exact c2 2 u hr
      | 3, hr => rw [Array.getElem?_setIfInBounds_ne (by omega)]; exact c2 3 u hr
      | 4, hr =>
        cases hr
        have h4 := c2 4 v4 rfl
        have : n * 5 + 4 < cur.size := by
          rcases Nat.lt_or_ge (n * 5 + 4) cur.size with h | h
          · exact h
          · rw [Array.getElem?_eq_none h] at h4; cases h4
        rw [Array.getElem?_setIfInBounds_self_of_lt this]
    · exact D.row.sl (fun _ _ => rfl) (fun c x h => h) hlen
  · rename_i hne
    obtain ⟨cs, c1, c2⟩ := A _ _ hx
    refine ⟨g, 0, cs, rfl, hlg, fun r u hr => cell_of D.box ?_, fd_keep _ _ _ _ _ hBs hB c1⟩
    rw [Nat.zero_add]
    have hr5 : r < 5 := by have := get_lt hr; rw [fd_len _ _ _ c1] at this; exact this
    rw [Array.getElem?_setIfInBounds_ne (by omega)]
    exact c2 r u hr
theorem Dd.own (D : Dd bE g k cur Wq W vc c) : ∀ j, vc.ownBlock = some j → g + 1 ≤ j ∧ j < W.heap.size := by
  obtain ⟨css, d1, _⟩ := D.row
  exact own_ge d1
theorem Dd.cell (D : Dd bE g k cur Wq W vc c) (hk : k < cur.size) : W.cell? ⟨g, k, none⟩ = some vc ∧ W.frozen? ⟨g, k, none⟩ = false := by
  refine ⟨cell_of D.box (Array.getElem?_setIfInBounds_self_of_lt hk), by simp [World.frozen?, D.box]⟩
end
theorem szO_of {p : Pg} {n : Nat} {w W : World} {e : Ending} {f : Fd} {F : Fl} (h : SzO p (n : Int) w e W) (hc : (checkP p).2.2 = 0) (hf : p.fu[n]? = some f) (hF : followP p f = .ok F) : e = .returned (.tuple #[.int .i64 (szP p f F : Int), .int .i64 0]) ∧ Below w.heap.size w W := by
  obtain ⟨hb, (⟨h1, _⟩ | ⟨_, h1, _⟩ | ⟨k, f', F', _, hm, hf', hF', he⟩)⟩ := h
  · exact absurd hc h1
  · have := get_lt hf
    simp [inB] at h1
    omega
  · have : n = k := by omega
    subst this
    rw [hf] at hf'
    cases hf'
    rw [hF] at hF'
    cases hF'
    exact ⟨he, hb⟩
end Go.Proofs.YtefdilakpggggaaDoor

namespace Go.Proofs.YtefdilakpggggaaDoor
open Go.RowKit
/-- What the law makes of an instruction. -/
def fixI (i : In3) : In3 := if i.o < 1 ∨ 29 < i.o then ⟨5, i.a, i.b⟩ else i
theorem fix_snd (l : List In3) : ∀ i ∈ l.map fixI, sndI i = true := by
  intro i hi
  obtain ⟨x, _, rfl⟩ := List.mem_map.1 hi
  unfold fixI sndI
  split
  · rfl
  · rename_i h
    simp only [not_or] at h
    simp only [Bool.and_eq_true, decide_eq_true_eq]
    omega
theorem fix_take {l : List In3} {j : Nat} {x : In3} (h : l[j]? = some x) (c : List In3) : c ++ (l.take (j + 1)).map fixI = (c ++ (l.take j).map fixI) ++ [fixI x] := by
  rw [List.take_add_one, h]
  simp
/-- An instruction of a list that lies. -/
theorem ins_atD {B : Nat} {w : World} {v : Value} {l : List In3} (R : SlAt 3 InsP B w v l) {t : Nat} {x : In3} (hx : l[t]? = some x) : ∃ g o c, v = .slice (some ⟨g, o, none⟩) l.length c ∧ g < B ∧ w.cell? ⟨g, o + t * 3, none⟩ = some (.int .i64 x.o) ∧ w.cell? ⟨g, o + t * 3 + 1, none⟩ = some (.int .i64 x.a) ∧ w.cell? ⟨g, o + t * 3 + 2, none⟩ = some (.int .i64 x.b) ∧ (-9223372036854775808 ≤ x.o ∧ x.o ≤ 9223372036854775807) ∧ (-9223372036854775808 ≤ x.a ∧ x.a ≤ 9223372036854775807) ∧ (-9223372036854775808 ≤ x.b ∧ x.b ≤ 9223372036854775807) := by
  obtain ⟨ao, cap, rfl, _, hel⟩ := R
  obtain ⟨g, o, cs, rfl, h2, h3, rfl, b1, b2, b3⟩ := hel t x hx
  exact ⟨g, o, cap, rfl, h2, by have := h3 0 _ rfl; rwa [Nat.add_zero] at this, h3 1 _ rfl, h3 2 _ rfl, b1, b2, b3⟩
def DdR (bE g k : Nat) (cur : Array Value) (Wq : World) (co jl : List In3) (a : Value) (wr : World) : Prop := ∃ j : Nat, a = .int .i64 j ∧ j ≤ jl.length ∧ ∃ vc, Dd bE g k cur Wq wr vc (co ++ (jl.take j).map fixI)
section
variable {B : Nat} {w : World} {p : Pg}
set_option maxRecDepth 100000 in
set_option maxHeartbeats 1000000 in
theorem dead_main {v1 v2 v3 v4 vj : Value} {n : Nat} {f : Fd} {jl : List In3} (P : PgAt B w v1 v2 v3 v4 p) (J : SlAt 3 InsP B w vj jl) (hB : B ≤ w.heap.size) (hT : Tb w) (hb0 : 0 < B) (hc : (checkP p).2.2 = 0) (hf : p.fu[n]? = some f) (hjl : jl.length ≤ 50) (hco : f.co.length ≤ 1000) : Calls Tryd.prog 5 #[.agg #[v1, v2, v3, v4], .int .i64 (n : Int), vj] w fun e w' => e = .returned (.bool true) ∧ Below w.heap.size w w' := by
  obtain ⟨ck, cq, hq, F, G, hF, hG, hsz⟩ := dead_check (j := jl.map fixI) hc hf (by simp; omega) (fix_snd jl)
  have hfl : p.fu.length ≤ 4096 := by
    obtain ⟨_, c2, _⟩ := check_ok hc
    simp only [sndP, Bool.and_eq_true] at c2
    exact (eachB_le c2.2.1).1
  obtain ⟨a1, d1, hv1⟩ := sl_form P.ty
  obtain ⟨a3, d3, hv3⟩ := sl_form P.ta
  obtain ⟨a4, d4, hv4⟩ := sl_form P.st
  obtain ⟨aj, dj, hvj⟩ := sl_form J
  subst hv1 hv3 hv4 hvj
  obtain ⟨g0, o0, d2, n0, u1, u2, u3, u4, hv2, hn0, hnl, hg0, ⟨_, _, _, _, y4⟩, _, _, _, s4⟩ := fd_at P.fu hf
  subst hv2
  rw [hn0] at hnl
  subst hn0
  obtain ⟨a5, d5, hu4⟩ := sl_form s4
  subst hu4
  obtain ⟨W1, hW1⟩ : ∃ W1, w.alloc (.cells #[.slice a1 p.ty.length d1, .slice (some ⟨g0, o0, none⟩) p.fu.length d2, .slice a3 p.ta.length d3, .slice a4 p.st.length d4] 27) = W1 := ⟨_, rfl⟩
  have b1 : Below w.heap.size w W1 := by rw [← hW1]; exact (Below.refl _ _).alloc (Nat.le_refl _) _
  have e1 : W1.heap[w.heap.size]? = some (.cells #[.slice a1 p.ty.length d1, .slice (some ⟨g0, o0, none⟩) p.fu.length d2, .slice a3 p.ta.length d3, .slice a4 p.st.length d4] 27 (0, 0)) := by rw [← hW1]; exact heap_new _ _ rfl
  have HBX := hide (show ∀ W : World, Below W1.heap.size W1 W → W.cell? ⟨w.heap.size, 0, none⟩ = some (.slice a1 p.ty.length d1) ∧ W.cell? ⟨w.heap.size, 1, none⟩ = some (.slice (some ⟨g0, o0, none⟩) p.fu.length d2) ∧ W.cell? ⟨w.heap.size, 2, none⟩ = some (.slice a3 p.ta.length d3) ∧ W.cell? ⟨w.heap.size, 3, none⟩ = some (.slice a4 p.st.length d4) ∧ W.cell? ⟨g0, o0 + n * 5 + 4, none⟩ = some (.slice a5 f.co.length d5) from fun W h => by
    have h1 := (h.block _ (lt_of_block e1)).trans e1
    exact ⟨cell_of h1 rfl, cell_of h1 rfl, cell_of h1 rfl, cell_of h1 rfl, ((bel_tr b1 h).cell (p := ⟨g0, o0 + n * 5 + 4, none⟩) (Nat.lt_of_lt_of_le hg0 hB)).trans y4⟩)
  have HPG := hide (show ∀ W : World, (∀ j, j < B → W.heap[j]? = w.heap[j]?) → w.heap.size ≤ W.heap.size → PgAt B W (.slice a1 p.ty.length d1) (.slice (some ⟨g0, o0, none⟩) p.fu.length d2) (.slice a3 p.ta.length d3) (.slice a4 p.st.length d4) p ∧ B ≤ W.heap.size ∧ Tb W ∧ SlAt 3 InsP B W (.slice aj jl.length dj) jl ∧ SlAt 3 InsP B W (.slice a5 f.co.length d5) f.co from fun W h hs => ⟨P.keep (Nat.le_refl _) h, Nat.le_trans hB hs, hT.keep (h 0 hb0), ins_keep (Nat.le_refl _) h J, ins_keep (Nat.le_refl _) h s4⟩)
  have HPW := hide (show ∀ W : World, Below W1.heap.size W1 W → (∀ j, j < B → W.heap[j]? = w.heap[j]?) ∧ w.heap.size ≤ W.heap.size from fun W h => ⟨fun j hj => (bel_tr b1 h).block j (Nat.lt_of_lt_of_le hj hB), (bel_tr b1 h).size⟩)
  have HB1 := hide b1
  obtain ⟨k0, k1, k2, k3, k4⟩ := HBX.out W1 (Below.refl _ _)
  have hl0 := lt_of_block e1
  have PW1 := HPG.out W1 (HPW.out W1 (Below.refl _ _)).1 (HPW.out W1 (Below.refl _ _)).2
  have HCK := hide (check_any PW1.1 PW1.2.1 PW1.2.2.1 hb0)
  unfold CkO at HCK
  rw [ck] at HCK
  have HCQ := hide (show checkP p = (0, 0, 0) ∧ checkP (deadQ p n f (jl.map fixI)) = (0, 0, 0) ∧ followP p f = .ok F ∧ followP (deadQ p n f (jl.map fixI)) (moreF f (jl.map fixI)) = .ok G ∧ (deadQ p n f (jl.map fixI)).fu[n]? = some (moreF f (jl.map fixI)) ∧ szP (deadQ p n f (jl.map fixI)) (moreF f (jl.map fixI)) G = szP p f F ∧ p.fu[n]? = some f from ⟨ck, cq, hF, hG, hq, hsz, hf⟩)
  have HB0 := hide hb0
  have hBw : B ≤ w.heap.size := hB
  have t1 : decide ((p.fu.length : Int) ≤ (n : Int)) = false := by simp; omega
  have t2 : decide ((50 : Int) < (jl.length : Int)) = false := by simp; omega
  have t3 : decide ((1000 : Int) < (f.co.length : Int)) = false := by simp; omega
  have s1 : decide (p.fu.length ≤ n) = false := by simp; omega
  have s2 : decide (50 < jl.length) = false := by simp; omega
  have s3 : decide (1000 < f.co.length) = false := by simp; omega
  have z1 : decide ((n : Int) < 0) = false := by simp
  have z2 : decide (n < p.fu.length) = true := by simp; omega
  have hg0w : g0 < w.heap.size := Nat.lt_of_lt_of_le hg0 hB
  have HG0 := hide hg0
  clear P J hB hT hb0 b1 e1 hc ck cq hF hG hq hsz PW1 y4 s4 hf hg0
  go_enter Tryd.func5, Tryd.ntmps5
  go_wp2_with fail
  refine HCK.out.mono ?_
  rintro e w2 ⟨rfl, hb2⟩
  have HB2 := hide hb2
  clear hb2 k0 k1 k2 k3 k4 hW1
  have HAW := hide (awake_any w2 (HPG.out w2 (HPW.out w2 HB2.out).1 (HPW.out w2 HB2.out).2).2.2.1)
  go_wp2_with fail
  refine HAW.out.mono ?_
  rintro e w3 ⟨rfl, hb3⟩
  have HB3 := hide (bel_tr HB2.out hb3)
  clear hb3
  obtain ⟨k0, k1, k2, k3, k4⟩ := HBX.out w3 HB3.out
  have hl3 : w.heap.size < w3.heap.size := Nat.lt_of_lt_of_le hl0 HB3.out.size
  have hg3 : g0 < w3.heap.size := by omega
  go_upto_region 5 with (fail)
  clear HCK HAW k0 k1 k2 k3 k4 t1 t2 t3 s1 s2 s3 z1
  generalize hW4 : w3.alloc (.cells #[.slice a1 p.ty.length d1, .slice (some ⟨g0, o0, none⟩) p.fu.length d2, .slice a3 p.ta.length d3, .slice a4 p.st.length d4] 27) = W4
  have e4 : W4.heap[w3.heap.size]? = some (.cells #[.slice a1 p.ty.length d1, .slice (some ⟨g0, o0, none⟩) p.fu.length d2, .slice a3 p.ta.length d3, .slice a4 p.st.length d4] 27 (0, 0)) := by rw [← hW4]; exact heap_new _ _ rfl
  have HB4 := hide (show Below W1.heap.size W1 W4 by rw [← hW4]; exact HB3.out.alloc HB3.out.size _)
  have HE4 := hide e4
  have hW1b : W1.heap.size ≤ w3.heap.size := HB3.out.size
  have h4s : w3.heap.size < W4.heap.size := lt_of_block e4
  clear hW4 e4
  generalize w3.heap.size = b at *
  obtain ⟨k0, k1, k2, k3, k4⟩ := HBX.out W4 HB4.out
  have P4 := (HPG.out W4 (HPW.out W4 HB4.out).1 (HPW.out W4 HB4.out).2).1
  have c4 : Below W4.heap.size W4 (W4.alloc (.cells #[] 48)) := (Below.refl _ _).alloc (Nat.le_refl _) _
  have R5 : SlAt 5 (FdP B) B (W4.alloc (.cells #[] 48)) (.slice (some ⟨g0, o0, none⟩) p.fu.length d2) p.fu := P4.fu.keep (Nat.le_refl _) (fun j hj => c4.block j (by omega)) (fun cs x h => fd_keep _ _ _ cs x (Nat.le_refl _) (fun j hj => c4.block j (by omega)) h)
  obtain ⟨i0, hi, hz0, hz1, hz2⟩ := info_parts info_Fn
  obtain ⟨v5, W6, r1, r2, r3, _, r5⟩ := app_first (ty := 23) Tryd.underlying23 hi hz0 hz1 hz2 rfl (by decide) R5 (fd_len _) (fd_one _) (by omega) (by decide) (heap_new W4 (.cells #[] 48) rfl)
  obtain ⟨g, cap, cur, rfl, hge, hbk, hc1, hc2, hA⟩ := r2.arr (by omega)
  have b6 : Below W4.heap.size W4 W6 := c4.trans r3
  have e8 := (b6.block _ h4s).trans HE4.out
  have k8 : W6.cell? ⟨b, 1, none⟩ = some (.slice (some ⟨g0, o0, none⟩) p.fu.length d2) := cell_of e8 rfl
  have z8 : W6.frozen? ⟨b, 1, none⟩ = false := by simp [World.frozen?, e8]
  have HQ1 := hide b6
  have hlx : w.heap.size < W4.heap.size := by omega
  have HA := hide hA
  have HBK := hide hbk
  clear P4 c4 R5 i0 hi hz0 hz1 hz2 r2 r3 r5 hA hbk b6
  go_upto_region 6 with (at_builtin; (refine wpList_append_eq rfl _ _ 23 23 rfl rfl rfl r1 ?_; clear r1))
  obtain ⟨m1, m2, m3, m4, m5, m6⟩ := box_step (o := 1) (u := .slice (some ⟨g, 0, none⟩) p.fu.length cap) HQ1.out HE4.out
  clear k8 z8 e8 k0 k1 k2 k3 k4
  generalize hWn : W6.setCell ⟨b, 1, none⟩ (.slice (some ⟨g, 0, none⟩) p.fu.length cap) = Wq at *
  have hbg : b < g := by omega
  have hgq : g < Wq.heap.size := by rw [m3]; exact lt_of_block HBK.out
  have HBQ := hide (show Below W1.heap.size W1 Wq from HB4.out.trans ⟨m6.1, m6.2.1, m6.2.2, m2, fun j hj => m5 j (by omega) (by omega)⟩)
  have HEQ := hide m1
  have HKQ := hide ((m4 g (by omega)).trans HBK.out)
  have hBb : B ≤ b := by omega
  have HFB := hide (show ∀ j, j < B → (W4.alloc (.cells #[] 48)).heap[j]? = w.heap[j]? from fun j hj => (heap_alloc_old _ _ (by omega)).trans ((HPW.out W4 HB4.out).1 j hj))
  generalize W4.alloc (.cells #[] 48) = W5 at *
  have hwb : w.heap.size < b := by omega
  have hwW : w.heap.size < W1.heap.size := hl0
  clear m1 m2 m3 m4 m5 m6 hWn HQ1 HE4 HBK HB4 hge h4s hlx
  have HKS := hide (show ∀ W : World, (∀ j, j < g → W.heap[j]? = Wq.heap[j]?) → (fun W : World => W.cell? ⟨b, 1, none⟩ = some (.slice (some ⟨g, 0, none⟩) p.fu.length cap) ∧ W.cell? ⟨w.heap.size, 1, none⟩ = some (.slice (some ⟨g0, o0, none⟩) p.fu.length d2) ∧ W.cell? ⟨g0, o0 + n * 5 + 4, none⟩ = some (.slice a5 f.co.length d5)) W from fun W h => by
    obtain ⟨_, y1, _, _, y4⟩ := HBX.out Wq HBQ.out
    exact ⟨(World.cell?_of_block (a := ⟨b, 1, none⟩) (h b (by omega))).trans (cell_of HEQ.out rfl), (World.cell?_of_block (a := ⟨w.heap.size, 1, none⟩) (h w.heap.size (by omega))).trans y1, (World.cell?_of_block (a := ⟨g0, o0 + n * 5 + 4, none⟩) (h g0 (by omega))).trans y4⟩)
  have PQ := (HPG.out Wq (HPW.out Wq HBQ.out).1 (HPW.out Wq HBQ.out).2).2.2.2.2
  obtain ⟨c', W6', r1, q1, D⟩ := dd_first (k := n * 5 + 4) (bE := b + 1) HKQ.out (by omega) (by omega) PQ hco (below_drew (Below.refl Wq.heap.size Wq))
  obtain ⟨a6, c6, rfl⟩ : ∃ a c, c' = .slice a f.co.length c := by
    obtain ⟨css, dd1, _⟩ := D.row
    exact row_form dd1
  have HD := hide D
  have hkc : n * 5 + 4 < cur.size := by
    obtain ⟨cs, c1, c2⟩ := HA.out n f HCQ.out.2.2.2.2.2.2
    obtain ⟨v1, v2, v3, v4, rfl, _⟩ := c1
    have h4 := c2 4 v4 rfl
    rcases Nat.lt_or_ge (n * 5 + 4) cur.size with h | h
    · exact h
    · rw [Array.getElem?_eq_none h] at h4; cases h4
  have e6 := (q1.block _ hgq).trans HKQ.out
  obtain ⟨u8, hu8⟩ : ∃ u, cur[n * 5 + 4]? = some u := ⟨cur[n * 5 + 4], by simp⟩
  have k8 : W6'.cell? ⟨g, n * 5 + 4, none⟩ = some u8 := cell_of e6 hu8
  have z8 : W6'.frozen? ⟨g, n * 5 + 4, none⟩ = false := by simp [World.frozen?, e6]
  have HQ1 := hide q1
  have HDS := hide (show ∀ j, j < g → (W6'.setCell ⟨g, n * 5 + 4, none⟩ (.slice a6 f.co.length c6)).heap[j]? = W6'.heap[j]? from fun j hj => by simp [World.setCell, Array.getElem?_modify, Nat.ne_of_gt hj])
  clear PQ D q1 e6
  refine wp_region_held_drew (S := (fun W : World => W.cell? ⟨b, 1, none⟩ = some (.slice (some ⟨g, 0, none⟩) p.fu.length cap) ∧ W.cell? ⟨w.heap.size, 1, none⟩ = some (.slice (some ⟨g0, o0, none⟩) p.fu.length d2) ∧ W.cell? ⟨g0, o0 + n * 5 + 4, none⟩ = some (.slice a5 f.co.length d5))) (by kernel_rfl) (HKS.out _ (fun j hj => rfl)) (fun hHeld1 => ?_)
  refine wpAnyH_take (i := 0) (oi := { dst := some 65, op := Go.Op.fieldAddr 27 (Go.Operand.tmp 10) 1, type := 0, pos := "law.go:60", after := #[], guard := none }) (v := ?v2) rfl (by kernel_rfl) (by kernel_rfl) (by kernel_rfl) (fun _ _ _ h => h) (Or.inl ⟨by rfl, ?hy2⟩) (by assumption) ?_
  case hy2 => (intro W hSw; (try dsimp only at hSw); go_simp; try with_reducible rfl)
  try simp only [Act.put, List.setIfInBounds_toArray, List.set_cons_zero, List.set_cons_succ]
  refine wpAnyH_take (i := 1) (oi := { dst := some 66, op := Go.Op.load 23 (Go.Operand.tmp 65), type := 23, pos := "law.go:60", after := #[{ on := 0, ground := Go.Ground.data }], guard := none }) (v := ?v3) rfl (by kernel_rfl) (by kernel_rfl) (by kernel_rfl) (fun _ _ _ h => h) (Or.inl ⟨by rfl, ?hy3⟩) (by assumption) ?_
  case hy3 => (intro W hSw; (try dsimp only at hSw); go_simp; try with_reducible rfl)
  try simp only [Act.put, List.setIfInBounds_toArray, List.set_cons_zero, List.set_cons_succ]
  refine wpAnyH_take (i := 2) (oi := { dst := some 67, op := Go.Op.move (Go.Operand.tmp 1), type := 3, pos := "law.go:60", after := #[], guard := none }) (v := ?v4) rfl (by kernel_rfl) (by kernel_rfl) (by kernel_rfl) (fun _ _ _ h => h) (Or.inl ⟨by rfl, ?hy4⟩) (by assumption) ?_
  case hy4 => (intro W hSw; (try dsimp only at hSw); go_simp; try with_reducible rfl)
  try simp only [Act.put, List.setIfInBounds_toArray, List.set_cons_zero, List.set_cons_succ]
  refine wpAnyH_take (i := 4) (oi := { dst := some 69, op := Go.Op.fieldAddr 27 (Go.Operand.tmp 3) 1, type := 0, pos := "law.go:60", after := #[], guard := none }) (v := ?v5) rfl (by kernel_rfl) (by kernel_rfl) (by kernel_rfl) (fun _ _ _ h => h) (Or.inl ⟨by rfl, ?hy5⟩) (by assumption) ?_
  case hy5 => (intro W hSw; (try dsimp only at hSw); go_simp; try with_reducible rfl)
  try simp only [Act.put, List.setIfInBounds_toArray, List.set_cons_zero, List.set_cons_succ]
  refine wpAnyH_take (i := 5) (oi := { dst := some 70, op := Go.Op.load 23 (Go.Operand.tmp 69), type := 23, pos := "law.go:60", after := #[{ on := 4, ground := Go.Ground.data }], guard := none }) (v := ?v6) rfl (by kernel_rfl) (by kernel_rfl) (by kernel_rfl) (fun _ _ _ h => h) (Or.inl ⟨by rfl, ?hy6⟩) (by assumption) ?_
  case hy6 => (intro W hSw; (try dsimp only at hSw); go_simp; try with_reducible rfl)
  try simp only [Act.put, List.setIfInBounds_toArray, List.set_cons_zero, List.set_cons_succ]
  refine wpAnyH_take (i := 6) (oi := { dst := some 71, op := Go.Op.move (Go.Operand.tmp 1), type := 3, pos := "law.go:60", after := #[], guard := none }) (v := ?v7) rfl (by kernel_rfl) (by kernel_rfl) (by kernel_rfl) (fun _ _ _ h => h) (Or.inl ⟨by rfl, ?hy7⟩) (by assumption) ?_
  case hy7 => (intro W hSw; (try dsimp only at hSw); go_simp; try with_reducible rfl)
  try simp only [Act.put, List.setIfInBounds_toArray, List.set_cons_zero, List.set_cons_succ]
  refine wpAnyH_take (i := 7) (oi := { dst := some 72, op := Go.Op.indexAddr 23 (Go.Operand.tmp 70) (Go.Operand.tmp 71), type := 0, pos := "law.go:60", after := #[{ on := 5, ground := Go.Ground.data }, { on := 6, ground := Go.Ground.data }], guard := none }) (v := ?v8) rfl (by kernel_rfl) (by kernel_rfl) (by kernel_rfl) (fun _ _ _ h => h) (Or.inl ⟨by rfl, ?hy8⟩) (by assumption) ?_
  case hy8 => (intro W hSw; (try dsimp only at hSw); go_simp; try with_reducible rfl)
  try simp only [Act.put, List.setIfInBounds_toArray, List.set_cons_zero, List.set_cons_succ]
  refine wpAnyH_take (i := 8) (oi := { dst := some 73, op := Go.Op.fieldAddr 48 (Go.Operand.tmp 72) 4, type := 0, pos := "law.go:60", after := #[{ on := 7, ground := Go.Ground.data }], guard := none }) (v := ?v9) rfl (by kernel_rfl) (by kernel_rfl) (by kernel_rfl) (fun _ _ _ h => h) (Or.inl ⟨by rfl, ?hy9⟩) (by assumption) ?_
  case hy9 => (intro W hSw; (try dsimp only at hSw); go_simp; try with_reducible rfl)
  try simp only [Act.put, List.setIfInBounds_toArray, List.set_cons_zero, List.set_cons_succ]
  refine wpAnyH_take (i := 9) (oi := { dst := some 74, op := Go.Op.load 46 (Go.Operand.tmp 73), type := 46, pos := "law.go:60", after := #[{ on := 8, ground := Go.Ground.data }], guard := none }) (v := ?v10) rfl (by kernel_rfl) (by kernel_rfl) (by kernel_rfl) (fun _ _ _ h => h) (Or.inl ⟨by rfl, ?hy10⟩) (by assumption) ?_
  case hy10 => (intro W hSw; (try dsimp only at hSw); go_simp; try with_reducible rfl)
  try simp only [Act.put, List.setIfInBounds_toArray, List.set_cons_zero, List.set_cons_succ]
  refine wpAnyH_ready (rs := [3]) (by kernel_rfl) (by simp) ?_
  refine AllReadyH.cons (o := { dst := some 68, op := Go.Op.buildSlice 46 0 #[], type := 46, pos := "law.go:60", after := #[], guard := none }) rfl (fun K hK => ?_) AllReadyH.nil
  go_simp
  go_wp2_with fail
  refine hK.out _ _ (HKS.out _ (fun j hj => heap_alloc_old Wq.drew _ (by simp; omega))) (fun hHeld11 => ?_)
  clear hK K
  try simp only [Act.put, List.setIfInBounds_toArray, List.set_cons_zero, List.set_cons_succ]
  refine wpAnyH_ready (rs := [10]) (by kernel_rfl) (by simp) ?_
  refine AllReadyH.cons (o := { dst := some 75, op := Go.Op.call { callee := Go.Callee.builtin Go.Builtin.append, args := #[Go.Operand.tmp 68, Go.Operand.tmp 74], argTypes := #[46, 46] }, type := 46, pos := "law.go:60", after := #[{ on := 3, ground := Go.Ground.data }, { on := 9, ground := Go.Ground.data }], guard := none }) rfl (fun K hK => ?_) AllReadyH.nil
  refine step_append_eq (by rfl) _ _ 46 46 (by rfl) (by rfl) (by rfl) r1 ?_
  refine hK.out _ _ (HKS.out _ (fun j hj => HQ1.out.block j (by omega))) (fun hHeld12 => ?_)
  clear hK K
  try simp only [Act.put, List.setIfInBounds_toArray, List.set_cons_zero, List.set_cons_succ]
  refine wpAnyH_ready (rs := [11]) (by kernel_rfl) (by simp) ?_
  refine AllReadyH.cons (o := { dst := some 76, op := Go.Op.indexAddr 23 (Go.Operand.tmp 66) (Go.Operand.tmp 67), type := 0, pos := "law.go:60", after := #[{ on := 1, ground := Go.Ground.data }, { on := 2, ground := Go.Ground.data }, { on := 0, ground := Go.Ground.phase }, { on := 1, ground := Go.Ground.phase }, { on := 2, ground := Go.Ground.phase }, { on := 3, ground := Go.Ground.phase }, { on := 4, ground := Go.Ground.phase }, { on := 5, ground := Go.Ground.phase }, { on := 6, ground := Go.Ground.phase }, { on := 7, ground := Go.Ground.phase }, { on := 8, ground := Go.Ground.phase }, { on := 9, ground := Go.Ground.phase }, { on := 10, ground := Go.Ground.phase }], guard := none }) rfl (fun K hK => ?_) AllReadyH.nil
  go_simp
  go_wp2_with fail
  refine hK.out _ _ (HKS.out _ (fun j hj => HQ1.out.block j (by omega))) (fun hHeld13 => ?_)
  clear hK K
  try simp only [Act.put, List.setIfInBounds_toArray, List.set_cons_zero, List.set_cons_succ]
  refine wpAnyH_ready (rs := [12]) (by kernel_rfl) (by simp) ?_
  refine AllReadyH.cons (o := { dst := some 77, op := Go.Op.fieldAddr 48 (Go.Operand.tmp 76) 4, type := 0, pos := "law.go:60", after := #[{ on := 11, ground := Go.Ground.data }, { on := 0, ground := Go.Ground.phase }, { on := 1, ground := Go.Ground.phase }, { on := 2, ground := Go.Ground.phase }, { on := 3, ground := Go.Ground.phase }, { on := 4, ground := Go.Ground.phase }, { on := 5, ground := Go.Ground.phase }, { on := 6, ground := Go.Ground.phase }, { on := 7, ground := Go.Ground.phase }, { on := 8, ground := Go.Ground.phase }, { on := 9, ground := Go.Ground.phase }, { on := 10, ground := Go.Ground.phase }], guard := none }) rfl (fun K hK => ?_) AllReadyH.nil
  go_simp
  go_wp2_with fail
  refine hK.out _ _ (HKS.out _ (fun j hj => HQ1.out.block j (by omega))) (fun hHeld14 => ?_)
  clear hK K
  try simp only [Act.put, List.setIfInBounds_toArray, List.set_cons_zero, List.set_cons_succ]
  refine wpAnyH_ready (rs := [13]) (by kernel_rfl) (by simp) ?_
  refine AllReadyH.cons (o := { dst := none, op := Go.Op.store 46 (Go.Operand.tmp 77) (Go.Operand.tmp 75), type := 0, pos := "law.go:60", after := #[{ on := 12, ground := Go.Ground.data }, { on := 10, ground := Go.Ground.data }, { on := 10, ground := Go.Ground.chain }, { on := 0, ground := Go.Ground.phase }, { on := 1, ground := Go.Ground.phase }, { on := 2, ground := Go.Ground.phase }, { on := 3, ground := Go.Ground.phase }, { on := 4, ground := Go.Ground.phase }, { on := 5, ground := Go.Ground.phase }, { on := 6, ground := Go.Ground.phase }, { on := 7, ground := Go.Ground.phase }, { on := 8, ground := Go.Ground.phase }, { on := 9, ground := Go.Ground.phase }, { on := 10, ground := Go.Ground.phase }], guard := none }) rfl (fun K hK => ?_) AllReadyH.nil
  go_simp
  go_wp2_with fail
  refine hK.out _ _ (HKS.out _ (fun j hj => (HDS.out j hj).trans (HQ1.out.block j (by omega)))) (fun hHeld15 => ?_)
  clear hK K
  try simp only [Act.put, List.setIfInBounds_toArray, List.set_cons_zero, List.set_cons_succ]
  refine wpAnyH_done (by kernel_rfl) ?_ _
  clear HDS k8 z8 hu8 HQ1 HKS r1
  generalize W6'.setCell ⟨g, n * 5 + 4, none⟩ (.slice a6 f.co.length c6) = W0 at *
  have HDW := hide (show ∀ W : World, Below (b + 1) Wq W → (∀ j, j < B → W.heap[j]? = w.heap[j]?) ∧ w.heap.size ≤ W.heap.size ∧ Below w.heap.size w W ∧ W.heap[b]? = Wq.heap[b]? from fun W h => by
    obtain ⟨x1, x2⟩ := HPW.out Wq HBQ.out
    have hbw := (HB1.out.trans (HBQ.out.mono (by omega))).trans (h.mono (show w.heap.size ≤ b + 1 by omega))
    exact ⟨fun j hj => (h.block j (by omega)).trans (x1 j hj), Nat.le_trans x2 h.size, hbw, h.block b (by omega)⟩)
  have HBXQ := hide (show ∀ W : World, Below (b + 1) Wq W → W.cell? ⟨w.heap.size, 0, none⟩ = some (.slice a1 p.ty.length d1) ∧ W.cell? ⟨w.heap.size, 1, none⟩ = some (.slice (some ⟨g0, o0, none⟩) p.fu.length d2) ∧ W.cell? ⟨w.heap.size, 2, none⟩ = some (.slice a3 p.ta.length d3) ∧ W.cell? ⟨w.heap.size, 3, none⟩ = some (.slice a4 p.st.length d4) ∧ W.cell? ⟨b, 0, none⟩ = some (.slice a1 p.ty.length d1) ∧ W.cell? ⟨b, 1, none⟩ = some (.slice (some ⟨g, 0, none⟩) p.fu.length cap) ∧ W.cell? ⟨b, 2, none⟩ = some (.slice a3 p.ta.length d3) ∧ W.cell? ⟨b, 3, none⟩ = some (.slice a4 p.st.length d4) from fun W h => by
    obtain ⟨y0, y1, y2, y3, _⟩ := HBX.out Wq HBQ.out
    have hb1 : W.heap[w.heap.size]? = Wq.heap[w.heap.size]? := h.block _ (by omega)
    have hb2 := (h.block b (by omega)).trans HEQ.out
    exact ⟨(World.cell?_of_block (a := ⟨w.heap.size, 0, none⟩) hb1).trans y0, (World.cell?_of_block (a := ⟨w.heap.size, 1, none⟩) hb1).trans y1, (World.cell?_of_block (a := ⟨w.heap.size, 2, none⟩) hb1).trans y2, (World.cell?_of_block (a := ⟨w.heap.size, 3, none⟩) hb1).trans y3, cell_of hb2 rfl, cell_of hb2 rfl, cell_of hb2 rfl, cell_of hb2 rfl⟩)
  go_wp2_with fail
  go_loopw [11] (fun a wr => DdR (b + 1) g (n * 5 + 4) cur Wq f.co jl a wr) (fun a _ => jl.length - (intOf a).toNat)
  case atStart => exact ⟨0, rfl, Nat.zero_le _, _, by simpa using HD.out⟩
  case round =>
    obtain ⟨j, rfl, hj, vc, D⟩ := hrel
    obtain ⟨x1, x2, x3, x4⟩ := HDW.out wr D.bel
    have HXW := hide x3
    have PW := HPG.out wr x1 x2
    have hgr : g < wr.heap.size := lt_of_block D.box
    clear x1 x2 x3 x4
    by_cases hlt : j < jl.length
    · obtain ⟨x, hx⟩ : ∃ x, jl[j]? = some x := ⟨jl[j], by simp⟩
      obtain ⟨gj, oj, cj, hvj, hgj, y0, y1, y2, bo, ba, bb⟩ := ins_atD PW.2.2.2.1 hx
      cases hvj
      have hgw : gj < wr.heap.size := by omega
      have HNX := hide (fix_take hx f.co)
      have HLN := hide (show (f.co ++ (jl.take j).map fixI).length ≤ 2000 from by simp; omega)
      have dd1 : decide (j < jl.length) = true := by simpa using hlt
      have dd3 : (j : Int) ≤ 50 := by omega
      have HX := hide hx
      have HD := hide D
      generalize f.co ++ (jl.take j).map fixI = c at *
      have HDO := hide (show ∀ i, i ≤ g ∨ i = wr.heap.size → vc.ownBlock ≠ some i from fun i hi h => by have := HD.out.own i h; omega)
      clear PW D hx
      obtain ⟨q0, q1, q2, q3, q4, q5, q6, q7⟩ := HBXQ.out wr HD.out.bel
      obtain ⟨xo, xa, xb⟩ := x
      dsimp only at y0 y1 y2 bo ba bb
      by_cases h1 : xo < 1
      · have t1 : decide (xo < 1) = true := by simpa using h1
        go_upto_region 13 with (fail)
        have hW2 : ∃ W2, wr.alloc (.cells #[.int .i64 5, .int .i64 xa, .int .i64 xb] 50) = W2 := ⟨_, rfl⟩
        obtain ⟨W2, hW2⟩ := hW2
        rw [hW2]
        have HE2 := hide (show W2.heap[wr.heap.size]? = some (.cells #[.int .i64 5, .int .i64 xa, .int .i64 xb] 50 (0, 0)) from by rw [← hW2]; exact heap_new _ _ rfl)
        have HB2 := hide (show Below wr.heap.size wr W2 from by rw [← hW2]; exact (Below.refl _ _).alloc (Nat.le_refl _) _)
        have hFX : fixI ⟨xo, xa, xb⟩ = ⟨5, xa, xb⟩ := by unfold fixI; first | rw [if_pos (by first | (left; exact h1) | (right; exact h2))] | rw [if_neg (by simp only [not_or]; exact ⟨h1, h2⟩)]
        rw [hFX] at HNX
        clear hW2 hFX y0 y1 y2 q0 q1 q2 q3 q4 q5 q6 q7
        have D2 := HD.out.up HB2.out (by omega)
        obtain ⟨a8, c8, W8, r1, p1, p2, D3⟩ := dd_next (o := 5) (a := xa) (b := xb) D2 (by omega) HLN.out ⟨by decide, by decide⟩ ba bb (below_drew (Below.refl W2.heap.size W2))
        have hI : wr.heap.size < W2.heap.size := lt_of_block HE2.out
        have hg2 : g < W2.heap.size := by omega
        have HP1 := hide (show ∀ i, i ≤ g ∨ i = wr.heap.size → W8.heap[i]? = W2.heap[i]? from fun i hi => p1 i (by omega) (HDO.out i hi))
        have kv : W2.cell? ⟨g, n * 5 + 4, none⟩ = some vc := (D2.cell hkc).1
        have k8 : W8.cell? ⟨g, n * 5 + 4, none⟩ = some vc := (World.cell?_of_block (a := ⟨g, n * 5 + 4, none⟩) (HP1.out g (by omega))).trans kv
        have z8 : W8.frozen? ⟨g, n * 5 + 4, none⟩ = false := by simp [World.frozen?, HP1.out g (by omega), D2.box]
        have HKS := hide (show ∀ W : World, (∀ i, i < g ∨ i = wr.heap.size → W.heap[i]? = W2.heap[i]?) → (fun W : World => W.cell? ⟨b, 1, none⟩ = some (.slice (some ⟨g, 0, none⟩) p.fu.length cap) ∧ W.cell? ⟨wr.heap.size, 0, none⟩ = some (.int .i64 5) ∧ W.cell? ⟨wr.heap.size, 1, none⟩ = some (.int .i64 xa) ∧ W.cell? ⟨wr.heap.size, 2, none⟩ = some (.int .i64 xb)) W from fun W h => by
          have e2 := (h wr.heap.size (.inr rfl)).trans HE2.out
          exact ⟨(World.cell?_of_block (a := ⟨b, 1, none⟩) (h b (by omega))).trans (HBXQ.out W2 D2.bel).2.2.2.2.2.1, cell_of e2 rfl, cell_of e2 rfl, cell_of e2 rfl⟩)
        have HDS := hide (show ∀ i, i < g ∨ i = wr.heap.size → (W8.setCell ⟨g, n * 5 + 4, none⟩ (.slice a8 (c.length + 1) c8)).heap[i]? = W8.heap[i]? from fun i hi => by simp [World.setCell, Array.getElem?_modify, show g ≠ i by omega])
        have HD3 := hide D3
        clear D2 D3 p1 p2
        refine wp_region_held_drew (S := (fun W : World => W.cell? ⟨b, 1, none⟩ = some (.slice (some ⟨g, 0, none⟩) p.fu.length cap) ∧ W.cell? ⟨wr.heap.size, 0, none⟩ = some (.int .i64 5) ∧ W.cell? ⟨wr.heap.size, 1, none⟩ = some (.int .i64 xa) ∧ W.cell? ⟨wr.heap.size, 2, none⟩ = some (.int .i64 xb))) (by kernel_rfl) (HKS.out _ (fun i hi => rfl)) (fun hHeld16 => ?_)
        refine wpAnyH_take (i := 0) (oi := { dst := some 97, op := Go.Op.fieldAddr 27 (Go.Operand.tmp 10) 1, type := 0, pos := "law.go:66", after := #[], guard := none }) (v := ?v17) rfl (by kernel_rfl) (by kernel_rfl) (by kernel_rfl) (fun _ _ _ h => h) (Or.inl ⟨by rfl, ?hy17⟩) (by assumption) ?_
        case hy17 => (intro W hSw; (try dsimp only at hSw); go_simp; try with_reducible rfl)
        try simp only [Act.put, List.setIfInBounds_toArray, List.set_cons_zero, List.set_cons_succ]
        refine wpAnyH_take (i := 1) (oi := { dst := some 98, op := Go.Op.load 23 (Go.Operand.tmp 97), type := 23, pos := "law.go:66", after := #[{ on := 0, ground := Go.Ground.data }], guard := none }) (v := ?v18) rfl (by kernel_rfl) (by kernel_rfl) (by kernel_rfl) (fun _ _ _ h => h) (Or.inl ⟨by rfl, ?hy18⟩) (by assumption) ?_
        case hy18 => (intro W hSw; (try dsimp only at hSw); go_simp; try with_reducible rfl)
        try simp only [Act.put, List.setIfInBounds_toArray, List.set_cons_zero, List.set_cons_succ]
        refine wpAnyH_take (i := 2) (oi := { dst := some 99, op := Go.Op.move (Go.Operand.tmp 1), type := 3, pos := "law.go:66", after := #[], guard := none }) (v := ?v19) rfl (by kernel_rfl) (by kernel_rfl) (by kernel_rfl) (fun _ _ _ h => h) (Or.inl ⟨by rfl, ?hy19⟩) (by assumption) ?_
        case hy19 => (intro W hSw; (try dsimp only at hSw); go_simp; try with_reducible rfl)
        try simp only [Act.put, List.setIfInBounds_toArray, List.set_cons_zero, List.set_cons_succ]
        refine wpAnyH_take (i := 3) (oi := { dst := some 100, op := Go.Op.fieldAddr 27 (Go.Operand.tmp 10) 1, type := 0, pos := "law.go:66", after := #[], guard := none }) (v := ?v20) rfl (by kernel_rfl) (by kernel_rfl) (by kernel_rfl) (fun _ _ _ h => h) (Or.inl ⟨by rfl, ?hy20⟩) (by assumption) ?_
        case hy20 => (intro W hSw; (try dsimp only at hSw); go_simp; try with_reducible rfl)
        try simp only [Act.put, List.setIfInBounds_toArray, List.set_cons_zero, List.set_cons_succ]
        refine wpAnyH_take (i := 4) (oi := { dst := some 101, op := Go.Op.load 23 (Go.Operand.tmp 100), type := 23, pos := "law.go:66", after := #[{ on := 3, ground := Go.Ground.data }], guard := none }) (v := ?v21) rfl (by kernel_rfl) (by kernel_rfl) (by kernel_rfl) (fun _ _ _ h => h) (Or.inl ⟨by rfl, ?hy21⟩) (by assumption) ?_
        case hy21 => (intro W hSw; (try dsimp only at hSw); go_simp; try with_reducible rfl)
        try simp only [Act.put, List.setIfInBounds_toArray, List.set_cons_zero, List.set_cons_succ]
        refine wpAnyH_take (i := 5) (oi := { dst := some 102, op := Go.Op.move (Go.Operand.tmp 1), type := 3, pos := "law.go:66", after := #[], guard := none }) (v := ?v22) rfl (by kernel_rfl) (by kernel_rfl) (by kernel_rfl) (fun _ _ _ h => h) (Or.inl ⟨by rfl, ?hy22⟩) (by assumption) ?_
        case hy22 => (intro W hSw; (try dsimp only at hSw); go_simp; try with_reducible rfl)
        try simp only [Act.put, List.setIfInBounds_toArray, List.set_cons_zero, List.set_cons_succ]
        refine wpAnyH_take (i := 6) (oi := { dst := some 103, op := Go.Op.indexAddr 23 (Go.Operand.tmp 101) (Go.Operand.tmp 102), type := 0, pos := "law.go:66", after := #[{ on := 4, ground := Go.Ground.data }, { on := 5, ground := Go.Ground.data }], guard := none }) (v := ?v23) rfl (by kernel_rfl) (by kernel_rfl) (by kernel_rfl) (fun _ _ _ h => h) (Or.inl ⟨by rfl, ?hy23⟩) (by assumption) ?_
        case hy23 => (intro W hSw; (try dsimp only at hSw); go_simp; try with_reducible rfl)
        try simp only [Act.put, List.setIfInBounds_toArray, List.set_cons_zero, List.set_cons_succ]
        refine wpAnyH_take (i := 7) (oi := { dst := some 104, op := Go.Op.fieldAddr 48 (Go.Operand.tmp 103) 4, type := 0, pos := "law.go:66", after := #[{ on := 6, ground := Go.Ground.data }], guard := none }) (v := ?v24) rfl (by kernel_rfl) (by kernel_rfl) (by kernel_rfl) (fun _ _ _ h => h) (Or.inl ⟨by rfl, ?hy24⟩) (by assumption) ?_
        case hy24 => (intro W hSw; (try dsimp only at hSw); go_simp; try with_reducible rfl)
        try simp only [Act.put, List.setIfInBounds_toArray, List.set_cons_zero, List.set_cons_succ]
        refine wpAnyH_take (i := 9) (oi := { dst := some 106, op := Go.Op.load 50 (Go.Operand.tmp 12), type := 50, pos := "law.go:66", after := #[], guard := none }) (v := ?v25) rfl (by kernel_rfl) (by kernel_rfl) (by kernel_rfl) (fun _ _ _ h => h) (Or.inl ⟨by rfl, ?hy25⟩) (by assumption) ?_
        case hy25 => (intro W hSw; (try dsimp only at hSw); go_simp; try with_reducible rfl)
        try simp only [Act.put, List.setIfInBounds_toArray, List.set_cons_zero, List.set_cons_succ]
        refine wpAnyH_ready (rs := [8, 10]) (by kernel_rfl) (by simp) ?_
        refine AllReadyH.cons (o := { dst := some 105, op := Go.Op.load 46 (Go.Operand.tmp 104), type := 46, pos := "law.go:66", after := #[{ on := 7, ground := Go.Ground.data }], guard := none }) rfl (fun K hK => ?_) (AllReadyH.cons (o := { dst := some 107, op := Go.Op.buildSlice 46 1 #[(0, Go.Operand.tmp 106)], type := 46, pos := "law.go:66", after := #[{ on := 9, ground := Go.Ground.data }], guard := none }) rfl (fun K hK => ?_) AllReadyH.nil)
        · skip
          go_simp
          go_wp2_with fail
          refine hK.out _ _ (HKS.out _ (fun i hi => rfl)) (fun hHeld26 => ?_)
          clear hK K
          try simp only [Act.put, List.setIfInBounds_toArray, List.set_cons_zero, List.set_cons_succ]
          refine wpAnyH_ready (rs := [10]) (by kernel_rfl) (by simp) ?_
          refine AllReadyH.cons (o := { dst := some 107, op := Go.Op.buildSlice 46 1 #[(0, Go.Operand.tmp 106)], type := 46, pos := "law.go:66", after := #[{ on := 9, ground := Go.Ground.data }], guard := none }) rfl (fun K hK => ?_) AllReadyH.nil
          go_simp
          go_wp2_with fail
          refine hK.out _ _ (HKS.out _ (fun i hi => heap_alloc_old W2.drew _ (by simp; omega))) (fun hHeld27 => ?_)
          clear hK K
          try simp only [Act.put, List.setIfInBounds_toArray, List.set_cons_zero, List.set_cons_succ]
          refine wpAnyH_ready (rs := [11]) (by kernel_rfl) (by simp) ?_
          refine AllReadyH.cons (o := { dst := some 108, op := Go.Op.call { callee := Go.Callee.builtin Go.Builtin.append, args := #[Go.Operand.tmp 105, Go.Operand.tmp 107], argTypes := #[46, 46] }, type := 46, pos := "law.go:66", after := #[{ on := 8, ground := Go.Ground.data }, { on := 10, ground := Go.Ground.data }], guard := none }) rfl (fun K hK => ?_) AllReadyH.nil
          refine step_append_eq (by rfl) _ _ 46 46 (by rfl) (by rfl) (by rfl) r1 ?_
          refine hK.out _ _ (HKS.out _ (fun i hi => HP1.out i (by omega))) (fun hHeld28 => ?_)
          clear hK K
          try simp only [Act.put, List.setIfInBounds_toArray, List.set_cons_zero, List.set_cons_succ]
          refine wpAnyH_ready (rs := [12]) (by kernel_rfl) (by simp) ?_
          refine AllReadyH.cons (o := { dst := some 109, op := Go.Op.indexAddr 23 (Go.Operand.tmp 98) (Go.Operand.tmp 99), type := 0, pos := "law.go:66", after := #[{ on := 1, ground := Go.Ground.data }, { on := 2, ground := Go.Ground.data }, { on := 0, ground := Go.Ground.phase }, { on := 1, ground := Go.Ground.phase }, { on := 2, ground := Go.Ground.phase }, { on := 3, ground := Go.Ground.phase }, { on := 4, ground := Go.Ground.phase }, { on := 5, ground := Go.Ground.phase }, { on := 6, ground := Go.Ground.phase }, { on := 7, ground := Go.Ground.phase }, { on := 8, ground := Go.Ground.phase }, { on := 9, ground := Go.Ground.phase }, { on := 10, ground := Go.Ground.phase }, { on := 11, ground := Go.Ground.phase }], guard := none }) rfl (fun K hK => ?_) AllReadyH.nil
          go_simp
          go_wp2_with fail
          refine hK.out _ _ (HKS.out _ (fun i hi => HP1.out i (by omega))) (fun hHeld29 => ?_)
          clear hK K
          try simp only [Act.put, List.setIfInBounds_toArray, List.set_cons_zero, List.set_cons_succ]
          refine wpAnyH_ready (rs := [13]) (by kernel_rfl) (by simp) ?_
          refine AllReadyH.cons (o := { dst := some 110, op := Go.Op.fieldAddr 48 (Go.Operand.tmp 109) 4, type := 0, pos := "law.go:66", after := #[{ on := 12, ground := Go.Ground.data }, { on := 0, ground := Go.Ground.phase }, { on := 1, ground := Go.Ground.phase }, { on := 2, ground := Go.Ground.phase }, { on := 3, ground := Go.Ground.phase }, { on := 4, ground := Go.Ground.phase }, { on := 5, ground := Go.Ground.phase }, { on := 6, ground := Go.Ground.phase }, { on := 7, ground := Go.Ground.phase }, { on := 8, ground := Go.Ground.phase }, { on := 9, ground := Go.Ground.phase }, { on := 10, ground := Go.Ground.phase }, { on := 11, ground := Go.Ground.phase }], guard := none }) rfl (fun K hK => ?_) AllReadyH.nil
          go_simp
          go_wp2_with fail
          refine hK.out _ _ (HKS.out _ (fun i hi => HP1.out i (by omega))) (fun hHeld30 => ?_)
          clear hK K
          try simp only [Act.put, List.setIfInBounds_toArray, List.set_cons_zero, List.set_cons_succ]
          refine wpAnyH_ready (rs := [14]) (by kernel_rfl) (by simp) ?_
          refine AllReadyH.cons (o := { dst := none, op := Go.Op.store 46 (Go.Operand.tmp 110) (Go.Operand.tmp 108), type := 0, pos := "law.go:66", after := #[{ on := 13, ground := Go.Ground.data }, { on := 11, ground := Go.Ground.data }, { on := 11, ground := Go.Ground.chain }, { on := 0, ground := Go.Ground.phase }, { on := 1, ground := Go.Ground.phase }, { on := 2, ground := Go.Ground.phase }, { on := 3, ground := Go.Ground.phase }, { on := 4, ground := Go.Ground.phase }, { on := 5, ground := Go.Ground.phase }, { on := 6, ground := Go.Ground.phase }, { on := 7, ground := Go.Ground.phase }, { on := 8, ground := Go.Ground.phase }, { on := 9, ground := Go.Ground.phase }, { on := 10, ground := Go.Ground.phase }, { on := 11, ground := Go.Ground.phase }], guard := none }) rfl (fun K hK => ?_) AllReadyH.nil
          go_simp
          go_wp2_with fail
          refine hK.out _ _ (HKS.out _ (fun i hi => (HDS.out i hi).trans (HP1.out i (by omega)))) (fun hHeld31 => ?_)
          clear hK K
          try simp only [Act.put, List.setIfInBounds_toArray, List.set_cons_zero, List.set_cons_succ]
          refine wpAnyH_done (by kernel_rfl) ?_ _
          go_wp2
          go_roundw
          case rel => exact ⟨j + 1, by first | exact num_next hlt (by omega) | go_num, hlt, _, by rw [HNX.out]; exact HD3.out⟩
          case measure => first | exact meas_int hlt (by omega) | (rw [intOf_int, intOf_int]; omega)
        · skip
          go_simp
          go_wp2_with fail
          refine hK.out _ _ (HKS.out _ (fun i hi => heap_alloc_old W2.drew _ (by simp; omega))) (fun hHeld32 => ?_)
          clear hK K
          try simp only [Act.put, List.setIfInBounds_toArray, List.set_cons_zero, List.set_cons_succ]
          refine wpAnyH_ready (rs := [8]) (by kernel_rfl) (by simp) ?_
          refine AllReadyH.cons (o := { dst := some 105, op := Go.Op.load 46 (Go.Operand.tmp 104), type := 46, pos := "law.go:66", after := #[{ on := 7, ground := Go.Ground.data }], guard := none }) rfl (fun K hK => ?_) AllReadyH.nil
          go_simp
          go_wp2_with fail
          refine hK.out _ _ (HKS.out _ (fun i hi => heap_alloc_old W2.drew _ (by simp; omega))) (fun hHeld33 => ?_)
          clear hK K
          try simp only [Act.put, List.setIfInBounds_toArray, List.set_cons_zero, List.set_cons_succ]
          refine wpAnyH_ready (rs := [11]) (by kernel_rfl) (by simp) ?_
          refine AllReadyH.cons (o := { dst := some 108, op := Go.Op.call { callee := Go.Callee.builtin Go.Builtin.append, args := #[Go.Operand.tmp 105, Go.Operand.tmp 107], argTypes := #[46, 46] }, type := 46, pos := "law.go:66", after := #[{ on := 8, ground := Go.Ground.data }, { on := 10, ground := Go.Ground.data }], guard := none }) rfl (fun K hK => ?_) AllReadyH.nil
          refine step_append_eq (by rfl) _ _ 46 46 (by rfl) (by rfl) (by rfl) r1 ?_
          refine hK.out _ _ (HKS.out _ (fun i hi => HP1.out i (by omega))) (fun hHeld34 => ?_)
          clear hK K
          try simp only [Act.put, List.setIfInBounds_toArray, List.set_cons_zero, List.set_cons_succ]
          refine wpAnyH_ready (rs := [12]) (by kernel_rfl) (by simp) ?_
          refine AllReadyH.cons (o := { dst := some 109, op := Go.Op.indexAddr 23 (Go.Operand.tmp 98) (Go.Operand.tmp 99), type := 0, pos := "law.go:66", after := #[{ on := 1, ground := Go.Ground.data }, { on := 2, ground := Go.Ground.data }, { on := 0, ground := Go.Ground.phase }, { on := 1, ground := Go.Ground.phase }, { on := 2, ground := Go.Ground.phase }, { on := 3, ground := Go.Ground.phase }, { on := 4, ground := Go.Ground.phase }, { on := 5, ground := Go.Ground.phase }, { on := 6, ground := Go.Ground.phase }, { on := 7, ground := Go.Ground.phase }, { on := 8, ground := Go.Ground.phase }, { on := 9, ground := Go.Ground.phase }, { on := 10, ground := Go.Ground.phase }, { on := 11, ground := Go.Ground.phase }], guard := none }) rfl (fun K hK => ?_) AllReadyH.nil
          go_simp
          go_wp2_with fail
          refine hK.out _ _ (HKS.out _ (fun i hi => HP1.out i (by omega))) (fun hHeld35 => ?_)
          clear hK K
          try simp only [Act.put, List.setIfInBounds_toArray, List.set_cons_zero, List.set_cons_succ]
          refine wpAnyH_ready (rs := [13]) (by kernel_rfl) (by simp) ?_
          refine AllReadyH.cons (o := { dst := some 110, op := Go.Op.fieldAddr 48 (Go.Operand.tmp 109) 4, type := 0, pos := "law.go:66", after := #[{ on := 12, ground := Go.Ground.data }, { on := 0, ground := Go.Ground.phase }, { on := 1, ground := Go.Ground.phase }, { on := 2, ground := Go.Ground.phase }, { on := 3, ground := Go.Ground.phase }, { on := 4, ground := Go.Ground.phase }, { on := 5, ground := Go.Ground.phase }, { on := 6, ground := Go.Ground.phase }, { on := 7, ground := Go.Ground.phase }, { on := 8, ground := Go.Ground.phase }, { on := 9, ground := Go.Ground.phase }, { on := 10, ground := Go.Ground.phase }, { on := 11, ground := Go.Ground.phase }], guard := none }) rfl (fun K hK => ?_) AllReadyH.nil
          go_simp
          go_wp2_with fail
          refine hK.out _ _ (HKS.out _ (fun i hi => HP1.out i (by omega))) (fun hHeld36 => ?_)
          clear hK K
          try simp only [Act.put, List.setIfInBounds_toArray, List.set_cons_zero, List.set_cons_succ]
          refine wpAnyH_ready (rs := [14]) (by kernel_rfl) (by simp) ?_
          refine AllReadyH.cons (o := { dst := none, op := Go.Op.store 46 (Go.Operand.tmp 110) (Go.Operand.tmp 108), type := 0, pos := "law.go:66", after := #[{ on := 13, ground := Go.Ground.data }, { on := 11, ground := Go.Ground.data }, { on := 11, ground := Go.Ground.chain }, { on := 0, ground := Go.Ground.phase }, { on := 1, ground := Go.Ground.phase }, { on := 2, ground := Go.Ground.phase }, { on := 3, ground := Go.Ground.phase }, { on := 4, ground := Go.Ground.phase }, { on := 5, ground := Go.Ground.phase }, { on := 6, ground := Go.Ground.phase }, { on := 7, ground := Go.Ground.phase }, { on := 8, ground := Go.Ground.phase }, { on := 9, ground := Go.Ground.phase }, { on := 10, ground := Go.Ground.phase }, { on := 11, ground := Go.Ground.phase }], guard := none }) rfl (fun K hK => ?_) AllReadyH.nil
          go_simp
          go_wp2_with fail
          refine hK.out _ _ (HKS.out _ (fun i hi => (HDS.out i hi).trans (HP1.out i (by omega)))) (fun hHeld37 => ?_)
          clear hK K
          try simp only [Act.put, List.setIfInBounds_toArray, List.set_cons_zero, List.set_cons_succ]
          refine wpAnyH_done (by kernel_rfl) ?_ _
          go_wp2
          go_roundw
          case rel => exact ⟨j + 1, by first | exact num_next hlt (by omega) | go_num, hlt, _, by rw [HNX.out]; exact HD3.out⟩
          case measure => first | exact meas_int hlt (by omega) | (rw [intOf_int, intOf_int]; omega)
      · have t1 : decide (xo < 1) = false := by simpa using h1
        by_cases h2 : 29 < xo
        · have t2 : decide (29 < xo) = true := by simpa using h2
          go_upto_region 13 with (fail)
          have hW2 : ∃ W2, wr.alloc (.cells #[.int .i64 5, .int .i64 xa, .int .i64 xb] 50) = W2 := ⟨_, rfl⟩
          obtain ⟨W2, hW2⟩ := hW2
          rw [hW2]
          have HE2 := hide (show W2.heap[wr.heap.size]? = some (.cells #[.int .i64 5, .int .i64 xa, .int .i64 xb] 50 (0, 0)) from by rw [← hW2]; exact heap_new _ _ rfl)
          have HB2 := hide (show Below wr.heap.size wr W2 from by rw [← hW2]; exact (Below.refl _ _).alloc (Nat.le_refl _) _)
          have hFX : fixI ⟨xo, xa, xb⟩ = ⟨5, xa, xb⟩ := by unfold fixI; first | rw [if_pos (by first | (left; exact h1) | (right; exact h2))] | rw [if_neg (by simp only [not_or]; exact ⟨h1, h2⟩)]
          rw [hFX] at HNX
          clear hW2 hFX y0 y1 y2 q0 q1 q2 q3 q4 q5 q6 q7
          have D2 := HD.out.up HB2.out (by omega)
          obtain ⟨a8, c8, W8, r1, p1, p2, D3⟩ := dd_next (o := 5) (a := xa) (b := xb) D2 (by omega) HLN.out ⟨by decide, by decide⟩ ba bb (below_drew (Below.refl W2.heap.size W2))
          have hI : wr.heap.size < W2.heap.size := lt_of_block HE2.out
          have hg2 : g < W2.heap.size := by omega
          have HP1 := hide (show ∀ i, i ≤ g ∨ i = wr.heap.size → W8.heap[i]? = W2.heap[i]? from fun i hi => p1 i (by omega) (HDO.out i hi))
          have kv : W2.cell? ⟨g, n * 5 + 4, none⟩ = some vc := (D2.cell hkc).1
          have k8 : W8.cell? ⟨g, n * 5 + 4, none⟩ = some vc := (World.cell?_of_block (a := ⟨g, n * 5 + 4, none⟩) (HP1.out g (by omega))).trans kv
          have z8 : W8.frozen? ⟨g, n * 5 + 4, none⟩ = false := by simp [World.frozen?, HP1.out g (by omega), D2.box]
          have HKS := hide (show ∀ W : World, (∀ i, i < g ∨ i = wr.heap.size → W.heap[i]? = W2.heap[i]?) → (fun W : World => W.cell? ⟨b, 1, none⟩ = some (.slice (some ⟨g, 0, none⟩) p.fu.length cap) ∧ W.cell? ⟨wr.heap.size, 0, none⟩ = some (.int .i64 5) ∧ W.cell? ⟨wr.heap.size, 1, none⟩ = some (.int .i64 xa) ∧ W.cell? ⟨wr.heap.size, 2, none⟩ = some (.int .i64 xb)) W from fun W h => by
            have e2 := (h wr.heap.size (.inr rfl)).trans HE2.out
            exact ⟨(World.cell?_of_block (a := ⟨b, 1, none⟩) (h b (by omega))).trans (HBXQ.out W2 D2.bel).2.2.2.2.2.1, cell_of e2 rfl, cell_of e2 rfl, cell_of e2 rfl⟩)
          have HDS := hide (show ∀ i, i < g ∨ i = wr.heap.size → (W8.setCell ⟨g, n * 5 + 4, none⟩ (.slice a8 (c.length + 1) c8)).heap[i]? = W8.heap[i]? from fun i hi => by simp [World.setCell, Array.getElem?_modify, show g ≠ i by omega])
          have HD3 := hide D3
          clear D2 D3 p1 p2
          refine wp_region_held_drew (S := (fun W : World => W.cell? ⟨b, 1, none⟩ = some (.slice (some ⟨g, 0, none⟩) p.fu.length cap) ∧ W.cell? ⟨wr.heap.size, 0, none⟩ = some (.int .i64 5) ∧ W.cell? ⟨wr.heap.size, 1, none⟩ = some (.int .i64 xa) ∧ W.cell? ⟨wr.heap.size, 2, none⟩ = some (.int .i64 xb))) (by kernel_rfl) (HKS.out _ (fun i hi => rfl)) (fun hHeld38 => ?_)
          refine wpAnyH_take (i := 0) (oi := { dst := some 97, op := Go.Op.fieldAddr 27 (Go.Operand.tmp 10) 1, type := 0, pos := "law.go:66", after := #[], guard := none }) (v := ?v39) rfl (by kernel_rfl) (by kernel_rfl) (by kernel_rfl) (fun _ _ _ h => h) (Or.inl ⟨by rfl, ?hy39⟩) (by assumption) ?_
          case hy39 => (intro W hSw; (try dsimp only at hSw); go_simp; try with_reducible rfl)
          try simp only [Act.put, List.setIfInBounds_toArray, List.set_cons_zero, List.set_cons_succ]
          refine wpAnyH_take (i := 1) (oi := { dst := some 98, op := Go.Op.load 23 (Go.Operand.tmp 97), type := 23, pos := "law.go:66", after := #[{ on := 0, ground := Go.Ground.data }], guard := none }) (v := ?v40) rfl (by kernel_rfl) (by kernel_rfl) (by kernel_rfl) (fun _ _ _ h => h) (Or.inl ⟨by rfl, ?hy40⟩) (by assumption) ?_
          case hy40 => (intro W hSw; (try dsimp only at hSw); go_simp; try with_reducible rfl)
          try simp only [Act.put, List.setIfInBounds_toArray, List.set_cons_zero, List.set_cons_succ]
          refine wpAnyH_take (i := 2) (oi := { dst := some 99, op := Go.Op.move (Go.Operand.tmp 1), type := 3, pos := "law.go:66", after := #[], guard := none }) (v := ?v41) rfl (by kernel_rfl) (by kernel_rfl) (by kernel_rfl) (fun _ _ _ h => h) (Or.inl ⟨by rfl, ?hy41⟩) (by assumption) ?_
          case hy41 => (intro W hSw; (try dsimp only at hSw); go_simp; try with_reducible rfl)
          try simp only [Act.put, List.setIfInBounds_toArray, List.set_cons_zero, List.set_cons_succ]
          refine wpAnyH_take (i := 3) (oi := { dst := some 100, op := Go.Op.fieldAddr 27 (Go.Operand.tmp 10) 1, type := 0, pos := "law.go:66", after := #[], guard := none }) (v := ?v42) rfl (by kernel_rfl) (by kernel_rfl) (by kernel_rfl) (fun _ _ _ h => h) (Or.inl ⟨by rfl, ?hy42⟩) (by assumption) ?_
          case hy42 => (intro W hSw; (try dsimp only at hSw); go_simp; try with_reducible rfl)
          try simp only [Act.put, List.setIfInBounds_toArray, List.set_cons_zero, List.set_cons_succ]
          refine wpAnyH_take (i := 4) (oi := { dst := some 101, op := Go.Op.load 23 (Go.Operand.tmp 100), type := 23, pos := "law.go:66", after := #[{ on := 3, ground := Go.Ground.data }], guard := none }) (v := ?v43) rfl (by kernel_rfl) (by kernel_rfl) (by kernel_rfl) (fun _ _ _ h => h) (Or.inl ⟨by rfl, ?hy43⟩) (by assumption) ?_
          case hy43 => (intro W hSw; (try dsimp only at hSw); go_simp; try with_reducible rfl)
          try simp only [Act.put, List.setIfInBounds_toArray, List.set_cons_zero, List.set_cons_succ]
          refine wpAnyH_take (i := 5) (oi := { dst := some 102, op := Go.Op.move (Go.Operand.tmp 1), type := 3, pos := "law.go:66", after := #[], guard := none }) (v := ?v44) rfl (by kernel_rfl) (by kernel_rfl) (by kernel_rfl) (fun _ _ _ h => h) (Or.inl ⟨by rfl, ?hy44⟩) (by assumption) ?_
          case hy44 => (intro W hSw; (try dsimp only at hSw); go_simp; try with_reducible rfl)
          try simp only [Act.put, List.setIfInBounds_toArray, List.set_cons_zero, List.set_cons_succ]
          refine wpAnyH_take (i := 6) (oi := { dst := some 103, op := Go.Op.indexAddr 23 (Go.Operand.tmp 101) (Go.Operand.tmp 102), type := 0, pos := "law.go:66", after := #[{ on := 4, ground := Go.Ground.data }, { on := 5, ground := Go.Ground.data }], guard := none }) (v := ?v45) rfl (by kernel_rfl) (by kernel_rfl) (by kernel_rfl) (fun _ _ _ h => h) (Or.inl ⟨by rfl, ?hy45⟩) (by assumption) ?_
          case hy45 => (intro W hSw; (try dsimp only at hSw); go_simp; try with_reducible rfl)
          try simp only [Act.put, List.setIfInBounds_toArray, List.set_cons_zero, List.set_cons_succ]
          refine wpAnyH_take (i := 7) (oi := { dst := some 104, op := Go.Op.fieldAddr 48 (Go.Operand.tmp 103) 4, type := 0, pos := "law.go:66", after := #[{ on := 6, ground := Go.Ground.data }], guard := none }) (v := ?v46) rfl (by kernel_rfl) (by kernel_rfl) (by kernel_rfl) (fun _ _ _ h => h) (Or.inl ⟨by rfl, ?hy46⟩) (by assumption) ?_
          case hy46 => (intro W hSw; (try dsimp only at hSw); go_simp; try with_reducible rfl)
          try simp only [Act.put, List.setIfInBounds_toArray, List.set_cons_zero, List.set_cons_succ]
          refine wpAnyH_take (i := 9) (oi := { dst := some 106, op := Go.Op.load 50 (Go.Operand.tmp 12), type := 50, pos := "law.go:66", after := #[], guard := none }) (v := ?v47) rfl (by kernel_rfl) (by kernel_rfl) (by kernel_rfl) (fun _ _ _ h => h) (Or.inl ⟨by rfl, ?hy47⟩) (by assumption) ?_
          case hy47 => (intro W hSw; (try dsimp only at hSw); go_simp; try with_reducible rfl)
          try simp only [Act.put, List.setIfInBounds_toArray, List.set_cons_zero, List.set_cons_succ]
          refine wpAnyH_ready (rs := [8, 10]) (by kernel_rfl) (by simp) ?_
          refine AllReadyH.cons (o := { dst := some 105, op := Go.Op.load 46 (Go.Operand.tmp 104), type := 46, pos := "law.go:66", after := #[{ on := 7, ground := Go.Ground.data }], guard := none }) rfl (fun K hK => ?_) (AllReadyH.cons (o := { dst := some 107, op := Go.Op.buildSlice 46 1 #[(0, Go.Operand.tmp 106)], type := 46, pos := "law.go:66", after := #[{ on := 9, ground := Go.Ground.data }], guard := none }) rfl (fun K hK => ?_) AllReadyH.nil)
          · skip
            go_simp
            go_wp2_with fail
            refine hK.out _ _ (HKS.out _ (fun i hi => rfl)) (fun hHeld48 => ?_)
            clear hK K
            try simp only [Act.put, List.setIfInBounds_toArray, List.set_cons_zero, List.set_cons_succ]
            refine wpAnyH_ready (rs := [10]) (by kernel_rfl) (by simp) ?_
            refine AllReadyH.cons (o := { dst := some 107, op := Go.Op.buildSlice 46 1 #[(0, Go.Operand.tmp 106)], type := 46, pos := "law.go:66", after := #[{ on := 9, ground := Go.Ground.data }], guard := none }) rfl (fun K hK => ?_) AllReadyH.nil
            go_simp
            go_wp2_with fail
            refine hK.out _ _ (HKS.out _ (fun i hi => heap_alloc_old W2.drew _ (by simp; omega))) (fun hHeld49 => ?_)
            clear hK K
            try simp only [Act.put, List.setIfInBounds_toArray, List.set_cons_zero, List.set_cons_succ]
            refine wpAnyH_ready (rs := [11]) (by kernel_rfl) (by simp) ?_
            refine AllReadyH.cons (o := { dst := some 108, op := Go.Op.call { callee := Go.Callee.builtin Go.Builtin.append, args := #[Go.Operand.tmp 105, Go.Operand.tmp 107], argTypes := #[46, 46] }, type := 46, pos := "law.go:66", after := #[{ on := 8, ground := Go.Ground.data }, { on := 10, ground := Go.Ground.data }], guard := none }) rfl (fun K hK => ?_) AllReadyH.nil
            refine step_append_eq (by rfl) _ _ 46 46 (by rfl) (by rfl) (by rfl) r1 ?_
            refine hK.out _ _ (HKS.out _ (fun i hi => HP1.out i (by omega))) (fun hHeld50 => ?_)
            clear hK K
            try simp only [Act.put, List.setIfInBounds_toArray, List.set_cons_zero, List.set_cons_succ]
            refine wpAnyH_ready (rs := [12]) (by kernel_rfl) (by simp) ?_
            refine AllReadyH.cons (o := { dst := some 109, op := Go.Op.indexAddr 23 (Go.Operand.tmp 98) (Go.Operand.tmp 99), type := 0, pos := "law.go:66", after := #[{ on := 1, ground := Go.Ground.data }, { on := 2, ground := Go.Ground.data }, { on := 0, ground := Go.Ground.phase }, { on := 1, ground := Go.Ground.phase }, { on := 2, ground := Go.Ground.phase }, { on := 3, ground := Go.Ground.phase }, { on := 4, ground := Go.Ground.phase }, { on := 5, ground := Go.Ground.phase }, { on := 6, ground := Go.Ground.phase }, { on := 7, ground := Go.Ground.phase }, { on := 8, ground := Go.Ground.phase }, { on := 9, ground := Go.Ground.phase }, { on := 10, ground := Go.Ground.phase }, { on := 11, ground := Go.Ground.phase }], guard := none }) rfl (fun K hK => ?_) AllReadyH.nil
            go_simp
            go_wp2_with fail
            refine hK.out _ _ (HKS.out _ (fun i hi => HP1.out i (by omega))) (fun hHeld51 => ?_)
            clear hK K
            try simp only [Act.put, List.setIfInBounds_toArray, List.set_cons_zero, List.set_cons_succ]
            refine wpAnyH_ready (rs := [13]) (by kernel_rfl) (by simp) ?_
            refine AllReadyH.cons (o := { dst := some 110, op := Go.Op.fieldAddr 48 (Go.Operand.tmp 109) 4, type := 0, pos := "law.go:66", after := #[{ on := 12, ground := Go.Ground.data }, { on := 0, ground := Go.Ground.phase }, { on := 1, ground := Go.Ground.phase }, { on := 2, ground := Go.Ground.phase }, { on := 3, ground := Go.Ground.phase }, { on := 4, ground := Go.Ground.phase }, { on := 5, ground := Go.Ground.phase }, { on := 6, ground := Go.Ground.phase }, { on := 7, ground := Go.Ground.phase }, { on := 8, ground := Go.Ground.phase }, { on := 9, ground := Go.Ground.phase }, { on := 10, ground := Go.Ground.phase }, { on := 11, ground := Go.Ground.phase }], guard := none }) rfl (fun K hK => ?_) AllReadyH.nil
            go_simp
            go_wp2_with fail
            refine hK.out _ _ (HKS.out _ (fun i hi => HP1.out i (by omega))) (fun hHeld52 => ?_)
            clear hK K
            try simp only [Act.put, List.setIfInBounds_toArray, List.set_cons_zero, List.set_cons_succ]
            refine wpAnyH_ready (rs := [14]) (by kernel_rfl) (by simp) ?_
            refine AllReadyH.cons (o := { dst := none, op := Go.Op.store 46 (Go.Operand.tmp 110) (Go.Operand.tmp 108), type := 0, pos := "law.go:66", after := #[{ on := 13, ground := Go.Ground.data }, { on := 11, ground := Go.Ground.data }, { on := 11, ground := Go.Ground.chain }, { on := 0, ground := Go.Ground.phase }, { on := 1, ground := Go.Ground.phase }, { on := 2, ground := Go.Ground.phase }, { on := 3, ground := Go.Ground.phase }, { on := 4, ground := Go.Ground.phase }, { on := 5, ground := Go.Ground.phase }, { on := 6, ground := Go.Ground.phase }, { on := 7, ground := Go.Ground.phase }, { on := 8, ground := Go.Ground.phase }, { on := 9, ground := Go.Ground.phase }, { on := 10, ground := Go.Ground.phase }, { on := 11, ground := Go.Ground.phase }], guard := none }) rfl (fun K hK => ?_) AllReadyH.nil
            go_simp
            go_wp2_with fail
            refine hK.out _ _ (HKS.out _ (fun i hi => (HDS.out i hi).trans (HP1.out i (by omega)))) (fun hHeld53 => ?_)
            clear hK K
            try simp only [Act.put, List.setIfInBounds_toArray, List.set_cons_zero, List.set_cons_succ]
            refine wpAnyH_done (by kernel_rfl) ?_ _
            go_wp2
            go_roundw
            case rel => exact ⟨j + 1, by first | exact num_next hlt (by omega) | go_num, hlt, _, by rw [HNX.out]; exact HD3.out⟩
            case measure => first | exact meas_int hlt (by omega) | (rw [intOf_int, intOf_int]; omega)
          · skip
            go_simp
            go_wp2_with fail
            refine hK.out _ _ (HKS.out _ (fun i hi => heap_alloc_old W2.drew _ (by simp; omega))) (fun hHeld54 => ?_)
            clear hK K
            try simp only [Act.put, List.setIfInBounds_toArray, List.set_cons_zero, List.set_cons_succ]
            refine wpAnyH_ready (rs := [8]) (by kernel_rfl) (by simp) ?_
            refine AllReadyH.cons (o := { dst := some 105, op := Go.Op.load 46 (Go.Operand.tmp 104), type := 46, pos := "law.go:66", after := #[{ on := 7, ground := Go.Ground.data }], guard := none }) rfl (fun K hK => ?_) AllReadyH.nil
            go_simp
            go_wp2_with fail
            refine hK.out _ _ (HKS.out _ (fun i hi => heap_alloc_old W2.drew _ (by simp; omega))) (fun hHeld55 => ?_)
            clear hK K
            try simp only [Act.put, List.setIfInBounds_toArray, List.set_cons_zero, List.set_cons_succ]
            refine wpAnyH_ready (rs := [11]) (by kernel_rfl) (by simp) ?_
            refine AllReadyH.cons (o := { dst := some 108, op := Go.Op.call { callee := Go.Callee.builtin Go.Builtin.append, args := #[Go.Operand.tmp 105, Go.Operand.tmp 107], argTypes := #[46, 46] }, type := 46, pos := "law.go:66", after := #[{ on := 8, ground := Go.Ground.data }, { on := 10, ground := Go.Ground.data }], guard := none }) rfl (fun K hK => ?_) AllReadyH.nil
            refine step_append_eq (by rfl) _ _ 46 46 (by rfl) (by rfl) (by rfl) r1 ?_
            refine hK.out _ _ (HKS.out _ (fun i hi => HP1.out i (by omega))) (fun hHeld56 => ?_)
            clear hK K
            try simp only [Act.put, List.setIfInBounds_toArray, List.set_cons_zero, List.set_cons_succ]
            refine wpAnyH_ready (rs := [12]) (by kernel_rfl) (by simp) ?_
            refine AllReadyH.cons (o := { dst := some 109, op := Go.Op.indexAddr 23 (Go.Operand.tmp 98) (Go.Operand.tmp 99), type := 0, pos := "law.go:66", after := #[{ on := 1, ground := Go.Ground.data }, { on := 2, ground := Go.Ground.data }, { on := 0, ground := Go.Ground.phase }, { on := 1, ground := Go.Ground.phase }, { on := 2, ground := Go.Ground.phase }, { on := 3, ground := Go.Ground.phase }, { on := 4, ground := Go.Ground.phase }, { on := 5, ground := Go.Ground.phase }, { on := 6, ground := Go.Ground.phase }, { on := 7, ground := Go.Ground.phase }, { on := 8, ground := Go.Ground.phase }, { on := 9, ground := Go.Ground.phase }, { on := 10, ground := Go.Ground.phase }, { on := 11, ground := Go.Ground.phase }], guard := none }) rfl (fun K hK => ?_) AllReadyH.nil
            go_simp
            go_wp2_with fail
            refine hK.out _ _ (HKS.out _ (fun i hi => HP1.out i (by omega))) (fun hHeld57 => ?_)
            clear hK K
            try simp only [Act.put, List.setIfInBounds_toArray, List.set_cons_zero, List.set_cons_succ]
            refine wpAnyH_ready (rs := [13]) (by kernel_rfl) (by simp) ?_
            refine AllReadyH.cons (o := { dst := some 110, op := Go.Op.fieldAddr 48 (Go.Operand.tmp 109) 4, type := 0, pos := "law.go:66", after := #[{ on := 12, ground := Go.Ground.data }, { on := 0, ground := Go.Ground.phase }, { on := 1, ground := Go.Ground.phase }, { on := 2, ground := Go.Ground.phase }, { on := 3, ground := Go.Ground.phase }, { on := 4, ground := Go.Ground.phase }, { on := 5, ground := Go.Ground.phase }, { on := 6, ground := Go.Ground.phase }, { on := 7, ground := Go.Ground.phase }, { on := 8, ground := Go.Ground.phase }, { on := 9, ground := Go.Ground.phase }, { on := 10, ground := Go.Ground.phase }, { on := 11, ground := Go.Ground.phase }], guard := none }) rfl (fun K hK => ?_) AllReadyH.nil
            go_simp
            go_wp2_with fail
            refine hK.out _ _ (HKS.out _ (fun i hi => HP1.out i (by omega))) (fun hHeld58 => ?_)
            clear hK K
            try simp only [Act.put, List.setIfInBounds_toArray, List.set_cons_zero, List.set_cons_succ]
            refine wpAnyH_ready (rs := [14]) (by kernel_rfl) (by simp) ?_
            refine AllReadyH.cons (o := { dst := none, op := Go.Op.store 46 (Go.Operand.tmp 110) (Go.Operand.tmp 108), type := 0, pos := "law.go:66", after := #[{ on := 13, ground := Go.Ground.data }, { on := 11, ground := Go.Ground.data }, { on := 11, ground := Go.Ground.chain }, { on := 0, ground := Go.Ground.phase }, { on := 1, ground := Go.Ground.phase }, { on := 2, ground := Go.Ground.phase }, { on := 3, ground := Go.Ground.phase }, { on := 4, ground := Go.Ground.phase }, { on := 5, ground := Go.Ground.phase }, { on := 6, ground := Go.Ground.phase }, { on := 7, ground := Go.Ground.phase }, { on := 8, ground := Go.Ground.phase }, { on := 9, ground := Go.Ground.phase }, { on := 10, ground := Go.Ground.phase }, { on := 11, ground := Go.Ground.phase }], guard := none }) rfl (fun K hK => ?_) AllReadyH.nil
            go_simp
            go_wp2_with fail
            refine hK.out _ _ (HKS.out _ (fun i hi => (HDS.out i hi).trans (HP1.out i (by omega)))) (fun hHeld59 => ?_)
            clear hK K
            try simp only [Act.put, List.setIfInBounds_toArray, List.set_cons_zero, List.set_cons_succ]
            refine wpAnyH_done (by kernel_rfl) ?_ _
            go_wp2
            go_roundw
            case rel => exact ⟨j + 1, by first | exact num_next hlt (by omega) | go_num, hlt, _, by rw [HNX.out]; exact HD3.out⟩
            case measure => first | exact meas_int hlt (by omega) | (rw [intOf_int, intOf_int]; omega)
        · have t2 : decide (29 < xo) = false := by simpa using h2
          go_upto_region 13 with (fail)
          have hW2 : ∃ W2, wr.alloc (.cells #[.int .i64 xo, .int .i64 xa, .int .i64 xb] 50) = W2 := ⟨_, rfl⟩
          obtain ⟨W2, hW2⟩ := hW2
          rw [hW2]
          have HE2 := hide (show W2.heap[wr.heap.size]? = some (.cells #[.int .i64 xo, .int .i64 xa, .int .i64 xb] 50 (0, 0)) from by rw [← hW2]; exact heap_new _ _ rfl)
          have HB2 := hide (show Below wr.heap.size wr W2 from by rw [← hW2]; exact (Below.refl _ _).alloc (Nat.le_refl _) _)
          have hFX : fixI ⟨xo, xa, xb⟩ = ⟨xo, xa, xb⟩ := by unfold fixI; first | rw [if_pos (by first | (left; exact h1) | (right; exact h2))] | rw [if_neg (by simp only [not_or]; exact ⟨h1, h2⟩)]
          rw [hFX] at HNX
          clear hW2 hFX y0 y1 y2 q0 q1 q2 q3 q4 q5 q6 q7
          have D2 := HD.out.up HB2.out (by omega)
          obtain ⟨a8, c8, W8, r1, p1, p2, D3⟩ := dd_next (o := xo) (a := xa) (b := xb) D2 (by omega) HLN.out bo ba bb (below_drew (Below.refl W2.heap.size W2))
          have hI : wr.heap.size < W2.heap.size := lt_of_block HE2.out
          have hg2 : g < W2.heap.size := by omega
          have HP1 := hide (show ∀ i, i ≤ g ∨ i = wr.heap.size → W8.heap[i]? = W2.heap[i]? from fun i hi => p1 i (by omega) (HDO.out i hi))
          have kv : W2.cell? ⟨g, n * 5 + 4, none⟩ = some vc := (D2.cell hkc).1
          have k8 : W8.cell? ⟨g, n * 5 + 4, none⟩ = some vc := (World.cell?_of_block (a := ⟨g, n * 5 + 4, none⟩) (HP1.out g (by omega))).trans kv
          have z8 : W8.frozen? ⟨g, n * 5 + 4, none⟩ = false := by simp [World.frozen?, HP1.out g (by omega), D2.box]
          have HKS := hide (show ∀ W : World, (∀ i, i < g ∨ i = wr.heap.size → W.heap[i]? = W2.heap[i]?) → (fun W : World => W.cell? ⟨b, 1, none⟩ = some (.slice (some ⟨g, 0, none⟩) p.fu.length cap) ∧ W.cell? ⟨wr.heap.size, 0, none⟩ = some (.int .i64 xo) ∧ W.cell? ⟨wr.heap.size, 1, none⟩ = some (.int .i64 xa) ∧ W.cell? ⟨wr.heap.size, 2, none⟩ = some (.int .i64 xb)) W from fun W h => by
            have e2 := (h wr.heap.size (.inr rfl)).trans HE2.out
            exact ⟨(World.cell?_of_block (a := ⟨b, 1, none⟩) (h b (by omega))).trans (HBXQ.out W2 D2.bel).2.2.2.2.2.1, cell_of e2 rfl, cell_of e2 rfl, cell_of e2 rfl⟩)
          have HDS := hide (show ∀ i, i < g ∨ i = wr.heap.size → (W8.setCell ⟨g, n * 5 + 4, none⟩ (.slice a8 (c.length + 1) c8)).heap[i]? = W8.heap[i]? from fun i hi => by simp [World.setCell, Array.getElem?_modify, show g ≠ i by omega])
          have HD3 := hide D3
          clear D2 D3 p1 p2
          refine wp_region_held_drew (S := (fun W : World => W.cell? ⟨b, 1, none⟩ = some (.slice (some ⟨g, 0, none⟩) p.fu.length cap) ∧ W.cell? ⟨wr.heap.size, 0, none⟩ = some (.int .i64 xo) ∧ W.cell? ⟨wr.heap.size, 1, none⟩ = some (.int .i64 xa) ∧ W.cell? ⟨wr.heap.size, 2, none⟩ = some (.int .i64 xb))) (by kernel_rfl) (HKS.out _ (fun i hi => rfl)) (fun hHeld60 => ?_)
          refine wpAnyH_take (i := 0) (oi := { dst := some 97, op := Go.Op.fieldAddr 27 (Go.Operand.tmp 10) 1, type := 0, pos := "law.go:66", after := #[], guard := none }) (v := ?v61) rfl (by kernel_rfl) (by kernel_rfl) (by kernel_rfl) (fun _ _ _ h => h) (Or.inl ⟨by rfl, ?hy61⟩) (by assumption) ?_
          case hy61 => (intro W hSw; (try dsimp only at hSw); go_simp; try with_reducible rfl)
          try simp only [Act.put, List.setIfInBounds_toArray, List.set_cons_zero, List.set_cons_succ]
          refine wpAnyH_take (i := 1) (oi := { dst := some 98, op := Go.Op.load 23 (Go.Operand.tmp 97), type := 23, pos := "law.go:66", after := #[{ on := 0, ground := Go.Ground.data }], guard := none }) (v := ?v62) rfl (by kernel_rfl) (by kernel_rfl) (by kernel_rfl) (fun _ _ _ h => h) (Or.inl ⟨by rfl, ?hy62⟩) (by assumption) ?_
          case hy62 => (intro W hSw; (try dsimp only at hSw); go_simp; try with_reducible rfl)
          try simp only [Act.put, List.setIfInBounds_toArray, List.set_cons_zero, List.set_cons_succ]
          refine wpAnyH_take (i := 2) (oi := { dst := some 99, op := Go.Op.move (Go.Operand.tmp 1), type := 3, pos := "law.go:66", after := #[], guard := none }) (v := ?v63) rfl (by kernel_rfl) (by kernel_rfl) (by kernel_rfl) (fun _ _ _ h => h) (Or.inl ⟨by rfl, ?hy63⟩) (by assumption) ?_
          case hy63 => (intro W hSw; (try dsimp only at hSw); go_simp; try with_reducible rfl)
          try simp only [Act.put, List.setIfInBounds_toArray, List.set_cons_zero, List.set_cons_succ]
          refine wpAnyH_take (i := 3) (oi := { dst := some 100, op := Go.Op.fieldAddr 27 (Go.Operand.tmp 10) 1, type := 0, pos := "law.go:66", after := #[], guard := none }) (v := ?v64) rfl (by kernel_rfl) (by kernel_rfl) (by kernel_rfl) (fun _ _ _ h => h) (Or.inl ⟨by rfl, ?hy64⟩) (by assumption) ?_
          case hy64 => (intro W hSw; (try dsimp only at hSw); go_simp; try with_reducible rfl)
          try simp only [Act.put, List.setIfInBounds_toArray, List.set_cons_zero, List.set_cons_succ]
          refine wpAnyH_take (i := 4) (oi := { dst := some 101, op := Go.Op.load 23 (Go.Operand.tmp 100), type := 23, pos := "law.go:66", after := #[{ on := 3, ground := Go.Ground.data }], guard := none }) (v := ?v65) rfl (by kernel_rfl) (by kernel_rfl) (by kernel_rfl) (fun _ _ _ h => h) (Or.inl ⟨by rfl, ?hy65⟩) (by assumption) ?_
          case hy65 => (intro W hSw; (try dsimp only at hSw); go_simp; try with_reducible rfl)
          try simp only [Act.put, List.setIfInBounds_toArray, List.set_cons_zero, List.set_cons_succ]
          refine wpAnyH_take (i := 5) (oi := { dst := some 102, op := Go.Op.move (Go.Operand.tmp 1), type := 3, pos := "law.go:66", after := #[], guard := none }) (v := ?v66) rfl (by kernel_rfl) (by kernel_rfl) (by kernel_rfl) (fun _ _ _ h => h) (Or.inl ⟨by rfl, ?hy66⟩) (by assumption) ?_
          case hy66 => (intro W hSw; (try dsimp only at hSw); go_simp; try with_reducible rfl)
          try simp only [Act.put, List.setIfInBounds_toArray, List.set_cons_zero, List.set_cons_succ]
          refine wpAnyH_take (i := 6) (oi := { dst := some 103, op := Go.Op.indexAddr 23 (Go.Operand.tmp 101) (Go.Operand.tmp 102), type := 0, pos := "law.go:66", after := #[{ on := 4, ground := Go.Ground.data }, { on := 5, ground := Go.Ground.data }], guard := none }) (v := ?v67) rfl (by kernel_rfl) (by kernel_rfl) (by kernel_rfl) (fun _ _ _ h => h) (Or.inl ⟨by rfl, ?hy67⟩) (by assumption) ?_
          case hy67 => (intro W hSw; (try dsimp only at hSw); go_simp; try with_reducible rfl)
          try simp only [Act.put, List.setIfInBounds_toArray, List.set_cons_zero, List.set_cons_succ]
          refine wpAnyH_take (i := 7) (oi := { dst := some 104, op := Go.Op.fieldAddr 48 (Go.Operand.tmp 103) 4, type := 0, pos := "law.go:66", after := #[{ on := 6, ground := Go.Ground.data }], guard := none }) (v := ?v68) rfl (by kernel_rfl) (by kernel_rfl) (by kernel_rfl) (fun _ _ _ h => h) (Or.inl ⟨by rfl, ?hy68⟩) (by assumption) ?_
          case hy68 => (intro W hSw; (try dsimp only at hSw); go_simp; try with_reducible rfl)
          try simp only [Act.put, List.setIfInBounds_toArray, List.set_cons_zero, List.set_cons_succ]
          refine wpAnyH_take (i := 9) (oi := { dst := some 106, op := Go.Op.load 50 (Go.Operand.tmp 12), type := 50, pos := "law.go:66", after := #[], guard := none }) (v := ?v69) rfl (by kernel_rfl) (by kernel_rfl) (by kernel_rfl) (fun _ _ _ h => h) (Or.inl ⟨by rfl, ?hy69⟩) (by assumption) ?_
          case hy69 => (intro W hSw; (try dsimp only at hSw); go_simp; try with_reducible rfl)
          try simp only [Act.put, List.setIfInBounds_toArray, List.set_cons_zero, List.set_cons_succ]
          refine wpAnyH_ready (rs := [8, 10]) (by kernel_rfl) (by simp) ?_
          refine AllReadyH.cons (o := { dst := some 105, op := Go.Op.load 46 (Go.Operand.tmp 104), type := 46, pos := "law.go:66", after := #[{ on := 7, ground := Go.Ground.data }], guard := none }) rfl (fun K hK => ?_) (AllReadyH.cons (o := { dst := some 107, op := Go.Op.buildSlice 46 1 #[(0, Go.Operand.tmp 106)], type := 46, pos := "law.go:66", after := #[{ on := 9, ground := Go.Ground.data }], guard := none }) rfl (fun K hK => ?_) AllReadyH.nil)
          · skip
            go_simp
            go_wp2_with fail
            refine hK.out _ _ (HKS.out _ (fun i hi => rfl)) (fun hHeld70 => ?_)
            clear hK K
            try simp only [Act.put, List.setIfInBounds_toArray, List.set_cons_zero, List.set_cons_succ]
            refine wpAnyH_ready (rs := [10]) (by kernel_rfl) (by simp) ?_
            refine AllReadyH.cons (o := { dst := some 107, op := Go.Op.buildSlice 46 1 #[(0, Go.Operand.tmp 106)], type := 46, pos := "law.go:66", after := #[{ on := 9, ground := Go.Ground.data }], guard := none }) rfl (fun K hK => ?_) AllReadyH.nil
            go_simp
            go_wp2_with fail
            refine hK.out _ _ (HKS.out _ (fun i hi => heap_alloc_old W2.drew _ (by simp; omega))) (fun hHeld71 => ?_)
            clear hK K
            try simp only [Act.put, List.setIfInBounds_toArray, List.set_cons_zero, List.set_cons_succ]
            refine wpAnyH_ready (rs := [11]) (by kernel_rfl) (by simp) ?_
            refine AllReadyH.cons (o := { dst := some 108, op := Go.Op.call { callee := Go.Callee.builtin Go.Builtin.append, args := #[Go.Operand.tmp 105, Go.Operand.tmp 107], argTypes := #[46, 46] }, type := 46, pos := "law.go:66", after := #[{ on := 8, ground := Go.Ground.data }, { on := 10, ground := Go.Ground.data }], guard := none }) rfl (fun K hK => ?_) AllReadyH.nil
            refine step_append_eq (by rfl) _ _ 46 46 (by rfl) (by rfl) (by rfl) r1 ?_
            refine hK.out _ _ (HKS.out _ (fun i hi => HP1.out i (by omega))) (fun hHeld72 => ?_)
            clear hK K
            try simp only [Act.put, List.setIfInBounds_toArray, List.set_cons_zero, List.set_cons_succ]
            refine wpAnyH_ready (rs := [12]) (by kernel_rfl) (by simp) ?_
            refine AllReadyH.cons (o := { dst := some 109, op := Go.Op.indexAddr 23 (Go.Operand.tmp 98) (Go.Operand.tmp 99), type := 0, pos := "law.go:66", after := #[{ on := 1, ground := Go.Ground.data }, { on := 2, ground := Go.Ground.data }, { on := 0, ground := Go.Ground.phase }, { on := 1, ground := Go.Ground.phase }, { on := 2, ground := Go.Ground.phase }, { on := 3, ground := Go.Ground.phase }, { on := 4, ground := Go.Ground.phase }, { on := 5, ground := Go.Ground.phase }, { on := 6, ground := Go.Ground.phase }, { on := 7, ground := Go.Ground.phase }, { on := 8, ground := Go.Ground.phase }, { on := 9, ground := Go.Ground.phase }, { on := 10, ground := Go.Ground.phase }, { on := 11, ground := Go.Ground.phase }], guard := none }) rfl (fun K hK => ?_) AllReadyH.nil
            go_simp
            go_wp2_with fail
            refine hK.out _ _ (HKS.out _ (fun i hi => HP1.out i (by omega))) (fun hHeld73 => ?_)
            clear hK K
            try simp only [Act.put, List.setIfInBounds_toArray, List.set_cons_zero, List.set_cons_succ]
            refine wpAnyH_ready (rs := [13]) (by kernel_rfl) (by simp) ?_
            refine AllReadyH.cons (o := { dst := some 110, op := Go.Op.fieldAddr 48 (Go.Operand.tmp 109) 4, type := 0, pos := "law.go:66", after := #[{ on := 12, ground := Go.Ground.data }, { on := 0, ground := Go.Ground.phase }, { on := 1, ground := Go.Ground.phase }, { on := 2, ground := Go.Ground.phase }, { on := 3, ground := Go.Ground.phase }, { on := 4, ground := Go.Ground.phase }, { on := 5, ground := Go.Ground.phase }, { on := 6, ground := Go.Ground.phase }, { on := 7, ground := Go.Ground.phase }, { on := 8, ground := Go.Ground.phase }, { on := 9, ground := Go.Ground.phase }, { on := 10, ground := Go.Ground.phase }, { on := 11, ground := Go.Ground.phase }], guard := none }) rfl (fun K hK => ?_) AllReadyH.nil
            go_simp
            go_wp2_with fail
            refine hK.out _ _ (HKS.out _ (fun i hi => HP1.out i (by omega))) (fun hHeld74 => ?_)
            clear hK K
            try simp only [Act.put, List.setIfInBounds_toArray, List.set_cons_zero, List.set_cons_succ]
            refine wpAnyH_ready (rs := [14]) (by kernel_rfl) (by simp) ?_
            refine AllReadyH.cons (o := { dst := none, op := Go.Op.store 46 (Go.Operand.tmp 110) (Go.Operand.tmp 108), type := 0, pos := "law.go:66", after := #[{ on := 13, ground := Go.Ground.data }, { on := 11, ground := Go.Ground.data }, { on := 11, ground := Go.Ground.chain }, { on := 0, ground := Go.Ground.phase }, { on := 1, ground := Go.Ground.phase }, { on := 2, ground := Go.Ground.phase }, { on := 3, ground := Go.Ground.phase }, { on := 4, ground := Go.Ground.phase }, { on := 5, ground := Go.Ground.phase }, { on := 6, ground := Go.Ground.phase }, { on := 7, ground := Go.Ground.phase }, { on := 8, ground := Go.Ground.phase }, { on := 9, ground := Go.Ground.phase }, { on := 10, ground := Go.Ground.phase }, { on := 11, ground := Go.Ground.phase }], guard := none }) rfl (fun K hK => ?_) AllReadyH.nil
            go_simp
            go_wp2_with fail
            refine hK.out _ _ (HKS.out _ (fun i hi => (HDS.out i hi).trans (HP1.out i (by omega)))) (fun hHeld75 => ?_)
            clear hK K
            try simp only [Act.put, List.setIfInBounds_toArray, List.set_cons_zero, List.set_cons_succ]
            refine wpAnyH_done (by kernel_rfl) ?_ _
            go_wp2
            go_roundw
            case rel => exact ⟨j + 1, by first | exact num_next hlt (by omega) | go_num, hlt, _, by rw [HNX.out]; exact HD3.out⟩
            case measure => first | exact meas_int hlt (by omega) | (rw [intOf_int, intOf_int]; omega)
          · skip
            go_simp
            go_wp2_with fail
            refine hK.out _ _ (HKS.out _ (fun i hi => heap_alloc_old W2.drew _ (by simp; omega))) (fun hHeld76 => ?_)
            clear hK K
            try simp only [Act.put, List.setIfInBounds_toArray, List.set_cons_zero, List.set_cons_succ]
            refine wpAnyH_ready (rs := [8]) (by kernel_rfl) (by simp) ?_
            refine AllReadyH.cons (o := { dst := some 105, op := Go.Op.load 46 (Go.Operand.tmp 104), type := 46, pos := "law.go:66", after := #[{ on := 7, ground := Go.Ground.data }], guard := none }) rfl (fun K hK => ?_) AllReadyH.nil
            go_simp
            go_wp2_with fail
            refine hK.out _ _ (HKS.out _ (fun i hi => heap_alloc_old W2.drew _ (by simp; omega))) (fun hHeld77 => ?_)
            clear hK K
            try simp only [Act.put, List.setIfInBounds_toArray, List.set_cons_zero, List.set_cons_succ]
            refine wpAnyH_ready (rs := [11]) (by kernel_rfl) (by simp) ?_
            refine AllReadyH.cons (o := { dst := some 108, op := Go.Op.call { callee := Go.Callee.builtin Go.Builtin.append, args := #[Go.Operand.tmp 105, Go.Operand.tmp 107], argTypes := #[46, 46] }, type := 46, pos := "law.go:66", after := #[{ on := 8, ground := Go.Ground.data }, { on := 10, ground := Go.Ground.data }], guard := none }) rfl (fun K hK => ?_) AllReadyH.nil
            refine step_append_eq (by rfl) _ _ 46 46 (by rfl) (by rfl) (by rfl) r1 ?_
            refine hK.out _ _ (HKS.out _ (fun i hi => HP1.out i (by omega))) (fun hHeld78 => ?_)
            clear hK K
            try simp only [Act.put, List.setIfInBounds_toArray, List.set_cons_zero, List.set_cons_succ]
            refine wpAnyH_ready (rs := [12]) (by kernel_rfl) (by simp) ?_
            refine AllReadyH.cons (o := { dst := some 109, op := Go.Op.indexAddr 23 (Go.Operand.tmp 98) (Go.Operand.tmp 99), type := 0, pos := "law.go:66", after := #[{ on := 1, ground := Go.Ground.data }, { on := 2, ground := Go.Ground.data }, { on := 0, ground := Go.Ground.phase }, { on := 1, ground := Go.Ground.phase }, { on := 2, ground := Go.Ground.phase }, { on := 3, ground := Go.Ground.phase }, { on := 4, ground := Go.Ground.phase }, { on := 5, ground := Go.Ground.phase }, { on := 6, ground := Go.Ground.phase }, { on := 7, ground := Go.Ground.phase }, { on := 8, ground := Go.Ground.phase }, { on := 9, ground := Go.Ground.phase }, { on := 10, ground := Go.Ground.phase }, { on := 11, ground := Go.Ground.phase }], guard := none }) rfl (fun K hK => ?_) AllReadyH.nil
            go_simp
            go_wp2_with fail
            refine hK.out _ _ (HKS.out _ (fun i hi => HP1.out i (by omega))) (fun hHeld79 => ?_)
            clear hK K
            try simp only [Act.put, List.setIfInBounds_toArray, List.set_cons_zero, List.set_cons_succ]
            refine wpAnyH_ready (rs := [13]) (by kernel_rfl) (by simp) ?_
            refine AllReadyH.cons (o := { dst := some 110, op := Go.Op.fieldAddr 48 (Go.Operand.tmp 109) 4, type := 0, pos := "law.go:66", after := #[{ on := 12, ground := Go.Ground.data }, { on := 0, ground := Go.Ground.phase }, { on := 1, ground := Go.Ground.phase }, { on := 2, ground := Go.Ground.phase }, { on := 3, ground := Go.Ground.phase }, { on := 4, ground := Go.Ground.phase }, { on := 5, ground := Go.Ground.phase }, { on := 6, ground := Go.Ground.phase }, { on := 7, ground := Go.Ground.phase }, { on := 8, ground := Go.Ground.phase }, { on := 9, ground := Go.Ground.phase }, { on := 10, ground := Go.Ground.phase }, { on := 11, ground := Go.Ground.phase }], guard := none }) rfl (fun K hK => ?_) AllReadyH.nil
            go_simp
            go_wp2_with fail
            refine hK.out _ _ (HKS.out _ (fun i hi => HP1.out i (by omega))) (fun hHeld80 => ?_)
            clear hK K
            try simp only [Act.put, List.setIfInBounds_toArray, List.set_cons_zero, List.set_cons_succ]
            refine wpAnyH_ready (rs := [14]) (by kernel_rfl) (by simp) ?_
            refine AllReadyH.cons (o := { dst := none, op := Go.Op.store 46 (Go.Operand.tmp 110) (Go.Operand.tmp 108), type := 0, pos := "law.go:66", after := #[{ on := 13, ground := Go.Ground.data }, { on := 11, ground := Go.Ground.data }, { on := 11, ground := Go.Ground.chain }, { on := 0, ground := Go.Ground.phase }, { on := 1, ground := Go.Ground.phase }, { on := 2, ground := Go.Ground.phase }, { on := 3, ground := Go.Ground.phase }, { on := 4, ground := Go.Ground.phase }, { on := 5, ground := Go.Ground.phase }, { on := 6, ground := Go.Ground.phase }, { on := 7, ground := Go.Ground.phase }, { on := 8, ground := Go.Ground.phase }, { on := 9, ground := Go.Ground.phase }, { on := 10, ground := Go.Ground.phase }, { on := 11, ground := Go.Ground.phase }], guard := none }) rfl (fun K hK => ?_) AllReadyH.nil
            go_simp
            go_wp2_with fail
            refine hK.out _ _ (HKS.out _ (fun i hi => (HDS.out i hi).trans (HP1.out i (by omega)))) (fun hHeld81 => ?_)
            clear hK K
            try simp only [Act.put, List.setIfInBounds_toArray, List.set_cons_zero, List.set_cons_succ]
            refine wpAnyH_done (by kernel_rfl) ?_ _
            go_wp2
            go_roundw
            case rel => exact ⟨j + 1, by first | exact num_next hlt (by omega) | go_num, hlt, _, by rw [HNX.out]; exact HD3.out⟩
            case measure => first | exact meas_int hlt (by omega) | (rw [intOf_int, intOf_int]; omega)
    · obtain rfl : jl.length = j := by omega
      rw [List.take_length] at D
      have dd1 : decide (jl.length < jl.length) = false := by simp
      have hBr : B ≤ wr.heap.size := PW.2.1
      obtain ⟨x1, x2, _, _⟩ := HDW.out wr D.bel
      have HFU := D.fin HA.out HCQ.out.2.2.2.2.2.2 (fun i hi => (x1 i hi).trans (HFB.out i hi).symm) hBr (by simp; omega) hc1 hc2 (by omega)
      have PB := PW.1.keep hBr (fun j hj => rfl)
      have HPQ := hide (show PgAt wr.heap.size wr (.slice a1 p.ty.length d1) (.slice (some ⟨g, 0, none⟩) p.fu.length cap) (.slice a3 p.ta.length d3) (.slice a4 p.st.length d4) (deadQ p n f (jl.map fixI)) from ⟨PB.ty, HFU, PB.ta, PB.st⟩)
      have HDB := hide D.bel
      have HC9 := hide (check_any HPQ.out (Nat.le_refl _) PW.2.2.1 (by have := HB0.out; omega))
      unfold CkO at HC9
      rw [HCQ.out.2.1] at HC9
      obtain ⟨q0, q1, q2, q3, q4, q5, q6, q7⟩ := HBXQ.out wr D.bel
      have hb1r : b + 1 ≤ wr.heap.size := by omega
      clear x1 x2 HFU PB PW D
      go_wp2_with fail
      refine HC9.out.mono ?_
      rintro e w5 ⟨rfl, hb5⟩
      have HB5 := hide hb5
      clear q0 q1 q2 q3 q4 q5 q6 q7 HC9
      have HD5 := hide (HDB.out.trans (hb5.mono hb1r))
      clear hb5
      obtain ⟨q0, q1, q2, q3, q4, q5, q6, q7⟩ := HBXQ.out w5 HD5.out
      obtain ⟨x1, x2, _, _⟩ := HDW.out w5 HD5.out
      have P5 := HPG.out w5 x1 x2
      have HS1 := hide (size_any P5.1 P5.2.1 P5.2.2.1 HB0.out (n : Int))
      clear x1 x2 P5
      go_wp2_with fail
      refine HS1.out.mono ?_
      intro e w6 hs
      obtain ⟨rfl, hb6⟩ := szO_of hs (by rw [HCQ.out.1]) HCQ.out.2.2.2.2.2.2 HCQ.out.2.2.1
      have HB6 := hide (bel_tr HB5.out hb6)
      clear hs hb6 q0 q1 q2 q3 q4 q5 q6 q7 HS1
      have HD6 := hide (HDB.out.trans (HB6.out.mono hb1r))
      obtain ⟨q0, q1, q2, q3, q4, q5, q6, q7⟩ := HBXQ.out w6 HD6.out
      obtain ⟨x1, x2, _, _⟩ := HDW.out w6 HD6.out
      have P6 := HPG.out w6 x1 x2
      have HS2 := hide (size_any (HPQ.out.keep (Nat.le_refl _) (fun j hj => HB6.out.block j hj)) HB6.out.size P6.2.2.1 (by omega) (n : Int))
      clear x1 x2 P6
      go_wp2_with fail
      refine HS2.out.mono ?_
      intro e w7 hs
      obtain ⟨rfl, hb7⟩ := szO_of hs (by rw [HCQ.out.2.1]) HCQ.out.2.2.2.2.1 HCQ.out.2.2.2.1
      rw [HCQ.out.2.2.2.2.2.1]
      have HB7 := hide ((HDW.out w7 (HDB.out.trans ((bel_tr HB6.out hb7).mono hb1r))).2.2.1)
      clear hs hb7 q0 q1 q2 q3 q4 q5 q6 q7 HS2
      go_wp2_with fail
      go_ret
      exact ⟨rfl, HB7.out⟩
end
end Go.Proofs.YtefdilakpggggaaDoor

namespace Go.Proofs.YtefdilakpggggaaDoor
open Go.RowKit
section
variable {B : Nat} {w : World} {p : Pg}
set_option maxRecDepth 100000 in
set_option maxHeartbeats 1000000 in
theorem dead_out {v1 v2 v3 v4 vj : Value} {m : Int} {jl : List In3} (P : PgAt B w v1 v2 v3 v4 p) (J : SlAt 3 InsP B w vj jl) (hB : B ≤ w.heap.size) (hT : Tb w) (hb0 : 0 < B) (hc : (checkP p).2.2 ≠ 0 ∨ m < 0 ∨ (p.fu.length : Int) ≤ m ∨ 50 < jl.length ∨ ∃ (n : Nat) (f : Fd), m = (n : Int) ∧ p.fu[n]? = some f ∧ 1000 < f.co.length) : Calls Tryd.prog 5 #[.agg #[v1, v2, v3, v4], .int .i64 m, vj] w fun e w' => e = .returned (.bool true) ∧ Below w.heap.size w w' := by
  obtain ⟨a1, d1, hv1⟩ := sl_form P.ty
  obtain ⟨a2, d2, hv2⟩ := sl_form P.fu
  obtain ⟨a3, d3, hv3⟩ := sl_form P.ta
  obtain ⟨a4, d4, hv4⟩ := sl_form P.st
  obtain ⟨aj, dj, hvj⟩ := sl_form J
  subst hv1 hv2 hv3 hv4 hvj
  obtain ⟨W1, hW1⟩ : ∃ W1, w.alloc (.cells #[.slice a1 p.ty.length d1, .slice a2 p.fu.length d2, .slice a3 p.ta.length d3, .slice a4 p.st.length d4] 27) = W1 := ⟨_, rfl⟩
  have b1 : Below w.heap.size w W1 := by rw [← hW1]; exact (Below.refl _ _).alloc (Nat.le_refl _) _
  have e1 : W1.heap[w.heap.size]? = some (.cells #[.slice a1 p.ty.length d1, .slice a2 p.fu.length d2, .slice a3 p.ta.length d3, .slice a4 p.st.length d4] 27 (0, 0)) := by rw [← hW1]; exact heap_new _ _ rfl
  have HBX := hide (show ∀ W : World, Below W1.heap.size W1 W → W.cell? ⟨w.heap.size, 0, none⟩ = some (.slice a1 p.ty.length d1) ∧ W.cell? ⟨w.heap.size, 1, none⟩ = some (.slice a2 p.fu.length d2) ∧ W.cell? ⟨w.heap.size, 2, none⟩ = some (.slice a3 p.ta.length d3) ∧ W.cell? ⟨w.heap.size, 3, none⟩ = some (.slice a4 p.st.length d4) from fun W h => by
    have h1 := (h.block _ (lt_of_block e1)).trans e1
    exact ⟨cell_of h1 rfl, cell_of h1 rfl, cell_of h1 rfl, cell_of h1 rfl⟩)
  have HPG := hide (show ∀ W : World, Below W1.heap.size W1 W → PgAt B W (.slice a1 p.ty.length d1) (.slice a2 p.fu.length d2) (.slice a3 p.ta.length d3) (.slice a4 p.st.length d4) p ∧ B ≤ W.heap.size ∧ Tb W from fun W h => ⟨P.keep (Nat.le_refl _) (fun j hj => (bel_tr b1 h).block j (Nat.lt_of_lt_of_le hj hB)), Nat.le_trans hB (bel_tr b1 h).size, hT.keep ((bel_tr b1 h).block 0 (Nat.lt_of_lt_of_le hb0 hB))⟩)
  have HB1 := hide b1
  obtain ⟨k0, k1, k2, k3⟩ := HBX.out W1 (Below.refl _ _)
  have hl0 := lt_of_block e1
  have HCK := hide (check_any (HPG.out W1 (Below.refl _ _)).1 (HPG.out W1 (Below.refl _ _)).2.1 (HPG.out W1 (Below.refl _ _)).2.2 hb0)
  unfold CkO at HCK
  generalize checkP p = ck at *
  obtain ⟨fx, ax, er⟩ := ck
  dsimp only at hc HCK
  have HC := hide hc
  have hBw := hB
  clear P hB hT hb0 b1 e1 hc J
  go_enter Tryd.func5, Tryd.ntmps5
  go_wp2_with fail
  refine HCK.out.mono ?_
  rintro e w2 ⟨rfl, hb2⟩
  have HB2 := hide hb2
  clear hb2 k0 k1 k2 k3 hW1
  have HAW := hide (awake_any w2 (HPG.out w2 HB2.out).2.2)
  go_wp2_with fail
  refine HAW.out.mono ?_
  rintro e w3 ⟨rfl, hb3⟩
  have HB3 := hide (bel_tr HB2.out hb3)
  clear hb3
  obtain ⟨k0, k1, k2, k3⟩ := HBX.out w3 HB3.out
  have hl3 : w.heap.size < w3.heap.size := Nat.lt_of_lt_of_le hl0 HB3.out.size
  have HAX := hide (awake_any w3 (HPG.out w3 HB3.out).2.2)
  by_cases g0 : er = 0
  · subst g0
    by_cases g1 : m < 0
    · have s1 : decide (m < 0) = true := by simpa using g1
      go_wp2_with fail
      refine HAX.out.mono ?_
      rintro e w4 ⟨rfl, hb4⟩
      have HB4 := hide (bel_tr (bel_tr HB1.out HB3.out) hb4)
      clear hb4
      go_wp2_with fail
      go_ret
      exact ⟨rfl, HB4.out⟩
    · have s1 : decide (m < 0) = false := by simpa using g1
      obtain ⟨n, rfl⟩ : ∃ n : Nat, m = (n : Int) := ⟨m.toNat, by omega⟩
      by_cases g2 : p.fu.length ≤ n
      · have s2 : decide ((p.fu.length : Int) ≤ (n : Int)) = true := by simpa using g2
        have t2 : decide (p.fu.length ≤ n) = true := by simpa using g2
        go_wp2_with fail
        refine HAX.out.mono ?_
        rintro e w4 ⟨rfl, hb4⟩
        have HB4 := hide (bel_tr (bel_tr HB1.out HB3.out) hb4)
        clear hb4
        go_wp2_with fail
        go_ret
        exact ⟨rfl, HB4.out⟩
      · have s2 : decide ((p.fu.length : Int) ≤ (n : Int)) = false := by simp; omega
        have t2 : decide (p.fu.length ≤ n) = false := by simp; omega
        by_cases g3 : 50 < jl.length
        · have s3 : decide ((50 : Int) < (jl.length : Int)) = true := by simp; omega
          have t3 : decide (50 < jl.length) = true := by simp; omega
          go_wp2_with fail
          refine HAX.out.mono ?_
          rintro e w4 ⟨rfl, hb4⟩
          have HB4 := hide (bel_tr (bel_tr HB1.out HB3.out) hb4)
          clear hb4
          go_wp2_with fail
          go_ret
          exact ⟨rfl, HB4.out⟩
        · have s3 : decide ((50 : Int) < (jl.length : Int)) = false := by simp; omega
          have t3 : decide (50 < jl.length) = false := by simp; omega
          obtain ⟨f, hf, hco⟩ : ∃ f, p.fu[n]? = some f ∧ 1000 < f.co.length := by
            rcases HC.out with h | h | h | h | ⟨n', f, h1, h2, h3⟩
            · exact absurd rfl h
            · exact absurd h g1
            · exact absurd h (by omega)
            · exact absurd h g3
            · have : n = n' := by omega
              subst this
              exact ⟨f, h2, h3⟩
          obtain ⟨g0, o0, d0, n0, u1, u2, u3, u4, hv2, hn0, hnl, hg0, ⟨_, _, _, _, y4⟩, _, _, _, s4⟩ := fd_at (HPG.out w3 HB3.out).1.fu hf
          cases hv2
          obtain ⟨a5, d5, hu4⟩ := sl_form s4
          subst hu4
          have hgw : g0 < w3.heap.size := by omega
          have z2 : decide (n < p.fu.length) = true := by simp; omega
          have s5 : decide ((1000 : Int) < (f.co.length : Int)) = true := by simp; omega
          have t5 : decide (1000 < f.co.length) = true := by simp; omega
          clear s4 g2 g3 hf
          go_wp2_with fail
          refine HAX.out.mono ?_
          rintro e w4 ⟨rfl, hb4⟩
          have HB4 := hide (bel_tr (bel_tr HB1.out HB3.out) hb4)
          clear hb4
          go_wp2_with fail
          go_ret
          exact ⟨rfl, HB4.out⟩
  · go_wp2_with fail
    refine HAX.out.mono ?_
    rintro e w4 ⟨rfl, hb4⟩
    have HB4 := hide (bel_tr (bel_tr HB1.out HB3.out) hb4)
    clear hb4
    go_wp2_with fail
    go_ret
    exact ⟨rfl, HB4.out⟩
end
end Go.Proofs.YtefdilakpggggaaDoor
