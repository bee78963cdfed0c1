/- Sound, whole. -/
import Derived.Test.YtefdilakpggggaaDoorCdSF
import Derived.Test.YtefdilakpggggaaDoorCdSL
import Derived.Test.YtefdilakpggggaaDoorCdST
import Derived.Test.YtefdilakpggggaaDoorCdSS
import Derived.Test.YtefdilakpggggaaDoorVfCk
import Derived.Test.YtefdilakpggggaaDoorVfT
import Derived.Test.YtefdilakpggggaaDoorVfFo
import Derived.Deep.CutRange
namespace Go.Proofs.YtefdilakpggggaaDoor
open Go.RowKit
section
variable {w : World} {B : Nat}
set_option maxHeartbeats 1000000 in
theorem sound_any {p : Pg} {v1 v2 v3 v4 : Value} (R : PgAt B w v1 v2 v3 v4 p) (hB : B ≤ w.heap.size) :
    Calls Tryd.prog 16 #[.agg #[v1, v2, v3, v4]] w fun e w' => e = .returned (.bool (sndP p)) ∧ Below w.heap.size w w' := by
  obtain ⟨W1, hW1⟩ : ∃ W1, w.alloc (.cells #[v1, v2, v3, v4] 27) = W1 := ⟨_, rfl⟩
  have BB := hide (show Below w.heap.size w W1 from hW1 ▸ (Below.refl _ _).alloc (Nat.le_refl _) _)
  have hb1 : W1.heap[w.heap.size]? = some (.cells #[v1, v2, v3, v4] 27 (0, 0)) := hW1 ▸ heap_new _ _ rfl
  have hz1 : W1.heap.size = w.heap.size + 1 := by rw [← hW1]; simp
  have KP : ∀ W, Below W1.heap.size W1 W → PgAt B W v1 v2 v3 v4 p ∧ B ≤ W.heap.size ∧ W.heap[w.heap.size]? = some (.cells #[v1, v2, v3, v4] 27 (0, 0)) ∧ Below w.heap.size w W := fun W h =>
    ⟨R.keep (Nat.le_refl _) (fun j hj => (h.block j (by omega)).trans (BB.out.block j (by omega))), by have := h.size; omega, (h.block _ (by omega)).trans hb1, BB.out.trans (h.mono (by omega))⟩
  have HKP := hide KP
  have C1 := hide (eachL_any (KP _ (Below.refl _ _)).1.ty (KP _ (Below.refl _ _)).2.1)
  have C2 := hide (show ∀ W, Below W1.heap.size W1 W → _ from fun W h => eachF_any (KP W h).1.fu (KP W h).2.1)
  have C3 := hide (show ∀ W, Below W1.heap.size W1 W → _ from fun W h => eachT_any (KP W h).1.ta (KP W h).2.1)
  have C4 := hide (show ∀ W, Below W1.heap.size W1 W → _ from fun W h => eachS_any (KP W h).1.st (KP W h).2.1)
  have KC := hide (show ∀ W, Below W1.heap.size W1 W → W.cell? ⟨w.heap.size, 0, none⟩ = some v1 ∧ W.cell? ⟨w.heap.size, 1, none⟩ = some v2 ∧ W.cell? ⟨w.heap.size, 2, none⟩ = some v3 ∧ W.cell? ⟨w.heap.size, 3, none⟩ = some v4 from fun W h =>
    have hb := (KP W h).2.2.1
    ⟨cell_of hb rfl, cell_of hb rfl, cell_of hb rfl, cell_of hb rfl⟩)
  obtain ⟨a1, n1, hv1, _⟩ := R.ty
  obtain ⟨a2, n2, hv2, _⟩ := R.fu
  obtain ⟨a3, n3, hv3, _⟩ := R.ta
  obtain ⟨a4, n4, hv4, _⟩ := R.st
  subst hv1 hv2 hv3 hv4
  obtain ⟨k0, k1, k2, k3⟩ := KC.out W1 (Below.refl _ _)
  unfold sndP
  generalize eachB 1024 sndL p.ty = d1 at *
  generalize eachB 4096 sndF p.fu = d2 at *
  generalize eachB 1024 sndL p.ta = d3 at *
  generalize eachB 1024 sndS p.st = d4 at *
  clear R hB hb1 hz1 KP
  generalize p.ty.length = m1 at *
  generalize p.fu.length = m2 at *
  generalize p.ta.length = m3 at *
  generalize p.st.length = m4 at *
  go_enter Tryd.func16, Tryd.ntmps16
  go_wp2_with fail
  refine C1.out.mono ?_
  rintro e w2 ⟨rfl, hb2⟩
  obtain ⟨l0, l1, l2, l3⟩ := KC.out w2 hb2
  have H2 := hide hb2
  clear hb2 C1 hW1 k0 k1 k2 k3
  cases d1 with
  | false =>
    go_wp2
    go_ret
    exact ⟨rfl, (HKP.out _ H2.out).2.2.2⟩
  | true =>
    go_wp2_with fail
    refine (C2.out w2 H2.out).mono ?_
    rintro e w3 ⟨rfl, hb3⟩
    have H3 := hide (H2.out.trans (hb3.mono H2.out.size))
    obtain ⟨k0, k1, k2, k3⟩ := KC.out w3 H3.out
    clear hb3 C2 H2 l0 l1 l2 l3
    cases d2 with
    | false =>
      go_wp2
      go_ret
      exact ⟨rfl, (HKP.out _ H3.out).2.2.2⟩
    | true =>
      go_wp2_with fail
      refine (C3.out w3 H3.out).mono ?_
      rintro e w4 ⟨rfl, hb4⟩
      have H4 := hide (H3.out.trans (hb4.mono H3.out.size))
      obtain ⟨l0, l1, l2, l3⟩ := KC.out w4 H4.out
      clear hb4 C3 H3 k0 k1 k2 k3
      cases d3 with
      | false =>
        go_wp2
        go_ret
        exact ⟨rfl, (HKP.out _ H4.out).2.2.2⟩
      | true =>
        go_wp2_with fail
        refine (C4.out w4 H4.out).mono ?_
        rintro e w5 ⟨rfl, hb5⟩
        have H5 := hide (H4.out.trans (hb5.mono H4.out.size))
        clear hb5 C4 H4 l0 l1 l2 l3
        go_wp2
        go_ret
        exact ⟨by simp, (HKP.out _ H5.out).2.2.2⟩
end
end Go.Proofs.YtefdilakpggggaaDoor

namespace Go.Proofs.YtefdilakpggggaaDoor
open Go.RowKit
section
variable {B : Nat} {w : World} {p : Pg}
def CkO (p : Pg) (w : World) (e : Ending) (W : World) : Prop := e = .returned (.tuple #[.int .i64 (checkP p).1, .int .i64 (checkP p).2.1, .int .i64 (checkP p).2.2]) ∧ Below w.heap.size w W
set_option maxRecDepth 100000 in
set_option maxHeartbeats 1000000 in
theorem check_any {v1 v2 v3 v4 : Value} (P : PgAt B w v1 v2 v3 v4 p) (hB : B ≤ w.heap.size) (hT : Tb w) (hb0 : 0 < B) : Calls Tryd.prog 8 #[.agg #[v1, v2, v3, v4]] w (CkO p w) := by
  obtain ⟨a1, d1, hv1⟩ := sl_form P.ty
  obtain ⟨a2, d2, hv2⟩ := sl_form P.fu
  obtain ⟨a3, d3, hv3⟩ := sl_form P.ta
  obtain ⟨a4, d4, hv4⟩ := sl_form P.st
  subst hv1 hv2 hv3 hv4
  obtain ⟨W1, hW1⟩ : ∃ W1, w.alloc (.cells #[.slice a1 p.ty.length d1, .slice a2 p.fu.length d2, .slice a3 p.ta.length d3, .slice a4 p.st.length d4] 27) = W1 := ⟨_, rfl⟩
  have b1 : Below w.heap.size w W1 := by rw [← hW1]; exact (Below.refl _ _).alloc (Nat.le_refl _) _
  have e1 : W1.heap[w.heap.size]? = some (.cells #[.slice a1 p.ty.length d1, .slice a2 p.fu.length d2, .slice a3 p.ta.length d3, .slice a4 p.st.length d4] 27 (0, 0)) := by rw [← hW1]; exact heap_new _ _ rfl
  have HBX := hide (show ∀ W : World, Below W1.heap.size W1 W → W.cell? ⟨w.heap.size, 0, none⟩ = some (.slice a1 p.ty.length d1) ∧ W.cell? ⟨w.heap.size, 1, none⟩ = some (.slice a2 p.fu.length d2) ∧ W.cell? ⟨w.heap.size, 2, none⟩ = some (.slice a3 p.ta.length d3) ∧ W.cell? ⟨w.heap.size, 3, none⟩ = some (.slice a4 p.st.length d4) from fun W h => by
    have h1 := (h.block _ (lt_of_block e1)).trans e1
    exact ⟨cell_of h1 rfl, cell_of h1 rfl, cell_of h1 rfl, cell_of h1 rfl⟩)
  have HPG := hide (show ∀ W : World, Below W1.heap.size W1 W → PgAt B W (.slice a1 p.ty.length d1) (.slice a2 p.fu.length d2) (.slice a3 p.ta.length d3) (.slice a4 p.st.length d4) p ∧ B ≤ W.heap.size ∧ Tb W from fun W h => ⟨P.keep (Nat.le_refl _) (fun j hj => (bel_tr b1 h).block j (Nat.lt_of_lt_of_le hj hB)), Nat.le_trans hB (bel_tr b1 h).size, hT.keep ((bel_tr b1 h).block 0 (Nat.lt_of_lt_of_le hb0 hB))⟩)
  have HB1 := hide b1
  obtain ⟨k0, k1, k2, k3⟩ := HBX.out W1 (Below.refl _ _)
  have hl0 := lt_of_block e1
  have HSO := hide (sound_any (HPG.out W1 (Below.refl _ _)).1 (HPG.out W1 (Below.refl _ _)).2.1)
  have HBZ := hide hb0
  have HCB := hide (show sndP p = false → checkP p = (0, 0, 2) from fun h => by unfold checkP; rw [if_pos h])
  clear P hB hT hb0 b1 e1
  generalize p.ty.length = n1 at *
  generalize p.fu.length = n2 at *
  generalize p.ta.length = n3 at *
  generalize p.st.length = n4 at *
  cases hs : sndP p with
  | false =>
    rw [hs] at HSO
    have HC := hide (HCB.out hs)
    go_enter Tryd.func8, Tryd.ntmps8
    go_wp2_with fail
    refine HSO.out.mono ?_
    rintro e w2 ⟨rfl, hb2⟩
    have HB2 := hide (bel_tr HB1.out hb2)
    clear hb2
    go_wp2
    refine bodyPost_ret (v := .tuple #[.int .i64 0, .int .i64 0, .int .i64 2]) (by simp [results, Tryd.results8, go_sem]) rfl ?_
    exact ⟨by rw [HC.out], HB2.out⟩
  | true =>
    rw [hs] at HSO
    have HC := hide (checkP_ck hs)
    have HFF := hide (fun (W : World) (h : Below W1.heap.size W1 W) => first_any (HPG.out W h).1 (HPG.out W h).2.1 hs (HPG.out W h).2.2 HBZ.out)
    clear hs
    go_enter Tryd.func8, Tryd.ntmps8
    go_wp2_with fail
    refine HSO.out.mono ?_
    rintro e w2 ⟨rfl, hb2⟩
    have HB2 := hide hb2
    clear hb2 k0 k1 k2 k3 hW1
    obtain ⟨k0, k1, k2, k3⟩ := HBX.out w2 HB2.out
    have hl2 : w.heap.size < w2.heap.size := Nat.lt_of_lt_of_le hl0 HB2.out.size
    go_wp2_with fail
    refine (HFF.out w2 HB2.out).mono ?_
    rintro e w3 ⟨rfl, hb3⟩
    have HB3 := hide (bel_tr HB1.out (bel_tr HB2.out hb3))
    clear hb3 k0 k1 k2 k3
    obtain ⟨c1, hc1⟩ : ∃ c, (ckP p).1 = c := ⟨_, rfl⟩
    obtain ⟨c2, hc2⟩ : ∃ c, (ckP p).2.1 = c := ⟨_, rfl⟩
    obtain ⟨c3, hc3⟩ : ∃ c, (ckP p).2.2 = c := ⟨_, rfl⟩
    rw [hc1, hc2, hc3]
    have HCC := hide (show checkP p = (c1, c2, c3) from by rw [HC.out, ← hc1, ← hc2, ← hc3])
    clear hc1 hc2 hc3
    go_wp2_with fail
    go_region
    all_goals go_wp2
    all_goals (
      refine bodyPost_ret (v := .tuple #[.int .i64 c1, .int .i64 c2, .int .i64 c3]) (by simp [results, Tryd.results8, go_sem]) rfl ?_
      exact ⟨by rw [HCC.out], below_drew (HB3.out.alloc HB3.out.size _)⟩)
/-- How soundFlow ends. -/
def SfO (B : Nat) (p : Pg) (m : Int) (w : World) (e : Ending) (W : World) : Prop := Below w.heap.size w W ∧
  (((checkP p).2.2 ≠ 0 ∧ e = .returned (.tuple #[.pointer none, .int .i64 (checkP p).2.2])) ∨
  ((checkP p).2.2 = 0 ∧ inB m p.fu.length = false ∧ e = .returned (.tuple #[.pointer none, .int .i64 6])) ∨
  ∃ (k : Nat) (f : Fd) (F : Fl) (A ahb wtb E : Nat) (V : Fv) (at_ : Int), (checkP p).2.2 = 0 ∧ m = (k : Int) ∧ p.fu[k]? = some f ∧ followP p f = .ok F ∧ e = .returned (.tuple #[.pointer (some ⟨A, 0, none⟩), .int .i64 0]) ∧ FlM B E A ahb wtb W p f V m at_ F)
end
end Go.Proofs.YtefdilakpggggaaDoor

namespace Go.Proofs.YtefdilakpggggaaDoor
open Go.RowKit
section
variable {p : Pg} {f : Fd}
theorem puts_err {i : In3} {top low e : Int} (h : putsP p f i top low = .error e) : e ≠ 0 := by
  obtain ⟨C, hC⟩ : ∃ C : Except Int (List Int) → Prop, C = fun r => ∀ e, r = .error e → e ≠ 0 := ⟨_, rfl⟩
  have ok : ∀ l, C (.ok l) := fun l => by rw [hC]; intro e h; cases h
  have e11 : C (.error 11) := by rw [hC]; intro e h; cases h; decide
  have e8 : C (.error 8) := by rw [hC]; intro e h; cases h; decide
  suffices hs : C (putsP p f i top low) by rw [hC] at hs; exact hs e h
  unfold putsP
  refine ite_elim C (fun _ => ok _) fun _ => ite_elim C (fun _ => ok _) fun _ => ite_elim C (fun _ => ok _) fun _ => ite_elim C (fun _ => ok _) fun _ => ite_elim C (fun _ => ok _) fun _ => ite_elim C (fun _ => ok _) fun _ => ite_elim C (fun _ => ok _) fun _ => ite_elim C (fun _ => ?_) fun _ => ite_elim C (fun _ => ?_) fun _ => ite_elim C (fun _ => ?_) fun _ => ite_elim C (fun _ => ok _) fun _ => ite_elim C (fun _ => ok _) fun _ => ite_elim C (fun _ => ok _) fun _ => ite_elim C (fun _ => ok _) fun _ => ite_elim C (fun _ => ok _) fun _ => ok _
  · cases fieldP p low i.a with
    | none => exact e11
    | some k => exact ok _
  · cases fieldP p low i.a with
    | none => exact e11
    | some k => exact ite_elim C (fun _ => ok _) (fun _ => e8)
  · cases fieldP p low i.a with
    | none => exact e11
    | some k => exact ite_elim C (fun _ => ok _) (fun _ => e11)
theorem look_err {x : Nat} {i : In3} {s : List Int} {e : Int} (h : lookP p f x i s = .error e) : e ≠ 0 := by
  unfold lookP at h
  dsimp only at h
  split at h
  · cases h; decide
  · split at h
    · cases h; decide
    · split at h
      · cases h; decide
      · split at h
        · rename_i e' he
          cases h
          exact puts_err he
        · split at h
          · cases h
          · cases h; decide
theorem come_err {F : Fl} {x : Nat} {s : List Int} {e : Int} (h : comeP F x s = .error e) : e ≠ 0 := by
  unfold comeP at h
  split at h
  · cases h
  · split at h
    · cases h
    · cases h; decide
theorem comes_err {s : List Int} {e : Int} : ∀ {l : List Int} {F : Fl}, comesP s l F = .error e → e ≠ 0
  | [], F, h => by cases h
  | y :: r, F, h => by
    unfold comesP at h
    cases hc : comeP F y.toNat s with
    | ok G => rw [hc] at h; exact comes_err h
    | error e' => rw [hc] at h; cases h; exact come_err hc
theorem run_err {x : Nat} {e : Int} : ∀ {n : Nat} {F : Fl}, runP p f n F = .error (x, e) → e ≠ 0
  | 0, F, h => by cases h
  | n + 1, F, h => by
    unfold runP at h
    split at h
    · cases h
    · rename_i y hy
      cases hs : stepP p f y F with
      | error e' =>
        rw [hs] at h
        cases h
        unfold stepP at hs
        split at hs
        · rename_i e2 he
          cases hs
          exact look_err he
        · exact comes_err hs
      | ok G => rw [hs] at h; exact run_err h
theorem funcs_ok : ∀ {l : List Fd} {i : Nat}, (funcsP p i l).2.2 = 0 → funcsP p i l = (0, 0, 0) ∧ ∀ f ∈ l, ∃ F, followP p f = .ok F
  | [], i, _ => ⟨rfl, fun f h => by cases h⟩
  | g :: r, i, h => by
    unfold funcsP at h ⊢
    cases hf : followP p g with
    | error xe =>
      rw [hf] at h
      exact absurd h (run_err hf)
    | ok F =>
      rw [hf] at h
      obtain ⟨h1, h2⟩ := funcs_ok h
      refine ⟨h1, fun f hm => ?_⟩
      rcases List.mem_cons.mp hm with rfl | hm
      · exact ⟨F, hf⟩
      · exact h2 f hm
/-- A program that is sound. -/
theorem check_ok (h : (checkP p).2.2 = 0) : checkP p = (0, 0, 0) ∧ sndP p = true ∧ headsP p = none ∧ ∀ f ∈ p.fu, ∃ F, followP p f = .ok F := by
  unfold checkP at h ⊢
  cases hs : sndP p with
  | false => rw [hs] at h; cases h
  | true =>
    rw [hs] at h
    rw [if_neg (by simp)] at h ⊢
    cases hh : headsP p with
    | some i => rw [hh] at h; cases h
    | none =>
      rw [hh] at h
      obtain ⟨h1, h2⟩ := funcs_ok h
      exact ⟨h1, rfl, rfl, h2⟩
/-- It is sound, if each is. -/
theorem ok_check (hs : sndP p = true) (hh : headsP p = none) (hf : ∀ f ∈ p.fu, ∃ F, followP p f = .ok F) : checkP p = (0, 0, 0) := by
  unfold checkP
  rw [if_neg (by rw [hs]; simp), hh]
  have : ∀ (l : List Fd) (i : Nat), (∀ f ∈ l, ∃ F, followP p f = .ok F) → funcsP p i l = (0, 0, 0) := by
    intro l
    induction l with
    | nil => intro i _; rfl
    | cons g r ih =>
      intro i h
      obtain ⟨F, hF⟩ := h g (by simp)
      unfold funcsP
      rw [hF]
      exact ih (i + 1) (fun f hf => h f (by simp [hf]))
  exact this _ _ hf
/-- What holds at the end of a way. -/
theorem run_inv (H : Hok p) (hf : FdOk p f) : ∀ {n k : Nat} {F G : Fl}, FInv p f k F → runP p f n F = .ok G → ∃ j, j ≤ k + n ∧ FInv p f j G
  | 0, k, F, G, I, h => by cases h; exact ⟨k, by omega, I⟩
  | n + 1, k, F, G, I, h => by
    unfold runP at h
    split at h
    · cases h; exact ⟨k, by omega, I⟩
    · rename_i y hy
      cases hs : stepP p f y F with
      | error e' => rw [hs] at h; cases h
      | ok G1 =>
        rw [hs] at h
        obtain ⟨j, hj, hI⟩ := run_inv H hf (step_inv H hf I hy hs).1 h
        exact ⟨j, by omega, hI⟩
theorem follow_inv (H : Hok p) (hf : FdOk p f) {F : Fl} (h : followP p f = .ok F) : FInv p f (f.co.length + 1) F := by
  obtain ⟨j, hj, hI⟩ := run_inv H hf (fl0_inv hf.co).1 h
  refine ⟨hI.la, hI.lw, fun y t ht => ⟨(hI.st y t ht).1, ?_⟩, ?_, hI.wa⟩
  · have := (hI.st y t ht).2
    exact Nat.le_trans this (Nat.mul_le_mul_left _ (by omega))
  · exact Nat.le_trans hI.mo (Nat.mul_le_mul_left _ (by omega))
end
section
variable {B : Nat} {w : World} {p : Pg}
set_option maxRecDepth 100000 in
set_option maxHeartbeats 1000000 in
theorem soundFlow_any {v1 v2 v3 v4 : Value} (P : PgAt B w v1 v2 v3 v4 p) (hB : B ≤ w.heap.size) (hT : Tb w) (hb0 : 0 < B) (m : Int) : Calls Tryd.prog 20 #[.agg #[v1, v2, v3, v4], .int .i64 m] w (SfO B p m w) := by
  obtain ⟨a1, d1, hv1⟩ := sl_form P.ty
  obtain ⟨a2, d2, hv2⟩ := sl_form P.fu
  obtain ⟨a3, d3, hv3⟩ := sl_form P.ta
  obtain ⟨a4, d4, hv4⟩ := sl_form P.st
  subst hv1 hv2 hv3 hv4
  obtain ⟨W1, hW1⟩ : ∃ W1, w.alloc (.cells #[.slice a1 p.ty.length d1, .slice a2 p.fu.length d2, .slice a3 p.ta.length d3, .slice a4 p.st.length d4] 27) = W1 := ⟨_, rfl⟩
  have b1 : Below w.heap.size w W1 := by rw [← hW1]; exact (Below.refl _ _).alloc (Nat.le_refl _) _
  have e1 : W1.heap[w.heap.size]? = some (.cells #[.slice a1 p.ty.length d1, .slice a2 p.fu.length d2, .slice a3 p.ta.length d3, .slice a4 p.st.length d4] 27 (0, 0)) := by rw [← hW1]; exact heap_new _ _ rfl
  have HBX := hide (show ∀ W : World, Below W1.heap.size W1 W → W.cell? ⟨w.heap.size, 0, none⟩ = some (.slice a1 p.ty.length d1) ∧ W.cell? ⟨w.heap.size, 1, none⟩ = some (.slice a2 p.fu.length d2) ∧ W.cell? ⟨w.heap.size, 2, none⟩ = some (.slice a3 p.ta.length d3) ∧ W.cell? ⟨w.heap.size, 3, none⟩ = some (.slice a4 p.st.length d4) from fun W h => by
    have h1 := (h.block _ (lt_of_block e1)).trans e1
    exact ⟨cell_of h1 rfl, cell_of h1 rfl, cell_of h1 rfl, cell_of h1 rfl⟩)
  have HPG := hide (show ∀ W : World, Below W1.heap.size W1 W → PgAt B W (.slice a1 p.ty.length d1) (.slice a2 p.fu.length d2) (.slice a3 p.ta.length d3) (.slice a4 p.st.length d4) p ∧ B ≤ W.heap.size ∧ Tb W from fun W h => ⟨P.keep (Nat.le_refl _) (fun j hj => (bel_tr b1 h).block j (Nat.lt_of_lt_of_le hj hB)), Nat.le_trans hB (bel_tr b1 h).size, hT.keep ((bel_tr b1 h).block 0 (Nat.lt_of_lt_of_le hb0 hB))⟩)
  have HB1 := hide b1
  obtain ⟨k0, k1, k2, k3⟩ := HBX.out W1 (Below.refl _ _)
  have hl0 := lt_of_block e1
  have HCK := hide (check_any (HPG.out W1 (Below.refl _ _)).1 (HPG.out W1 (Below.refl _ _)).2.1 (HPG.out W1 (Below.refl _ _)).2.2 hb0)
  have HBZ := hide hb0
  clear P hB hT hb0 b1 e1
  obtain ⟨n2, hN2⟩ : ∃ n, p.fu.length = n := ⟨_, rfl⟩
  rw [hN2] at HBX HPG HCK k1 hW1 ⊢
  have HN2 := hide hN2
  clear hN2
  generalize p.ty.length = n1 at *
  generalize p.ta.length = n3 at *
  generalize p.st.length = n4 at *
  have HCC := hide (check_ok (p := p))
  unfold CkO at HCK
  obtain ⟨cf, hcf⟩ : ∃ c, (checkP p).1 = c := ⟨_, rfl⟩
  obtain ⟨ca, hca⟩ : ∃ c, (checkP p).2.1 = c := ⟨_, rfl⟩
  obtain ⟨ce, hce⟩ : ∃ c, (checkP p).2.2 = c := ⟨_, rfl⟩
  rw [hcf, hca, hce] at HCK
  have HCE := hide hce
  clear hcf hca hce
  by_cases hc0 : ce = 0
  · have q0 : (ce != 0) = false := by simp [hc0]
    obtain ⟨_, o1, o2, o3⟩ := HCC.out (HCE.out.trans hc0)
    cases hin : inB m n2 with
    | false =>
      have HF := hide (show ∀ W : World, Below w.heap.size w W → SfO B p m w (.returned (.tuple #[.pointer none, .int .i64 6])) W from fun W h => ⟨h, .inr (.inl ⟨HCE.out.trans hc0, by rw [HN2.out]; exact hin, rfl⟩)⟩)
      have HW := hide (fun W : World => within_any W m n2)
      rw [hin] at HW
      clear hc0 o1 o2 o3
      go_enter Tryd.func20, Tryd.ntmps20
      go_wp2_with fail
      refine HCK.out.mono ?_
      rintro e w2 ⟨rfl, hb2⟩
      have HB2 := hide hb2
      clear hb2 k0 k1 k2 k3 hW1
      obtain ⟨k0, k1, k2, k3⟩ := HBX.out w2 HB2.out
      have hl2 : w.heap.size < w2.heap.size := Nat.lt_of_lt_of_le hl0 HB2.out.size
      go_wp2_with fail
      refine (HW.out _).mono ?_
      rintro e w3 ⟨rfl, rfl⟩
      go_wp2
      go_ret2
      exact HF.out _ (bel_tr HB1.out HB2.out)
    | true =>
      obtain ⟨mk, rfl, hmk⟩ := in_nat hin
      obtain ⟨f, hf⟩ : ∃ f, p.fu[mk]? = some f := ⟨p.fu[mk]'(by rw [HN2.out]; exact hmk), by simp⟩
      obtain ⟨F, hF⟩ := o3 f (List.mem_of_getElem? hf)
      have HFO := hide (fun (W : World) (h : Below W1.heap.size W1 W) => follow_any (HPG.out W h).1 (HPG.out W h).2.1 (hok_of o1 o2) (HPG.out W h).2.2 HBZ.out hf)
      have HFN := hide (show ∀ W : World, Below w.heap.size w W → ∀ (A ahb wtb E : Nat) (V : Fv) (at_ : Int), FlM B E A ahb wtb W p f V mk at_ F → SfO B p mk w (.returned (.tuple #[.pointer (some ⟨A, 0, none⟩), .int .i64 0])) W from fun W h A ahb wtb E V at_ hM => ⟨h, .inr (.inr ⟨mk, f, F, A, ahb, wtb, E, V, at_, HCE.out.trans hc0, rfl, hf, hF, rfl, hM⟩)⟩)
      have HFF := hide hF
      have HW := hide (fun W : World => within_any W (mk : Int) n2)
      rw [hin] at HW
      clear hc0 o1 o2 o3 hf hF
      go_enter Tryd.func20, Tryd.ntmps20
      go_wp2_with fail
      refine HCK.out.mono ?_
      rintro e w2 ⟨rfl, hb2⟩
      have HB2 := hide hb2
      clear hb2 k0 k1 k2 k3 hW1
      obtain ⟨k0, k1, k2, k3⟩ := HBX.out w2 HB2.out
      have hl2 : w.heap.size < w2.heap.size := Nat.lt_of_lt_of_le hl0 HB2.out.size
      go_wp2_with fail
      refine (HW.out _).mono ?_
      rintro e w3 ⟨rfl, rfl⟩
      go_wp2_with fail
      refine (HFO.out _ HB2.out).mono ?_
      rintro e w4 ⟨h4, hb4⟩
      rw [HFF.out] at h4
      obtain ⟨A, ahb, wtb, E, V, at_, rfl, hM⟩ := h4
      have HM := hide hM
      have HB4 := hide (bel_tr HB1.out (bel_tr HB2.out hb4))
      clear hM hb4
      go_wp2
      go_ret2
      exact HFN.out _ HB4.out _ _ _ _ _ _ HM.out
  · have q0 : (ce != 0) = true := by simpa using hc0
    have HF := hide (show ∀ W : World, Below w.heap.size w W → SfO B p m w (.returned (.tuple #[.pointer none, .int .i64 ce])) W from fun W h => ⟨h, .inl ⟨by rw [HCE.out]; exact hc0, by rw [HCE.out]⟩⟩)
    clear hc0
    go_enter Tryd.func20, Tryd.ntmps20
    go_wp2_with fail
    refine HCK.out.mono ?_
    rintro e w2 ⟨rfl, hb2⟩
    have HB2 := hide hb2
    clear hb2
    go_wp2
    go_ret2
    exact HF.out _ (bel_tr HB1.out HB2.out)
end
end Go.Proofs.YtefdilakpggggaaDoor

namespace Go.Proofs.YtefdilakpggggaaDoor
open Go.RowKit
/-- The words of areas. -/
def arW (p : Pg) (l : List Int) : Nat := (l.map fun t => ((p.ty[t.toNat]?).getD []).length).sum
def szP (p : Pg) (f : Fd) (F : Fl) : Nat := f.lo.length + F.mo + arW p f.ar
/-- How Size ends. -/
def SzO (p : Pg) (m : Int) (w : World) (e : Ending) (W : World) : Prop := Below w.heap.size w W ∧
  (((checkP p).2.2 ≠ 0 ∧ e = .returned (.tuple #[.int .i64 0, .int .i64 (checkP p).2.2])) ∨
  ((checkP p).2.2 = 0 ∧ inB m p.fu.length = false ∧ e = .returned (.tuple #[.int .i64 0, .int .i64 6])) ∨
  ∃ (k : Nat) (f : Fd) (F : Fl), (checkP p).2.2 = 0 ∧ m = (k : Int) ∧ p.fu[k]? = some f ∧ followP p f = .ok F ∧ e = .returned (.tuple #[.int .i64 (szP p f F : Int), .int .i64 0]))
theorem arW_next {p : Pg} {l : List Int} {j : Nat} {x : Int} (h : l[j]? = some x) : arW p (l.take (j + 1)) = arW p (l.take j) + ((p.ty[x.toNat]?).getD []).length := by
  unfold arW
  rw [List.take_add_one, h]
  simp
theorem arW_le {p : Pg} (H : ∀ l ∈ p.ty, l.length ≤ 4096) : ∀ l : List Int, arW p l ≤ 4096 * l.length
  | [] => by simp [arW]
  | x :: r => by
    have ih := arW_le H r
    have : ((p.ty[x.toNat]?).getD []).length ≤ 4096 := by
      cases h : p.ty[x.toNat]? with
      | none => simp
      | some l => exact H l (List.mem_of_getElem? h)
    unfold arW at *
    simp only [List.map_cons, List.sum_cons, List.length_cons]
    omega
def SzR (p : Pg) (l : List Int) (b : Nat) (w : World) (a c : Value) (wr : World) : Prop := ∃ j : Nat, c = .int .i64 j ∧ j ≤ l.length ∧ a = .int .i64 ((b + arW p (l.take j) : Nat) : Int) ∧ Below w.heap.size w wr
section
variable {B : Nat} {w : World} {p : Pg}
set_option maxRecDepth 100000 in
set_option maxHeartbeats 1000000 in
theorem size_any {v1 v2 v3 v4 : Value} (P : PgAt B w v1 v2 v3 v4 p) (hB : B ≤ w.heap.size) (hT : Tb w) (hb0 : 0 < B) (m : Int) : Calls Tryd.prog 12 #[.agg #[v1, v2, v3, v4], .int .i64 m] w (SzO p m w) := by
  obtain ⟨a1, d1, hv1⟩ := sl_form P.ty
  obtain ⟨a2, d2, hv2⟩ := sl_form P.fu
  obtain ⟨a3, d3, hv3⟩ := sl_form P.ta
  obtain ⟨a4, d4, hv4⟩ := sl_form P.st
  subst hv1 hv2 hv3 hv4
  obtain ⟨W1, hW1⟩ : ∃ W1, w.alloc (.cells #[.slice a1 p.ty.length d1, .slice a2 p.fu.length d2, .slice a3 p.ta.length d3, .slice a4 p.st.length d4] 27) = W1 := ⟨_, rfl⟩
  have b1 : Below w.heap.size w W1 := by rw [← hW1]; exact (Below.refl _ _).alloc (Nat.le_refl _) _
  have e1 : W1.heap[w.heap.size]? = some (.cells #[.slice a1 p.ty.length d1, .slice a2 p.fu.length d2, .slice a3 p.ta.length d3, .slice a4 p.st.length d4] 27 (0, 0)) := by rw [← hW1]; exact heap_new _ _ rfl
  have HBX := hide (show ∀ W : World, Below W1.heap.size W1 W → W.cell? ⟨w.heap.size, 0, none⟩ = some (.slice a1 p.ty.length d1) ∧ W.cell? ⟨w.heap.size, 1, none⟩ = some (.slice a2 p.fu.length d2) ∧ W.cell? ⟨w.heap.size, 2, none⟩ = some (.slice a3 p.ta.length d3) ∧ W.cell? ⟨w.heap.size, 3, none⟩ = some (.slice a4 p.st.length d4) from fun W h => by
    have h1 := (h.block _ (lt_of_block e1)).trans e1
    exact ⟨cell_of h1 rfl, cell_of h1 rfl, cell_of h1 rfl, cell_of h1 rfl⟩)
  have HPG := hide (show ∀ W : World, Below W1.heap.size W1 W → PgAt B W (.slice a1 p.ty.length d1) (.slice a2 p.fu.length d2) (.slice a3 p.ta.length d3) (.slice a4 p.st.length d4) p ∧ B ≤ W.heap.size ∧ Tb W from fun W h => ⟨P.keep (Nat.le_refl _) (fun j hj => (bel_tr b1 h).block j (Nat.lt_of_lt_of_le hj hB)), Nat.le_trans hB (bel_tr b1 h).size, hT.keep ((bel_tr b1 h).block 0 (Nat.lt_of_lt_of_le hb0 hB))⟩)
  have HB1 := hide b1
  obtain ⟨k0, k1, k2, k3⟩ := HBX.out W1 (Below.refl _ _)
  have hl0 := lt_of_block e1
  have HSF := hide (soundFlow_any (HPG.out W1 (Below.refl _ _)).1 (HPG.out W1 (Below.refl _ _)).2.1 (HPG.out W1 (Below.refl _ _)).2.2 hb0 m)
  clear P hB hT hb0 b1 e1
  obtain ⟨n1, hN1⟩ : ∃ n, p.ty.length = n := ⟨_, rfl⟩
  rw [hN1] at HBX HPG HSF k0 hW1 ⊢
  have HN1 := hide hN1
  clear hN1
  obtain ⟨n2, hN2⟩ : ∃ n, p.fu.length = n := ⟨_, rfl⟩
  rw [hN2] at HBX HPG HSF k1 hW1 ⊢
  have HN2 := hide hN2
  clear hN2
  generalize p.ta.length = n3 at *
  generalize p.st.length = n4 at *
  go_enter Tryd.func12, Tryd.ntmps12
  go_wp2_with fail
  refine HSF.out.mono ?_
  rintro e w2 ⟨hb2, (⟨hc, rfl⟩ | ⟨hc, hi, rfl⟩ | ⟨k, f, F, A, ahb, wtb, E, V, at_, hc, hm, hf, hF, rfl, hM⟩)⟩
  · have HB2 := hide (bel_tr HB1.out hb2)
    have HC := hide hc
    obtain ⟨ce, hce⟩ : ∃ c, (checkP p).2.2 = c := ⟨_, rfl⟩
    have HF := hide (show ∀ W, Below w.heap.size w W → SzO p m w (.returned (.tuple #[.int .i64 0, .int .i64 ce])) W from fun W h => ⟨h, .inl ⟨HC.out, by rw [hce]⟩⟩)
    rw [hce] at hc ⊢
    have q0 : (ce != 0) = true := by simpa using hc
    clear hb2 hc hce
    go_wp2
    go_ret2
    exact HF.out _ HB2.out
  · have HB2 := hide (bel_tr HB1.out hb2)
    have HF := hide (show ∀ W, Below w.heap.size w W → SzO p m w (.returned (.tuple #[.int .i64 0, .int .i64 6])) W from fun W h => ⟨h, .inr (.inl ⟨hc, hi, rfl⟩)⟩)
    clear hb2 hc hi
    go_wp2
    go_ret2
    exact HF.out _ HB2.out
  · obtain ⟨_, o1, o2, _⟩ := check_ok hc
    have H := hok_of o1 o2
    have hfo := H.fu f (List.mem_of_getElem? hf)
    have I := follow_inv H hfo hF
    have HF := hide (show ∀ W, Below w.heap.size w W → SzO p m w (.returned (.tuple #[.int .i64 (szP p f F : Int), .int .i64 0])) W from fun W h => ⟨h, .inr (.inr ⟨k, f, F, hc, hm, hf, hF, rfl⟩)⟩)
    have c7 : w2.cell? ⟨A, 7, none⟩ = some V.u1 := cell_of hM.fl.box rfl
    have c9 : w2.cell? ⟨A, 9, none⟩ = some V.u3 := cell_of hM.fl.box rfl
    have c13 : w2.cell? ⟨A, 13, none⟩ = some (.int .i64 (F.mo : Int)) := cell_of hM.fl.box rfl
    obtain ⟨x1, z1, h1⟩ := sl_form hM.fl.lo
    obtain ⟨x3, z3, h3⟩ := sl_form hM.fl.ar
    rw [h1] at c7
    rw [h3] at c9
    have hlA := (hM.lt (.inl rfl)).2
    have RA := hM.fl.ar
    rw [h3] at RA
    obtain ⟨_, _, hv, _, hel⟩ := RA
    cases hv
    have HEL := hide (show ∀ (W : World), Below w2.heap.size w2 W → ∀ (j : Nat) (t : Int), f.ar[j]? = some t → ∃ g o, x3 = some ⟨g, o, none⟩ ∧ g < W.heap.size ∧ W.cell? ⟨g, o + j, none⟩ = some (.int .i64 t) from fun W h j t ht => by
      obtain ⟨g, o, e1, e2, e3, _⟩ := ints_at hel ht
      have hg : g < w2.heap.size := Nat.lt_of_lt_of_le e2 hM.fl.hB
      exact ⟨g, o, e1, Nat.lt_of_lt_of_le hg h.size, (h.cell (p := ⟨g, o + j, none⟩) hg).trans e3⟩)
    have HAR := hide hfo.ar
    have HMO := hide (show f.lo.length ≤ 4096 ∧ F.mo ≤ 300000000 ∧ f.ar.length ≤ 4096 from ⟨hfo.nl, by have := I.mo; have := hfo.nc; omega, hfo.na⟩)
    have HAW := hide (arW_le fun l hl => (H.ty l hl).2.1)
    have HB2 := hide hb2
    have HSZ := hide (show szP p f F = f.lo.length + F.mo + arW p f.ar from rfl)
    have hlI : w.heap.size < w2.heap.size := Nat.lt_of_lt_of_le hl0 hb2.size
    clear hb2 hc hm hf hF hM o1 o2 H hfo I h1 h3 hel k0 k1 k2 k3 hW1
    obtain ⟨k0, k1, k2, k3⟩ := HBX.out w2 HB2.out
    generalize f.lo.length = ll at *
    generalize F.mo = mo at *
    obtain ⟨hb1, hb2, hb3⟩ := HMO.out
    have hwp : IntKind.i64.wrap ((ll : Int) + (mo : Int)) = (ll : Int) + (mo : Int) := by
      rw [show (ll : Int) + (mo : Int) = ((ll + mo : Nat) : Int) by omega]
      exact wrap_nat (by omega)
    generalize hal : f.ar.length = al at *
    have HAL := hide hal
    clear hal
    go_wp2_with fail
    go_region
    go_wp2
    rw [show (ll : Int) + (mo : Int) = ((ll + mo : Nat) : Int) by omega]
    have HB3 := hide (show Below w2.heap.size w2 w2.drew from below_drew (Below.refl _ _))
    go_loopw [8, 37] (fun a c wr => SzR p f.ar (ll + mo) w2 a c wr) (fun _ c _ => al - (intOf c).toNat)
    case atStart => exact ⟨0, rfl, Nat.zero_le _, rfl, HB3.out⟩
    case round =>
      obtain ⟨j, rfl, hj, rfl, hb⟩ := hrel
      have HBR := hide hb
      rw [HAL.out] at hj
      clear hb k0 k1 k2 k3 c7 c9 c13
      obtain ⟨k0, k1, k2, k3⟩ := HBX.out wr (bel_tr HB2.out HBR.out)
      have hlw : w.heap.size < wr.heap.size := Nat.lt_of_lt_of_le hlI HBR.out.size
      by_cases hlt : j < al
      · obtain ⟨t, ht⟩ : ∃ t, f.ar[j]? = some t := ⟨f.ar[j]'(by rw [HAL.out]; exact hlt), by simp⟩
        obtain ⟨g, o, rfl, hg, hc⟩ := HEL.out wr HBR.out j t ht
        obtain ⟨tk, rfl, htk⟩ := in_nat (HAR.out t (List.mem_of_getElem? ht))
        obtain ⟨l, hl⟩ : ∃ l, p.ty[tk]? = some l := ⟨p.ty[tk], by simp⟩
        obtain ⟨PW, hBw, _⟩ := HPG.out wr (bel_tr HB2.out HBR.out)
        obtain ⟨g2, o2, c2, nn, u, hv, hnn, hlt2, hg2, hc2, hsl⟩ := lst_at PW.ty hl
        cases hv
        obtain ⟨ua, uc, rfl⟩ := sl_form hsl
        have hg2w : g2 < wr.heap.size := Nat.lt_of_lt_of_le hg2 hBw
        have d1 : decide (j < al) = true := by simpa using hlt
        have d2 : decide (tk < n1) = true := by simpa using hlt2
        have HNX := hide (show ll + mo + arW p (f.ar.take (j + 1)) = ll + mo + arW p (f.ar.take j) + l.length from by rw [arW_next ht, Int.toNat_natCast, hl, Option.getD_some]; omega)
        have hle : ll + mo + arW p (f.ar.take (j + 1)) ≤ 400000000 := by
          have h1 := HAW.out (f.ar.take (j + 1))
          have h2 : (f.ar.take (j + 1)).length ≤ 4096 := by rw [List.length_take, HAL.out]; omega
          omega
        rw [HNX.out] at hle
        clear PW hnn hsl hl ht htk
        generalize l.length = len at *
        obtain ⟨base, hba⟩ : ∃ b, ll + mo + arW p (f.ar.take j) = b := ⟨_, rfl⟩
        rw [hba] at hle HNX ⊢
        clear hba
        have hwb : IntKind.i64.wrap ((base : Int) + (len : Int)) = (base : Int) + (len : Int) := by
          rw [show (base : Int) + (len : Int) = ((base + len : Nat) : Int) by omega]
          exact wrap_nat (by omega)
        have d3 : (j : Int) ≤ 4096 := by omega
        go_wp2
        go_roundw
        case rel => exact ⟨j + 1, by first | exact num_next hlt (by omega) | go_num, by rw [HAL.out]; exact hlt, by rw [HNX.out]; first | rfl | (congr 1; omega), HBR.out⟩
        case measure => first | exact meas_int hlt (by omega) | (rw [intOf_int, intOf_int]; omega)
      · obtain rfl : al = j := by omega
        have d1 : decide (al < al) = false := by simp
        have HE := hide (show ll + mo + arW p (f.ar.take al) = szP p f F from by rw [HSZ.out, ← HAL.out, List.take_length])
        rw [HE.out]
        go_wp2
        go_ret2
        exact HF.out _ (bel_tr HB1.out (bel_tr HB2.out HBR.out))
end
end Go.Proofs.YtefdilakpggggaaDoor

namespace Go.Proofs.YtefdilakpggggaaDoor
open Go.RowKit
def awF : Fd := ⟨0, [], [], [], [⟨1, 5, 0⟩, ⟨25, 0, 0⟩, ⟨28, 0, 0⟩]⟩
def awP : Pg := ⟨[], [awF], [], []⟩
theorem aw_check : checkP awP = (0, 0, 0) := by decide +kernel
theorem aw_size : (match followP awP awF with | .ok F => szP awP awF F | .error _ => 0) = 1 := by decide +kernel
theorem sl_nil {α : Type} {k : Nat} {P : World → List Value → α → Prop} {B : Nat} {w : World} : SlAt k P B w (.slice none 0 0) ([] : List α) := ⟨none, 0, rfl, ⟨by simp, by simp, by unfold maxLen; omega⟩, fun j x hx => by simp at hx⟩
section
variable {w : World}
theorem aw_pg {W : World} {b0 b1 : Nat} (h0 : W.heap[b0]? = some (.cells #[.int .i64 1, .int .i64 5, .int .i64 0, .int .i64 25, .int .i64 0, .int .i64 0, .int .i64 28, .int .i64 0, .int .i64 0] 50 (0, 0))) (h1 : W.heap[b1]? = some (.cells #[.int .i64 0, .slice none 0 0, .slice none 0 0, .slice none 0 0, .slice (some ⟨b0, 0, none⟩) 3 3] 48 (0, 0))) : PgAt W.heap.size W (.slice none 0 0) (.slice (some ⟨b1, 0, none⟩) 1 1) (.slice none 0 0) (.slice none 0 0) awP := by
  refine ⟨sl_nil, ⟨some ⟨b1, 0, none⟩, 1, rfl, ⟨by simp [awP], by simp [awP], by unfold maxLen; omega⟩, fun j x hx => ?_⟩, sl_nil, sl_nil⟩
  match j, hx with
  | 0, hx =>
    cases hx
    refine ⟨b1, 0, [.int .i64 0, .slice none 0 0, .slice none 0 0, .slice none 0 0, .slice (some ⟨b0, 0, none⟩) 3 3], rfl, lt_of_block h1, fun r u hu => ?_, _, _, _, _, rfl, by simp [awF], sl_nil, sl_nil, sl_nil, ⟨some ⟨b0, 0, none⟩, 3, rfl, ⟨by simp [awF], by simp [awF], by unfold maxLen; omega⟩, fun j y hy => ?_⟩⟩
    · rw [Nat.zero_mul, Nat.add_zero, Nat.zero_add]
      exact cell_of h1 (by simpa using hu)
    · match j, hy with
      | 0, hy =>
        cases hy
        refine ⟨b0, 0, [.int .i64 1, .int .i64 5, .int .i64 0], rfl, lt_of_block h0, fun r u hu => ?_, rfl, by simp⟩
        match r, hu with
        | 0, hu => cases hu; exact cell_of h0 rfl
        | 1, hu => cases hu; exact cell_of h0 rfl
        | 2, hu => cases hu; exact cell_of h0 rfl
      | 1, hy =>
        cases hy
        refine ⟨b0, 0, [.int .i64 25, .int .i64 0, .int .i64 0], rfl, lt_of_block h0, fun r u hu => ?_, rfl, by simp⟩
        match r, hu with
        | 0, hu => cases hu; exact cell_of h0 rfl
        | 1, hu => cases hu; exact cell_of h0 rfl
        | 2, hu => cases hu; exact cell_of h0 rfl
      | 2, hy =>
        cases hy
        refine ⟨b0, 0, [.int .i64 28, .int .i64 0, .int .i64 0], rfl, lt_of_block h0, fun r u hu => ?_, rfl, by simp⟩
        match r, hu with
        | 0, hu => cases hu; exact cell_of h0 rfl
        | 1, hu => cases hu; exact cell_of h0 rfl
        | 2, hu => cases hu; exact cell_of h0 rfl
set_option maxRecDepth 100000 in
set_option maxHeartbeats 1000000 in
theorem awake_any (w : World) (hT : Tb w) : Calls Tryd.prog 10 #[] w fun e w' => e = .returned (.bool true) ∧ Below w.heap.size w w' := by
  have h0 : 0 < w.heap.size := World.block_lt_of_cell? w ⟨0, 0, none⟩ (hT 0 (by decide))
  obtain ⟨W1, hW1⟩ : ∃ W1, ((w.alloc (.cells #[.int .i64 1, .int .i64 5, .int .i64 0, .int .i64 25, .int .i64 0, .int .i64 0, .int .i64 28, .int .i64 0, .int .i64 0] 50)).alloc (.cells #[.int .i64 0, .slice none 0 0, .slice none 0 0, .slice none 0 0, .slice (some ⟨w.heap.size, 0, none⟩) 3 3] 48)).alloc (.cells #[.slice none 0 0, .slice (some ⟨w.heap.size + 1, 0, none⟩) 1 1, .slice none 0 0, .slice none 0 0] 27) = W1 := ⟨_, rfl⟩
  have b1 : Below w.heap.size w W1 := by rw [← hW1]; exact (((Below.refl _ _).alloc (Nat.le_refl _) _).alloc (by simp) _).alloc (by simp; omega) _
  have g0 : W1.heap[w.heap.size]? = some (.cells #[.int .i64 1, .int .i64 5, .int .i64 0, .int .i64 25, .int .i64 0, .int .i64 0, .int .i64 28, .int .i64 0, .int .i64 0] 50 (0, 0)) := by rw [← hW1, Below.heap_alloc _ _ _ (by simp; omega), Below.heap_alloc _ _ _ (by simp)]; exact heap_new _ _ rfl
  have g1 : W1.heap[w.heap.size + 1]? = some (.cells #[.int .i64 0, .slice none 0 0, .slice none 0 0, .slice none 0 0, .slice (some ⟨w.heap.size, 0, none⟩) 3 3] 48 (0, 0)) := by rw [← hW1, Below.heap_alloc _ _ _ (by simp)]; exact heap_new _ _ (by simp)
  have g2 : W1.heap[w.heap.size + 1 + 1]? = some (.cells #[.slice none 0 0, .slice (some ⟨w.heap.size + 1, 0, none⟩) 1 1, .slice none 0 0, .slice none 0 0] 27 (0, 0)) := by rw [← hW1]; exact heap_new _ _ (by simp)
  have HCK := hide (check_any (aw_pg g0 g1) (Nat.le_refl _) (hT.keep (b1.block 0 h0)) (Nat.lt_of_lt_of_le h0 b1.size))
  have HSZ := hide (show ∀ W : World, Below W1.heap.size W1 W → Calls Tryd.prog 12 #[.agg #[.slice none 0 0, .slice (some ⟨w.heap.size + 1, 0, none⟩) 1 1, .slice none 0 0, .slice none 0 0], .int .i64 0] W fun e w' => e = .returned (.tuple #[.int .i64 1, .int .i64 0]) ∧ Below W.heap.size W w' from fun W h => by
    have hb := bel_tr b1 h
    refine (size_any (aw_pg ((h.block _ (lt_of_block g0)).trans g0) ((h.block _ (lt_of_block g1)).trans g1)) (Nat.le_refl _) (hT.keep (hb.block 0 h0)) (Nat.lt_of_lt_of_le h0 hb.size) 0).mono ?_
    rintro e w' ⟨hb2, (⟨hc, _⟩ | ⟨_, hi, _⟩ | ⟨k, f, F, _, hk, hf, hF, rfl⟩)⟩
    · rw [aw_check] at hc
      exact absurd rfl hc
    · cases hi
    · have hk0 : k = 0 := by omega
      subst hk0
      cases hf
      have hs := aw_size
      rw [hF] at hs
      have hs2 : szP awP awF F = 1 := hs
      rw [hs2]
      exact ⟨rfl, hb2⟩)
  unfold CkO at HCK
  rw [aw_check] at HCK
  have HB1 := hide b1
  have HBX := hide (show ∀ W : World, Below W1.heap.size W1 W → W.cell? ⟨w.heap.size + 1 + 1, 0, none⟩ = some (.slice none 0 0) ∧ W.cell? ⟨w.heap.size + 1 + 1, 1, none⟩ = some (.slice (some ⟨w.heap.size + 1, 0, none⟩) 1 1) ∧ W.cell? ⟨w.heap.size + 1 + 1, 2, none⟩ = some (.slice none 0 0) ∧ W.cell? ⟨w.heap.size + 1 + 1, 3, none⟩ = some (.slice none 0 0) ∧ w.heap.size + 1 + 1 < W.heap.size from fun W h => by
    have h1 := (h.block _ (lt_of_block g2)).trans g2
    exact ⟨cell_of h1 rfl, cell_of h1 rfl, cell_of h1 rfl, cell_of h1 rfl, lt_of_block h1⟩)
  obtain ⟨k0, k1, k2, k3, k4⟩ := HBX.out W1 (Below.refl _ _)
  clear b1 g0 g1 g2 hT h0
  have HW1 := hide hW1
  clear hW1
  go_enter Tryd.func10, Tryd.ntmps10
  go_upto_region 2 with (fail)
  rw [HW1.out]
  go_wp2_with fail
  refine HCK.out.mono ?_
  rintro e w2 ⟨rfl, hb2⟩
  have HB2 := hide hb2
  clear hb2 k0 k1 k2 k3 k4
  obtain ⟨k0, k1, k2, k3, k4⟩ := HBX.out w2 HB2.out
  go_wp2_with fail
  refine (HSZ.out w2 HB2.out).mono ?_
  rintro e w3 ⟨rfl, hb3⟩
  have HB3 := hide (bel_tr HB1.out (bel_tr HB2.out hb3))
  clear hb3 k0 k1 k2 k3 k4
  go_wp2
  go_ret
  exact ⟨rfl, HB3.out⟩
end
end Go.Proofs.YtefdilakpggggaaDoor

namespace Go.Proofs.YtefdilakpggggaaDoor
structure Ext (p q : Pg) : Prop where
  ty : ∀ (t : Nat) (l : List Int), p.ty[t]? = some l → q.ty[t]? = some l
  tl : p.ty.length ≤ q.ty.length
  fu : ∀ (m : Nat) (g : Fd), p.fu[m]? = some g → ∃ g', q.fu[m]? = some g' ∧ parK g' = parK g ∧ g'.re = g.re
  fl : p.fu.length ≤ q.fu.length
  ta : ∀ (t : Nat) (l : List Int), p.ta[t]? = some l → q.ta[t]? = some l
  al : p.ta.length ≤ q.ta.length
  sl : p.st.length ≤ q.st.length
structure ExF (f g : Fd) : Prop where
  lo : ∀ (k : Nat) (x : Int), f.lo[k]? = some x → g.lo[k]? = some x
  ll : f.lo.length ≤ g.lo.length
  ar : ∀ (k : Nat) (x : Int), f.ar[k]? = some x → g.ar[k]? = some x
  al : f.ar.length ≤ g.ar.length
  re : g.re = f.re
  co : ∀ (k : Nat) (i : In3), f.co[k]? = some i → g.co[k]? = some i
  cl : f.co.length ≤ g.co.length
section
variable {p q : Pg} {f g : Fd} {i : In3}
theorem in_mono {x : Int} {m n : Nat} (h : inB x m = true) (hm : m ≤ n) : inB x n = true := by
  simp only [inB, decide_eq_true_eq] at h ⊢
  omega
theorem kb_mono {m n : Nat} {k : Int} (h : isKB m k = true) (hm : m ≤ n) : isKB n k = true := by
  unfold isKB at h ⊢
  rw [decide_eq_true_eq] at h ⊢
  omega
theorem free_mono {m n : Nat} {k : Int} (h : freeB m k = true) (hm : m ≤ n) : freeB n k = true := by
  unfold freeB at h ⊢
  rw [Bool.and_eq_true] at h ⊢
  exact ⟨kb_mono h.1 hm, h.2⟩
theorem only_ext (X : Ext p q) {t k : Int} (h : onlyB p t k = true) : onlyB q t k = true := by
  unfold onlyB at h ⊢
  rw [decide_eq_true_eq] at h ⊢
  exact X.ty _ _ h
theorem names_ext (X : Ext p q) (Y : ExF f g) (h : namesB p f i = true) : namesB q g i = true := by
  unfold namesB at h ⊢
  by_cases h1 : i.o = 2
  · rw [if_pos h1, Bool.and_eq_true] at h ⊢
    exact ⟨h.1, kb_mono h.2 X.tl⟩
  rw [if_neg h1] at h ⊢
  by_cases h2 : i.o = 3 ∨ i.o = 4
  · rw [if_pos h2] at h ⊢; exact in_mono h Y.ll
  rw [if_neg h2] at h ⊢
  by_cases h3 : i.o = 7
  · rw [if_pos h3] at h ⊢; exact h
  rw [if_neg h3] at h ⊢
  by_cases h4 : i.o = 11 ∨ i.o = 12 ∨ i.o = 21
  · rw [if_pos h4] at h ⊢; exact in_mono h X.tl
  rw [if_neg h4] at h ⊢
  by_cases h5 : i.o = 13
  · rw [if_pos h5] at h ⊢; exact in_mono h Y.al
  rw [if_neg h5] at h ⊢
  by_cases h6 : i.o = 16
  · rw [if_pos h6] at h ⊢; exact in_mono h X.tl
  rw [if_neg h6] at h ⊢
  by_cases h7 : i.o = 22
  · rw [if_pos h7] at h ⊢; exact in_mono h X.fl
  rw [if_neg h7] at h ⊢
  by_cases h8 : i.o = 23
  · rw [if_pos h8] at h ⊢; exact in_mono h X.al
  rw [if_neg h8] at h ⊢
  by_cases h9 : i.o = 29
  · rw [if_pos h9] at h ⊢
    simp only [Bool.and_eq_true] at h ⊢
    exact ⟨⟨in_mono h.1.1 X.sl, in_mono h.1.2 X.tl⟩, only_ext X h.2⟩
  rw [if_neg h9]
theorem call_ext (X : Ext p q) {a : Int} (h : inB a p.fu.length = true) : parK (callP q a) = parK (callP p a) ∧ (callP q a).re = (callP p a).re := by
  obtain ⟨m, rfl, hm⟩ := in_nat h
  obtain ⟨g, hg⟩ : ∃ g, p.fu[m]? = some g := ⟨p.fu[m], by simp⟩
  obtain ⟨g', h1, h2, h3⟩ := X.fu m g hg
  rw [call_at hg, call_at h1]
  exact ⟨h2, h3⟩
theorem item_ext (X : Ext p q) (H : Hok p) {a : Int} (h : inB a p.ta.length = true) : parK (itemP q a) = parK (itemP p a) ∧ (itemP q a).re = (itemP p a).re := by
  obtain ⟨t, rfl, ht⟩ := in_nat h
  obtain ⟨tb, m0, g, h1, h2, h3, h4⟩ := table_at H ht
  obtain ⟨g', e1, e2, e3⟩ := X.fu m0 g h3
  have : itemP q (t : Int) = g' := by
    unfold itemP
    rw [Int.toNat_natCast, X.ta t tb h1, Option.getD_some, h2, Option.getD_some, Int.toNat_natCast, e1]
    rfl
  rw [h4, this]
  exact ⟨e2, e3⟩
theorem nm_22 (h : namesB p f i = true) (ho : i.o = 22) : inB i.a p.fu.length = true := by
  unfold namesB at h
  rw [if_neg (by omega), if_neg (by omega), if_neg (by omega), if_neg (by omega), if_neg (by omega), if_neg (by omega), if_pos ho] at h
  exact h
theorem nm_23 (h : namesB p f i = true) (ho : i.o = 23) : inB i.a p.ta.length = true := by
  unfold namesB at h
  rw [if_neg (by omega), if_neg (by omega), if_neg (by omega), if_neg (by omega), if_neg (by omega), if_neg (by omega), if_neg (by omega), if_pos ho] at h
  exact h
theorem nm_lo (h : namesB p f i = true) (ho : i.o = 3 ∨ i.o = 4) : inB i.a f.lo.length = true := by
  unfold namesB at h
  rw [if_neg (by omega), if_pos ho] at h
  exact h
theorem nm_ar (h : namesB p f i = true) (ho : i.o = 13) : inB i.a f.ar.length = true := by
  unfold namesB at h
  rw [if_neg (by omega), if_neg (by omega), if_neg (by omega), if_neg (by omega), if_pos ho] at h
  exact h
theorem get_ext {l m : List Int} (hx : ∀ (k : Nat) (x : Int), l[k]? = some x → m[k]? = some x) {a : Int} (h : inB a l.length = true) : (m[a.toNat]?).getD 0 = (l[a.toNat]?).getD 0 := by
  obtain ⟨k, rfl, hk⟩ := in_nat h
  obtain ⟨x, h1⟩ : ∃ x, l[k]? = some x := ⟨l[k], by simp⟩
  rw [Int.toNat_natCast, h1, hx k x h1]
theorem takes_ext (X : Ext p q) (Y : ExF f g) (H : Hok p) (h : namesB p f i = true) : takesP q g i = takesP p f i := by
  unfold takesP
  by_cases h1 : i.o = 4
  · rw [if_pos h1, if_pos h1, get_ext Y.lo (nm_lo h (.inr h1))]
  rw [if_neg h1, if_neg h1]
  by_cases h2 : i.o = 22
  · obtain ⟨e1, _⟩ := call_ext X (nm_22 h h2)
    simp only [h2, e1]
    rfl
  by_cases h3 : i.o = 23
  · obtain ⟨e1, _⟩ := item_ext X H (nm_23 h h3)
    simp only [h3, e1]
    rfl
  simp only [h2, h3, if_false, Y.re]
theorem field_ext (X : Ext p q) {k a v : Int} (h : fieldP p k a = some v) : fieldP q k a = some v := by
  unfold fieldP at h ⊢
  dsimp only at h ⊢
  cases ht : p.ty[((bareK k - 2) / 2).toNat]? with
  | none =>
    rw [ht] at h
    simp [inB] at h
  | some l =>
    rw [ht] at h
    rw [X.ty _ _ ht]
    exact h
theorem puts_ext (X : Ext p q) (Y : ExF f g) (H : Hok p) (h : namesB p f i = true) {top low : Int} {l : List Int} (hp : putsP p f i top low = .ok l) : putsP q g i top low = .ok l := by
  unfold putsP at hp ⊢
  by_cases h1 : i.o = 1 ∨ i.o = 7 ∨ i.o = 8 ∨ i.o = 18 ∨ i.o = 20
  · rw [if_pos h1] at hp ⊢; exact hp
  rw [if_neg h1] at hp ⊢
  by_cases h2 : i.o = 2
  · rw [if_pos h2] at hp ⊢; exact hp
  rw [if_neg h2] at hp ⊢
  by_cases h3 : i.o = 3
  · rw [if_pos h3] at hp ⊢
    rw [get_ext Y.lo (nm_lo h (.inl h3))]
    exact hp
  rw [if_neg h3] at hp ⊢
  by_cases h4 : i.o = 6
  · rw [if_pos h4] at hp ⊢; exact hp
  rw [if_neg h4] at hp ⊢
  by_cases h5 : i.o = 11 ∨ i.o = 21
  · rw [if_pos h5] at hp ⊢; exact hp
  rw [if_neg h5] at hp ⊢
  by_cases h6 : i.o = 12
  · rw [if_pos h6] at hp ⊢; exact hp
  rw [if_neg h6] at hp ⊢
  by_cases h7 : i.o = 13
  · rw [if_pos h7] at hp ⊢
    rw [get_ext Y.ar (nm_ar h h7)]
    exact hp
  rw [if_neg h7] at hp ⊢
  by_cases h8 : i.o = 14
  · rw [if_pos h8] at hp ⊢
    cases hf : fieldP p low i.a with
    | none => rw [hf] at hp; cases hp
    | some k => rw [hf] at hp; rw [field_ext X hf]; exact hp
  rw [if_neg h8] at hp ⊢
  by_cases h9 : i.o = 15
  · rw [if_pos h9] at hp ⊢
    cases hf : fieldP p low i.a with
    | none => rw [hf] at hp; cases hp
    | some k => rw [hf] at hp; rw [field_ext X hf]; exact hp
  rw [if_neg h9] at hp ⊢
  by_cases h10 : i.o = 16
  · rw [if_pos h10] at hp ⊢
    cases hf : fieldP p low i.a with
    | none => rw [hf] at hp; cases hp
    | some k =>
      rw [hf] at hp
      rw [field_ext X hf]
      dsimp only at hp ⊢
      split at hp
      · rename_i ho
        rw [if_pos (only_ext X ho)]
        exact hp
      · cases hp
  rw [if_neg h10] at hp ⊢
  by_cases h11 : i.o = 17
  · rw [if_pos h11] at hp ⊢; exact hp
  rw [if_neg h11] at hp ⊢
  by_cases h12 : i.o = 19
  · rw [if_pos h12] at hp ⊢; exact hp
  rw [if_neg h12] at hp ⊢
  by_cases h13 : i.o = 22
  · rw [if_pos h13] at hp ⊢
    rw [(call_ext X (nm_22 h h13)).2]
    exact hp
  rw [if_neg h13] at hp ⊢
  by_cases h14 : i.o = 23
  · rw [if_pos h14] at hp ⊢
    rw [(item_ext X H (nm_23 h h14)).2]
    exact hp
  rw [if_neg h14] at hp ⊢
  exact hp
theorem look_ext (X : Ext p q) (Y : ExF f g) (H : Hok p) {x : Nat} {s : List Int} {r : List Int × List Int} (h : lookP p f x i s = .ok r) : lookP q g x i s = .ok r := by
  unfold lookP at h ⊢
  dsimp only at h ⊢
  split at h
  · cases h
  · rename_i h1
    rw [Bool.not_eq_false] at h1
    rw [takes_ext X Y H h1, if_neg (by rw [names_ext X Y h1]; simp)]
    split at h
    · cases h
    · rename_i h2
      rw [if_neg h2]
      split at h
      · cases h
      · rename_i h3
        rw [if_neg h3]
        split at h
        · cases h
        · rename_i l h4
          rw [puts_ext X Y H h1 h4]
          dsimp only
          split at h
          · rename_i h5
            rw [if_pos (List.all_eq_true.mpr fun y hy => in_mono (List.all_eq_true.mp h5 y hy) Y.cl)]
            exact h
          · cases h
/-- As before, with room behind it. -/
structure Pad (m : Nat) (F G : Fl) : Prop where
  ah : G.ah = F.ah ++ List.replicate m none
  wt : G.wt = F.wt ++ List.replicate m false
  mo : G.mo = F.mo
theorem least_pad : ∀ (l : List Bool) (m : Nat), leastP (l ++ List.replicate m false) = leastP l
  | [], m => by
    rw [List.nil_append]
    refine least_none fun k => ?_
    rw [List.getElem?_replicate]
    split <;> rfl
  | true :: r, m => rfl
  | false :: r, m => by
    rw [List.cons_append]
    unfold leastP
    rw [least_pad r m]
theorem come_pad {m x : Nat} {s : List Int} {F F' G : Fl} (hP : Pad m F F') (hx : x < F.ah.length) (hw : x < F.wt.length) (h : comeP F x s = .ok G) : ∃ G', comeP F' x s = .ok G' ∧ Pad m G G' := by
  unfold comeP at h ⊢
  rw [hP.ah, List.getElem?_append_left hx]
  split at h
  · cases h
    refine ⟨_, rfl, ?_, ?_, hP.mo⟩
    · dsimp only
      rw [List.set_append_left _ _ hx]
    · dsimp only
      rw [hP.wt, List.set_append_left _ _ hw]
  · split at h
    · rename_i ht
      cases h
      rw [if_pos ht]
      exact ⟨F', rfl, hP⟩
    · cases h
theorem comes_pad {m k : Nat} {s : List Int} : ∀ {l : List Int} {F F' G : Fl}, Pad m F F' → FInv p f k F → (∀ y ∈ l, inB y f.co.length = true) → (∀ k ∈ s, isKB p.ty.length k = true) → s.length ≤ 4096 * k → comesP s l F = .ok G → ∃ G', comesP s l F' = .ok G' ∧ Pad m G G'
  | [], F, F', G, hP, _, _, _, _, h => by cases h; exact ⟨F', rfl, hP⟩
  | y :: r, F, F', G, hP, I, hy, hk, hl, h => by
    unfold comesP at h ⊢
    obtain ⟨n, rfl, hn⟩ := in_nat (hy y (by simp))
    rw [Int.toNat_natCast] at h ⊢
    cases hc : comeP F n s with
    | error e => rw [hc] at h; cases h
    | ok G1 =>
      rw [hc] at h
      obtain ⟨G2, c1, c2⟩ := come_pad hP (by rw [I.la]; exact hn) (by rw [I.lw]; exact hn) hc
      rw [c1]
      exact comes_pad c2 (come_inv hc I hn hk hl).1 (fun z hz => hy z (by simp [hz])) hk hl h
theorem run_pad {m : Nat} (X : Ext p q) (Y : ExF f g) (H : Hok p) (hf : FdOk p f) : ∀ {n k n' : Nat} {F F' G : Fl}, n ≤ n' → FInv p f k F → Pad m F F' → MM F < n → runP p f n F = .ok G → ∃ G', runP q g n' F' = .ok G' ∧ Pad m G G'
  | 0, k, n', F, F', G, _, _, _, hm, _ => by omega
  | n + 1, k, n', F, F', G, hn, I, hP, hm, h => by
    obtain ⟨n2, rfl⟩ : ∃ n2, n' = n2 + 1 := ⟨n' - 1, by omega⟩
    have hl : leastP F'.wt = leastP F.wt := by rw [hP.wt]; exact least_pad _ _
    cases hw : leastP F.wt with
    | none =>
      rw [run_none hw] at h
      cases h
      exact ⟨F', run_none (hl.trans hw), hP⟩
    | some x =>
      rw [run_some hw] at h
      rw [run_some (hl.trans hw)]
      cases hs : stepP p f x F with
      | error e => rw [hs] at h; cases h
      | ok G1 =>
        rw [hs] at h
        have hw2 := least_inv hw
        have hxw : x < F.wt.length := by
          rcases Nat.lt_or_ge x F.wt.length with h1 | h1
          · exact h1
          · rw [List.getElem?_eq_none h1] at hw2; cases hw2
        obtain ⟨t, ht⟩ := I.wa x hw2
        obtain ⟨t1, t2⟩ := I.st x t ht
        have hxa := get_lt ht
        obtain ⟨i, hi⟩ : ∃ i, f.co[x]? = some i := ⟨f.co[x]'(by rw [← I.lw]; exact hxw), by simp⟩
        obtain ⟨J, mj⟩ := step_inv H hf I hw hs
        have hst : ∃ G2, stepP q g x F' = .ok G2 ∧ Pad m G1 G2 := by
          unfold stepP at hs ⊢
          rw [hP.ah, List.getElem?_append_left hxa, ht, Option.getD_some, Option.getD_some, Y.co x i hi, Option.getD_some]
          rw [ht, Option.getD_some, Option.getD_some, hi, Option.getD_some] at hs
          cases hlk : lookP p f x i t with
          | error e => rw [hlk] at hs; cases hs
          | ok bn =>
            obtain ⟨b, ns⟩ := bn
            rw [hlk] at hs
            rw [look_ext X Y H hlk]
            dsimp only at hs ⊢
            obtain ⟨l1, l2, l3⟩ := look_kb H hf t1 hlk
            refine comes_pad (k := k + 1) (F := { F with wt := F.wt.set x false, mo := max F.mo b.length }) ⟨rfl, ?_, ?_⟩ ?_ l3 l1 (by omega) hs
            · dsimp only
              rw [hP.wt, List.set_append_left _ _ hxw]
            · dsimp only
              rw [hP.mo]
            · refine ⟨I.la, by simp [I.lw], fun y t ht => ?_, ?_, fun y hy => ?_⟩
              · obtain ⟨u1, u2⟩ := I.st y t ht
                exact ⟨u1, by omega⟩
              · dsimp only
                have := I.mo
                omega
              · dsimp only at hy ⊢
                by_cases hxy : x = y
                · subst hxy
                  rw [List.getElem?_set_self hxw] at hy
                  cases hy
                · rw [List.getElem?_set_ne hxy] at hy
                  exact I.wa y hy
        obtain ⟨G2, g1, g2⟩ := hst
        rw [g1]
        exact run_pad X Y H hf (by omega) J g2 (by omega) h
/-- The way through a function, in a program that has more. -/
theorem follow_ext (X : Ext p q) (Y : ExF f g) (H : Hok p) (hf : FdOk p f) {F : Fl} (h : followP p f = .ok F) : ∃ G, followP q g = .ok G ∧ Pad (g.co.length - f.co.length) F G := by
  obtain ⟨I, hm⟩ := fl0_inv (p := p) hf.co
  have hP : Pad (g.co.length - f.co.length) (fl0 f.co.length) (fl0 g.co.length) := by
    have hg : g.co.length = f.co.length + (g.co.length - f.co.length) := by have := Y.cl; omega
    generalize g.co.length - f.co.length = d at hg
    rw [hg]
    unfold fl0
    refine ⟨?_, ?_, rfl⟩
    · dsimp only
      rw [← List.replicate_append_replicate, List.set_append_left _ _ (by simpa using hf.co)]
    · dsimp only
      rw [← List.replicate_append_replicate, List.set_append_left _ _ (by simpa using hf.co)]
  exact run_pad X Y H hf (by have := Y.cl; omega) I hP (by rw [hm]; omega) h
end
end Go.Proofs.YtefdilakpggggaaDoor

namespace Go.Proofs.YtefdilakpggggaaDoor
def moF : Fd := ⟨0, [], [], [], [⟨24, 0, 0⟩]⟩
def moS : By := [109, 111, 114, 101]
def addQ (p : Pg) : Pg := ⟨p.ty ++ [[2]], p.fu ++ [moF], p.ta ++ [[(p.fu.length : Int)]], p.st ++ [moS]⟩
section
variable {p : Pg}
theorem add_ext : Ext p (addQ p) :=
  ⟨fun t l h => by unfold addQ; dsimp only; rw [List.getElem?_append_left (get_lt h)]; exact h, by simp [addQ], fun m g h => ⟨g, by unfold addQ; dsimp only; rw [List.getElem?_append_left (get_lt h)]; exact h, rfl, rfl⟩, by simp [addQ], fun t l h => by unfold addQ; dsimp only; rw [List.getElem?_append_left (get_lt h)]; exact h, by simp [addQ], by simp [addQ]⟩
theorem exf_refl (f : Fd) : ExF f f := ⟨fun _ _ h => h, Nat.le_refl _, fun _ _ h => h, Nat.le_refl _, rfl, fun _ _ h => h, Nat.le_refl _⟩
theorem each_app {α : Type} {m : Nat} {s : α → Bool} {l : List α} {x : α} (h : eachB m s l = true) (hl : l.length + 1 ≤ m) (hx : s x = true) : eachB m s (l ++ [x]) = true := by
  obtain ⟨_, h2⟩ := eachB_le h
  unfold eachB
  rw [Bool.and_eq_true, decide_eq_true_eq, List.all_eq_true]
  refine ⟨by simpa using hl, fun y hy => ?_⟩
  rw [List.mem_append] at hy
  rcases hy with hy | hy
  · exact h2 y hy
  · simp at hy
    subst hy
    exact hx
theorem add_snd (h : sndP p = true) (h1 : p.ty.length ≤ 900) (h2 : p.fu.length ≤ 900) (h3 : p.st.length ≤ 900) (h4 : p.ta.length ≤ 900) : sndP (addQ p) = true := by
  simp only [sndP, Bool.and_eq_true] at h ⊢
  exact ⟨each_app h.1 (by omega) (by decide), each_app h.2.1 (by omega) (by decide), each_app h.2.2.1 (by omega) rfl, each_app h.2.2.2 (by omega) (by decide)⟩
theorem head_mono {m n : Nat} {f : Fd} (h : headB m f = true) (hm : m ≤ n) : headB n f = true := by
  simp only [headB, Bool.and_eq_true, List.all_eq_true, decide_eq_true_eq] at h ⊢
  exact ⟨⟨⟨fun k hk => kb_mono (h.1.1.1 k hk) hm, fun t ht => in_mono (h.1.1.2 t ht) hm⟩, fun k hk => free_mono (h.1.2 k hk) hm⟩, h.2⟩
theorem firstBad_none_iff {p : Pg} : ∀ {i : Nat} {l : List Fd}, firstBad p i l = none ↔ ∀ (k : Nat) (f : Fd), l[k]? = some f → headB p.ty.length f = true ∧ (0 < i + k ∨ (f.pa = 0 ∧ f.re = []))
  | i, [] => by simp [firstBad]
  | i, g :: r => by
    unfold firstBad
    constructor
    · intro h k f hk
      split at h
      · rename_i hc
        cases k with
        | zero => cases hk; exact ⟨hc.1, by rw [Nat.add_zero]; exact hc.2⟩
        | succ k =>
          have := (firstBad_none_iff.mp h) k f hk
          rw [Nat.add_assoc, Nat.add_comm 1 k] at this
          exact this
      · cases h
    · intro h
      have h0 := h 0 g rfl
      rw [Nat.add_zero] at h0
      rw [if_pos h0]
      refine firstBad_none_iff.mpr fun k f hk => ?_
      have := h (k + 1) f hk
      rw [Nat.add_assoc, Nat.add_comm 1 k]
      exact this
theorem heads_none : headsP p = none ↔ (∀ l ∈ p.ty, 0 < l.length ∧ ∀ k ∈ l, freeB p.ty.length k = true) ∧ firstBad p 0 p.fu = none ∧ (∀ t ∈ p.ta, tableB p t = true) ∧ 0 < p.fu.length := by
  unfold headsP
  constructor
  · intro h
    split at h
    · cases h
    · rename_i h1
      rw [Bool.not_eq_false, List.all_eq_true] at h1
      split at h
      · cases h
      · rename_i h2
        split at h
        · rename_i h3
          rw [Bool.and_eq_true, List.all_eq_true, decide_eq_true_eq] at h3
          exact ⟨fun l hl => by have := h1 l hl; rw [Bool.and_eq_true, decide_eq_true_eq, List.all_eq_true] at this; exact this, h2, h3.1, h3.2⟩
        · cases h
  · rintro ⟨h1, h2, h3, h4⟩
    rw [if_neg (by rw [Bool.not_eq_false, List.all_eq_true]; intro l hl; rw [Bool.and_eq_true, decide_eq_true_eq, List.all_eq_true]; exact h1 l hl), h2]
    dsimp only
    rw [if_pos (by rw [Bool.and_eq_true, List.all_eq_true, decide_eq_true_eq]; exact ⟨h3, h4⟩)]
/-- A table stays right. -/
theorem table_ext {q : Pg} (X : Ext p q) {t : List Int} (h : tableB p t = true) : tableB q t = true := by
  unfold tableB at h ⊢
  rw [Bool.and_eq_true, List.all_eq_true] at h ⊢
  refine ⟨h.1, fun x hx => ?_⟩
  have hx2 := h.2 x hx
  simp only [Bool.and_eq_true, decide_eq_true_eq] at hx2 ⊢
  have h0 : inB ((t[0]?).getD 0) p.fu.length = true := by
    have hl : 0 < t.length := of_decide_eq_true h.1
    have := h.2 t[0] (List.getElem_mem hl)
    rw [List.getElem?_eq_getElem hl, Option.getD_some]
    simp only [Bool.and_eq_true] at this
    exact this.1.1
  obtain ⟨a1, a2⟩ := call_ext X h0
  obtain ⟨b1, b2⟩ := call_ext X hx2.1.1
  rw [a1, a2, b1, b2]
  exact ⟨⟨in_mono hx2.1.1 X.fl, hx2.1.2⟩, hx2.2⟩
theorem add_heads (h : headsP p = none) : headsP (addQ p) = none := by
  obtain ⟨h1, h2, h3, h4⟩ := heads_none.mp h
  rw [heads_none]
  refine ⟨fun l hl => ?_, ?_, fun t ht => ?_, by simp [addQ]⟩
  · have hn : (addQ p).ty.length = p.ty.length + 1 := by simp [addQ]
    have hl2 : l ∈ p.ty ++ [[2]] := hl
    rw [List.mem_append] at hl2
    rcases hl2 with hl2 | hl2
    · exact ⟨(h1 l hl2).1, fun k hk => free_mono ((h1 l hl2).2 k hk) (by omega)⟩
    · simp at hl2
      subst hl2
      refine ⟨by simp, fun k hk => ?_⟩
      simp at hk
      subst hk
      rw [hn]
      unfold freeB isKB bareK
      rw [if_neg (by decide)]
      simp
      omega
  · rw [firstBad_none_iff] at h2 ⊢
    intro k f hk
    have hk2 : (p.fu ++ [moF])[k]? = some f := hk
    rcases Nat.lt_or_ge k p.fu.length with hlt | hge
    · rw [List.getElem?_append_left hlt] at hk2
      obtain ⟨e1, e2⟩ := h2 k f hk2
      exact ⟨head_mono e1 (by simp [addQ]), e2⟩
    · rw [List.getElem?_append_right hge] at hk2
      have : f = moF := by
        have hk3 : k - p.fu.length = 0 := by have := get_lt hk2; simp at this; omega
        rw [hk3] at hk2
        cases hk2
        rfl
      subst this
      exact ⟨rfl, .inr ⟨rfl, rfl⟩⟩
  · have ht2 : t ∈ p.ta ++ [[(p.fu.length : Int)]] := ht
    rw [List.mem_append] at ht2
    rcases ht2 with ht2 | ht2
    · exact table_ext add_ext (h3 t ht2)
    · simp at ht2
      subst ht2
      unfold tableB
      simp [inB, addQ]
      omega
theorem add_moF : ∃ F, followP (addQ p) moF = .ok F := by
  refine ⟨⟨[some []], [false], 0⟩, ?_⟩
  rfl
theorem add_check (h : (checkP p).2.2 = 0) (h1 : p.ty.length ≤ 900) (h2 : p.fu.length ≤ 900) (h3 : p.st.length ≤ 900) (h4 : p.ta.length ≤ 900) : checkP p = (0, 0, 0) ∧ checkP (addQ p) = (0, 0, 0) := by
  obtain ⟨c1, c2, c3, c4⟩ := check_ok h
  refine ⟨c1, ok_check (add_snd c2 h1 h2 h3 h4) (add_heads c3) fun f hf => ?_⟩
  have H := hok_of c2 c3
  have hf2 : f ∈ p.fu ++ [moF] := hf
  rw [List.mem_append] at hf2
  rcases hf2 with hf2 | hf2
  · obtain ⟨F, hF⟩ := c4 f hf2
    obtain ⟨G, hG, _⟩ := follow_ext add_ext (exf_refl f) H (H.fu f hf2) hF
    exact ⟨G, hG⟩
  · simp at hf2
    subst hf2
    exact add_moF
end
end Go.Proofs.YtefdilakpggggaaDoor

namespace Go.Proofs.YtefdilakpggggaaDoor
open Go.RowKit
/-- Lists of k cells, one behind the other. -/
theorem flat_get {k : Nat} : ∀ {css : List (List Value)}, (∀ c ∈ css, c.length = k) → css.flatten.length = css.length * k ∧ ∀ (j : Nat) (c : List Value) (r : Nat) (u : Value), css[j]? = some c → c[r]? = some u → css.flatten[j * k + r]? = some u
  | [], _ => ⟨by simp, fun j c r u h => by simp at h⟩
  | a :: t, h => by
    have ha := h a (by simp)
    obtain ⟨ih1, ih2⟩ := flat_get (css := t) (fun c hc => h c (by simp [hc]))
    refine ⟨by rw [List.flatten_cons, List.length_append, ih1, ha, List.length_cons, Nat.succ_mul, Nat.add_comm], fun j c r u hj hr => ?_⟩
    rw [List.flatten_cons]
    cases j with
    | zero =>
      cases hj
      rw [Nat.zero_mul, Nat.zero_add, List.getElem?_append_left (get_lt hr)]
      exact hr
    | succ j =>
      have hj2 : t[j]? = some c := hj
      rw [List.getElem?_append_right (by rw [ha, Nat.succ_mul]; omega), ha, show (j + 1) * k + r - k = j * k + r by rw [Nat.succ_mul]; omega]
      exact ih2 j c r u hj2 hr
theorem flat_inv {k : Nat} (hk : 0 < k) : ∀ {css : List (List Value)}, (∀ c ∈ css, c.length = k) → ∀ (n : Nat) (u : Value), css.flatten[n]? = some u → ∃ c, css[n / k]? = some c ∧ c[n % k]? = some u
  | [], _, n, u, h => by simp at h
  | a :: t, h, n, u, hn => by
    have ha := h a (by simp)
    rw [List.flatten_cons] at hn
    rcases Nat.lt_or_ge n k with hlt | hge
    · rw [List.getElem?_append_left (by omega)] at hn
      exact ⟨a, by rw [Nat.div_eq_of_lt hlt]; rfl, by rw [Nat.mod_eq_of_lt hlt]; exact hn⟩
    · rw [List.getElem?_append_right (by omega), ha] at hn
      obtain ⟨c, h1, h2⟩ := flat_inv hk (fun c hc => h c (by simp [hc])) (n - k) u hn
      refine ⟨c, ?_, ?_⟩
      · rw [Nat.div_eq_sub_div hk hge]; exact h1
      · rw [Nat.mod_eq_sub_mod hge]; exact h2
section
variable {α : Type} {k B : Nat} {P : World → List Value → α → Prop} {w w' : World}
/-- The cells of a list that lies. -/
theorem sl_css {v : Value} {l : List α} (R : SlAt k P B w v l) (hk : ∀ cs x, P w cs x → cs.length = k) : ∃ css : List (List Value), css.length = l.length ∧ (∀ c ∈ css, c.length = k) ∧ (∀ (j : Nat) (x : α), l[j]? = some x → ∃ c, css[j]? = some c ∧ P w c x) ∧ ∃ ao cap, v = .slice ao l.length cap ∧ (0 < l.length → ∃ g o, ao = some ⟨g, o, none⟩ ∧ g < B ∧ ∀ (j : Nat) (c : List Value) (r : Nat) (u : Value), css[j]? = some c → c[r]? = some u → w.cell? ⟨g, o + j * k + r, none⟩ = some u) := by
  obtain ⟨ao, cap, hv, _, hel⟩ := R
  have key : ∀ n, n ≤ l.length → ∃ css : List (List Value), css.length = n ∧ (∀ c ∈ css, c.length = k) ∧ (∀ (j : Nat) (x : α), j < n → l[j]? = some x → ∃ c, css[j]? = some c ∧ P w c x ∧ ∃ g o, ao = some ⟨g, o, none⟩ ∧ g < B ∧ ∀ (r : Nat) (u : Value), c[r]? = some u → w.cell? ⟨g, o + j * k + r, none⟩ = some u) := by
    intro n
    induction n with
    | zero => intro _; exact ⟨[], rfl, fun c hc => (by cases hc), fun j x hj => by omega⟩
    | succ n ih =>
      intro hn
      obtain ⟨css, h1, h2, h3⟩ := ih (by omega)
      obtain ⟨x, hx⟩ : ∃ x, l[n]? = some x := ⟨l[n], by simp⟩
      obtain ⟨g, o, cs, e1, e2, e3, e4⟩ := hel n x hx
      refine ⟨css ++ [cs], by simp [h1], fun c hc => ?_, fun j y hj hy => ?_⟩
      · rw [List.mem_append] at hc
        rcases hc with hc | hc
        · exact h2 c hc
        · simp at hc; subst hc; exact hk _ _ e4
      · rcases Nat.lt_or_ge j n with hlt | hge
        · obtain ⟨c, c1, c2⟩ := h3 j y hlt hy
          exact ⟨c, by rw [List.getElem?_append_left (by omega)]; exact c1, c2⟩
        · obtain rfl : j = n := by omega
          rw [hx] at hy
          cases hy
          exact ⟨cs, by rw [List.getElem?_append_right (by omega), h1]; simp, e4, g, o, e1, e2, e3⟩
  obtain ⟨css, h1, h2, h3⟩ := key l.length (Nat.le_refl _)
  refine ⟨css, h1, h2, fun j x hx => ?_, ao, cap, hv, fun hl => ?_⟩
  · obtain ⟨c, c1, c2, _⟩ := h3 j x (get_lt hx) hx
    exact ⟨c, c1, c2⟩
  · obtain ⟨x0, hx0⟩ : ∃ x, l[0]? = some x := ⟨l[0], by simp⟩
    obtain ⟨_, _, _, g, o, e1, e2, _⟩ := h3 0 x0 hl hx0
    refine ⟨g, o, e1, e2, fun j c r u hj hr => ?_⟩
    have hjl : j < l.length := by have := get_lt hj; omega
    obtain ⟨x, hx⟩ : ∃ x, l[j]? = some x := ⟨l[j], by simp⟩
    obtain ⟨c', c1, _, g', o', f1, _, f3⟩ := h3 j x hjl hx
    rw [hj] at c1
    cases c1
    rw [e1] at f1
    cases f1
    exact f3 r u hr
/-- A row of one's own, as a list that lies. -/
theorem row_sl {e : TypeId} {v : Value} {l : List α} {css : List (List Value)} {C : Nat} (h : w.ownsRow C e k v l.length css.flatten) (hk : ∀ c ∈ css, c.length = k) (hl : css.length = l.length) (hP : ∀ (j : Nat) (x : α), l[j]? = some x → ∃ c, css[j]? = some c ∧ P w c x) (hB : w.heap.size ≤ B) (hlen : l.length ≤ 1000000) : SlAt k P B w v l := by
  rcases h.2 with ⟨rfl, h0⟩ | ⟨g, cap, cur, rfl, h1, h2, h3, h4, h5, h6⟩
  · have := List.eq_nil_of_length_eq_zero h0
    subst this
    exact sl_nil
  · refine ⟨_, cap, rfl, ⟨by omega, h3, h4⟩, fun j x hx => ?_⟩
    obtain ⟨c, c1, c2⟩ := hP j x hx
    refine ⟨g, 0, c, rfl, Nat.lt_of_lt_of_le (lt_of_block h2) hB, fun r u hr => cell_of h2 ?_, c2⟩
    have h7 := (flat_get hk).2 j c r u c1 hr
    rw [← h6, List.getElem?_take] at h7
    rw [Nat.zero_add]
    split at h7
    · rw [Array.getElem?_toList] at h7
      exact h7
    · cases h7
theorem run_nil_cap {t ty e : TypeId} {i : TypeInfo} {C n : Nat} {v : Value} {xs : List Value} (ht : Tryd.prog.underlying t = some (.slice e)) (hi : Tryd.prog.info? e = some i) (hown : w.ownsRow C e k v n xs) (c : Nat) : (Builtin.append_ #[t, t] ty #[v, .slice none 0 c]).run Tryd.prog w = .ok v w := by
  rcases hown.2 with ⟨rfl, rfl⟩ | ⟨g, cap, cur, rfl, _, _, hnc, _⟩
  · simp [Builtin.append_, run_underlying ht, sizeOf, typeInfo, hi, Builtin.lenOf, Builtin.firstCells]
  · simp [Builtin.append_, run_underlying ht, sizeOf, typeInfo, hi, Builtin.lenOf, Builtin.firstCells, hnc, storeCells]
/-- All of a list behind an empty one. -/
theorem run_all {t ty e : TypeId} {i : TypeInfo} {z : Value} {bytes C : Nat} (ht : Tryd.prog.underlying t = some (.slice e)) (hi : Tryd.prog.info? e = some i) (hz : i.zero = some z) (hsize : i.size = k) (hby : i.bytes = bytes) (hzs : z.cells.size = k) (hk0 : 0 < k) {v0 v : Value} {l : List α} (R : SlAt k P B w v l) (hk : ∀ cs x, P w cs x → cs.length = k) (h1 : ∀ cs x, P w cs x → ∀ u ∈ cs, u.oneCell' = true) (hlen : l.length ≤ 100000) (hbt : bytes ≤ 1000) (h0 : w.ownsRow C e k v0 0 []) (hC : C ≤ w.heap.size) :
    ∃ (v' : Value) (w' : World) (css : List (List Value)), (Builtin.append_ #[t, t] ty #[v0, v]).run Tryd.prog w = .ok v' w' ∧ w'.ownsRow C e k v' l.length css.flatten ∧ w.grownBy w' v0.ownBlock ∧ (v'.ownBlock = v0.ownBlock ∨ v'.ownBlock = some w.heap.size) ∧ css.length = l.length ∧ (∀ c ∈ css, c.length = k) ∧ ∀ (j : Nat) (x : α), l[j]? = some x → ∃ c, css[j]? = some c ∧ P w c x := by
  obtain ⟨css, c1, c2, c3, ao, cap, rfl, c5⟩ := sl_css R hk
  rcases Nat.eq_zero_or_pos l.length with hl0 | hl0
  · have hl : l = [] := List.eq_nil_of_length_eq_zero hl0
    subst hl
    have hcs : css = [] := List.eq_nil_of_length_eq_zero c1
    subst hcs
    cases ao with
    | none => exact ⟨v0, w, [], run_nil_cap ht hi h0 cap, h0, ⟨rfl, rfl, rfl, Nat.le_refl _, fun _ _ _ => rfl⟩, .inl rfl, rfl, c2, c3⟩
    | some ad =>
      obtain ⟨v', w', hr, ho, hgr, _, hat⟩ := run_append_own_at (P := Tryd.prog) w C t ty e i z k bytes ht hi hz hsize hby hzs hk0 v0 0 [] h0 ad 0 cap [] (by simp) (fun j u h => by simp at h) (fun u h => by cases h) (by unfold maxLen; omega) (by omega) hC
      exact ⟨v', w', [], hr, ho, hgr, hat, rfl, c2, c3⟩
  · obtain ⟨g, o, rfl, hg, hcell⟩ := c5 hl0
    obtain ⟨v', w', hr, ho, hgr, _, hat⟩ := run_append_own_at (P := Tryd.prog) w C t ty e i z k bytes ht hi hz hsize hby hzs hk0 v0 0 [] h0 ⟨g, o, none⟩ l.length cap css.flatten (by rw [(flat_get c2).1, c1]) (fun n u hn => by
        obtain ⟨c, d1, d2⟩ := flat_inv hk0 c2 n u hn
        have := hcell _ c _ u d1 d2
        rw [Nat.add_assoc, Nat.div_add_mod'] at this
        have ha : (⟨g, o, none⟩ : Addr).add n = ⟨g, o + n, none⟩ := by simp [Addr.add]
        rw [ha]
        exact this) (fun u hu => by
        rw [List.mem_flatten] at hu
        obtain ⟨c, hc, huc⟩ := hu
        obtain ⟨j, hj⟩ := List.getElem?_of_mem hc
        obtain ⟨x, hx⟩ : ∃ x, l[j]? = some x := ⟨l[j]'(by have := get_lt hj; omega), by simp⟩
        obtain ⟨c', e1, e2⟩ := c3 j x hx
        rw [hj] at e1
        cases e1
        exact h1 _ _ e2 u huc) (by unfold maxLen; omega) (by
        have : (0 + l.length) * bytes ≤ 100000 * 1000 := Nat.mul_le_mul (by omega) hbt
        omega) hC
    rw [Nat.zero_add] at ho
    exact ⟨v', w', css, hr, by simpa using ho, hgr, hat, c1, c2, c3⟩
end
section
variable {α : Type} {k bE : Nat}
/-- A row of one's own whose items are so. -/
def Rw (bE e k : Nat) (Q : List Value → α → Prop) (W : World) (v : Value) (l : List α) : Prop :=
  ∃ css : List (List Value), W.ownsRow bE e k v l.length css.flatten ∧ css.length = l.length ∧ (∀ c ∈ css, c.length = k) ∧ ∀ (j : Nat) (x : α), l[j]? = some x → ∃ c, css[j]? = some c ∧ Q c x
theorem owns_emp {W : World} {e bE : Nat} (h : W.heap[bE]? = some (.cells #[] e (0, 0))) : W.ownsRow bE e k (.slice (some ⟨bE, 0, none⟩) 0 0) 0 [] :=
  ⟨by simp, .inr ⟨bE, 0, #[], rfl, Nat.le_refl _, h, Nat.le_refl _, by decide, by simp, by simp⟩⟩
theorem own_ge {W : World} {C e n : Nat} {v : Value} {xs : List Value} (h : W.ownsRow C e k v n xs) : ∀ g, v.ownBlock = some g → C ≤ g ∧ g < W.heap.size := by
  intro g hg
  rcases h.2 with ⟨rfl, _⟩ | ⟨g', cap, cur, rfl, h1, h2, _⟩
  · cases hg
  · cases hg
    exact ⟨h1, lt_of_block h2⟩
/-- The first append: all of a list behind an empty one. -/
theorem app_first {P : World → List Value → α → Prop} {t ty e B : Nat} {i : TypeInfo} {z : Value} {bytes : Nat} (ht : Tryd.prog.underlying t = some (.slice e)) (hi : Tryd.prog.info? e = some i) (hz : i.zero = some z) (hsize : i.size = k) (hby : i.bytes = bytes) (hzs : z.cells.size = k) (hk0 : 0 < k) {W5 : World} {v : Value} {l : List α} (R : SlAt k P B W5 v l) (hk : ∀ cs x, P W5 cs x → cs.length = k) (h1 : ∀ cs x, P W5 cs x → ∀ u ∈ cs, u.oneCell' = true) (hlen : l.length ≤ 100000) (hbt : bytes ≤ 1000) (hE : W5.heap[bE]? = some (.cells #[] e (0, 0))) :
    ∃ (v5 : Value) (W6 : World), (Builtin.append_ #[t, t] ty #[.slice (some ⟨bE, 0, none⟩) 0 0, v]).run Tryd.prog W5 = .ok v5 W6 ∧ Rw bE e k (P W5) W6 v5 l ∧ Below bE W5 W6 ∧ (v5.ownBlock = some bE ∨ v5.ownBlock = some W5.heap.size) ∧ ∀ j, j < W5.heap.size → j ≠ bE → W6.heap[j]? = W5.heap[j]? := by
  obtain ⟨v', w', css, r1, r2, r3, r4, r5, r6, r7⟩ := run_all (w := W5) (ty := ty) ht hi hz hsize hby hzs hk0 R hk h1 (by omega) hbt (owns_emp hE) (Nat.le_of_lt (lt_of_block hE))
  refine ⟨v', w', r1, ⟨css, r2, r5, r6, r7⟩, ⟨r3.os, r3.tape, r3.output, r3.size, fun j hj => r3.block j (Nat.lt_trans hj (lt_of_block hE)) ?_⟩, r4, fun j hj hne => r3.block j hj ?_⟩
  · intro h
    have : j = bE := by simpa [Value.ownBlock] using h
    omega
  · intro h
    exact hne (by simpa [Value.ownBlock] using h)
/-- The second append: one more item. -/
theorem app_next {Q : List Value → α → Prop} {t ty e : Nat} {i : TypeInfo} {z : Value} {bytes : Nat} (ht : Tryd.prog.underlying t = some (.slice e)) (hi : Tryd.prog.info? e = some i) (hz : i.zero = some z) (hsize : i.size = k) (hby : i.bytes = bytes) (hzs : z.cells.size = k) (hk0 : 0 < k) {W7 : World} {v : Value} {l : List α} (R : Rw bE e k Q W7 v l) (hlen : l.length ≤ 100000) (hbt : bytes ≤ 1000) (hC : bE ≤ W7.heap.size) {bI : Nat} {cs : Array Value} {fr : Nat × Nat} {te : Nat} (hI : W7.heap[bI]? = some (.cells cs te fr)) (hcs : cs.size = k) (h1 : ∀ u ∈ cs.toList, u.oneCell' = true) (x : α) :
    ∃ a8 c8 W8, (Builtin.append_ #[t, t] ty #[v, .slice (some ⟨bI, 0, none⟩) 1 1]).run Tryd.prog W7 = .ok (.slice a8 (l.length + 1) c8) W8 ∧ Rw bE e k (fun c y => Q c y ∨ (c = cs.toList ∧ y = x)) W8 (.slice a8 (l.length + 1) c8) (l ++ [x]) ∧ W7.grownBy W8 v.ownBlock ∧ ((Value.slice a8 (l.length + 1) c8).ownBlock = v.ownBlock ∨ (Value.slice a8 (l.length + 1) c8).ownBlock = some W7.heap.size) := by
  obtain ⟨css, d1, d2, d3, d4⟩ := R
  obtain ⟨v', w', r1, r2, r3, _, r5⟩ := run_append_own_at (P := Tryd.prog) W7 bE t ty e i z k bytes ht hi hz hsize hby hzs hk0 v l.length css.flatten d1 ⟨bI, 0, none⟩ 1 1 cs.toList (by simp [hcs]) (World.news_of_block hI) h1 (by unfold maxLen; omega) (by
    have : (l.length + 1) * bytes ≤ 100001 * 1000 := Nat.mul_le_mul (by omega) hbt
    omega) hC
  obtain ⟨a8, c8, rfl⟩ := row_form r2
  refine ⟨a8, c8, w', r1, ⟨css ++ [cs.toList], ?_, by simp [d2], fun c hc => ?_, fun j y hy => ?_⟩, r3, r5⟩
  · rw [List.flatten_append, List.flatten_singleton, List.length_append, List.length_singleton]
    exact r2
  · rw [List.mem_append] at hc
    rcases hc with hc | hc
    · exact d3 c hc
    · simp at hc; subst hc; simpa using hcs
  · rcases Nat.lt_or_ge j l.length with hlt | hge
    · rw [List.getElem?_append_left hlt] at hy
      obtain ⟨c, e1, e2⟩ := d4 j y hy
      exact ⟨c, by rw [List.getElem?_append_left (by omega)]; exact e1, .inl e2⟩
    · have hj : j = l.length := by have := get_lt hy; simp at this; omega
      subst hj
      rw [List.getElem?_append_right (Nat.le_refl _), Nat.sub_self] at hy
      cases hy
      exact ⟨cs.toList, by rw [← d2, List.getElem?_append_right (Nat.le_refl _), Nat.sub_self]; rfl, .inr ⟨rfl, rfl⟩⟩
theorem Rw.sl {Q : List Value → α → Prop} {P : World → List Value → α → Prop} {e : Nat} {W W' : World} {v : Value} {l : List α} (R : Rw bE e k Q W v l) (hown : ∀ g, v.ownBlock = some g → W'.heap[g]? = W.heap[g]?) (hQ : ∀ c x, Q c x → P W' c x) (hlen : l.length ≤ 1000000) : SlAt k P W'.heap.size W' v l := by
  obtain ⟨css, d1, d2, d3, d4⟩ := R
  refine row_sl (ownsRow_keep d1 hown) d3 d2 (fun j x hx => ?_) (Nat.le_refl _) (by omega)
  obtain ⟨c, e1, e2⟩ := d4 j x hx
  exact ⟨c, e1, hQ c x e2⟩
/-- What a list is at the end, whatever comes of the block b and behind it. -/
def Fut (k : Nat) (P : Nat → World → List Value → α → Prop) (b B : Nat) (W4 W8 : World) (v : Value) (l : List α) : Prop :=
  ∀ W : World, W8.heap.size ≤ W.heap.size → (∀ j, b < j → j < W8.heap.size → W.heap[j]? = W8.heap[j]?) → (∀ j, j < B → W.heap[j]? = W4.heap[j]?) → SlAt k (P W.heap.size) W.heap.size W v l
/-- Both appends in a row. -/
theorem app_two {P : Nat → World → List Value → α → Prop} {t e B b : Nat} {i : TypeInfo} {z : Value} {bytes : Nat} (ht : Tryd.prog.underlying t = some (.slice e)) (hi : Tryd.prog.info? e = some i) (hz : i.zero = some z) (hsize : i.size = k) (hby : i.bytes = bytes) (hzs : z.cells.size = k) (hk0 : 0 < k) {W4 : World} {v : Value} {l : List α} (R : SlAt k (P B) B W4 v l) (hk : ∀ w cs x, P B w cs x → cs.length = k) (h1 : ∀ w cs x, P B w cs x → ∀ u ∈ cs, u.oneCell' = true) (hkeep : ∀ (w w' : World) (B' : Nat) cs x, B ≤ B' → (∀ j, j < B → w'.heap[j]? = w.heap[j]?) → P B w cs x → P B' w' cs x) (hlen : l.length ≤ 900) (hbt : bytes ≤ 1000) (hBb : B ≤ b) (hb : b < W4.heap.size) :
    ∃ (v5 : Value) (W6 : World), (Builtin.append_ #[t, t] t #[.slice (some ⟨W4.heap.size, 0, none⟩) 0 0, v]).run Tryd.prog (W4.alloc (.cells #[] e)) = .ok v5 W6 ∧ Below W4.heap.size W4 W6 ∧ W4.heap.size < W6.heap.size ∧
      ∀ (W7 : World) (bI : Nat) (cs : Array Value) (te : Nat) (fr : Nat × Nat) (x : α), Below W6.heap.size W6 W7 → W6.heap.size ≤ bI → W7.heap[bI]? = some (.cells cs te fr) → cs.size = k → (∀ u ∈ cs.toList, u.oneCell' = true) →
        (∀ W : World, W7.heap.size ≤ W.heap.size → (∀ j, W6.heap.size ≤ j → j < W7.heap.size → W.heap[j]? = W7.heap[j]?) → P W.heap.size W cs.toList x) →
        ∃ a8 c8 W8, (Builtin.append_ #[t, t] t #[v5, .slice (some ⟨bI, 0, none⟩) 1 1]).run Tryd.prog W7 = .ok (.slice a8 (l.length + 1) c8) W8 ∧ Below W4.heap.size W4 W8 ∧ Fut k P b B W4 W8 (.slice a8 (l.length + 1) c8) (l ++ [x]) := by
  have b4 : Below W4.heap.size W4 (W4.alloc (.cells #[] e)) := (Below.refl _ _).alloc (Nat.le_refl _) _
  have R5 : SlAt k (P B) B (W4.alloc (.cells #[] e)) v l := R.keep (Nat.le_refl _) (fun j hj => b4.block j (by omega)) (fun cs x h => hkeep _ _ _ cs x (Nat.le_refl _) (fun j hj => b4.block j (by omega)) h)
  obtain ⟨v5, W6, r1, r2, r3, r4, r5⟩ := app_first (ty := t) ht hi hz hsize hby hzs hk0 R5 (hk _) (h1 _) (by omega) hbt (heap_new W4 (.cells #[] e) rfl)
  have hs6 : W4.heap.size < W6.heap.size := Nat.lt_of_lt_of_le (lt_of_block (heap_new W4 (.cells #[] e) rfl)) r3.size
  have b6 : Below W4.heap.size W4 W6 := b4.trans r3
  refine ⟨v5, W6, r1, b6, hs6, fun W7 bI cs te fr x g1 g2 g3 g4 g5 g6 => ?_⟩
  have ho5 : ∀ g, v5.ownBlock = some g → W4.heap.size ≤ g ∧ g < W6.heap.size := by
    obtain ⟨css, d1, _⟩ := r2
    exact own_ge d1
  have R7 : Rw W4.heap.size e k (P B (W4.alloc (.cells #[] e))) W7 v5 l := by
    obtain ⟨css, d1, d2⟩ := r2
    exact ⟨css, ownsRow_keep d1 (fun g hg => g1.block g (ho5 g hg).2), d2⟩
  have hs7 : W6.heap.size ≤ W7.heap.size := g1.size
  obtain ⟨a8, c8, W8, q1, q2, q3, q4⟩ := app_next (ty := t) ht hi hz hsize hby hzs hk0 R7 (by omega) hbt (by omega) g3 g4 g5 x
  have hs8 : W7.heap.size ≤ W8.heap.size := q3.size
  refine ⟨a8, c8, W8, q1, (bel_tr b6 g1).trans ⟨q3.os, q3.tape, q3.output, q3.size, fun j hj => q3.block j (by omega) (fun h => ?_)⟩, fun W f1 f2 f3 => ?_⟩
  · have := (ho5 j h.symm).1
    omega
  · refine q2.sl (fun g hg => ?_) (fun c y hc => ?_) (by simp; omega)
    · obtain ⟨css, d1, _⟩ := q2
      have := own_ge d1 g hg
      exact f2 g (by omega) this.2
    · rcases hc with hc | ⟨rfl, rfl⟩
      · exact hkeep _ _ _ _ _ (by omega) (fun j hj => (f3 j hj).trans (b4.block j (by omega)).symm) hc
      · refine g6 W (by omega) (fun j h6 h7 => (f2 j (by omega) (by omega)).trans (q3.block j h7 (fun h => ?_)))
        have := (ho5 j h.symm).2
        omega
end
end Go.Proofs.YtefdilakpggggaaDoor

namespace Go.Proofs.YtefdilakpggggaaDoor
open Go.RowKit
theorem info_str : (Tryd.prog.info? 9).map (fun i => (i.zero, i.size, i.bytes)) = some (some (.string ⟨#[]⟩), 1, 16) := by kernel_rfl
theorem info_ints : (Tryd.prog.info? 44).map (fun i => (i.zero, i.size, i.bytes)) = some (some (.slice none 0 0), 1, 24) := by kernel_rfl
theorem info_Lay : (Tryd.prog.info? 53).map (fun i => (i.zero, i.size, i.bytes)) = some (some (.agg #[.slice none 0 0]), 1, 24) := by kernel_rfl
theorem info_Fn : (Tryd.prog.info? 48).map (fun i => (i.zero, i.size, i.bytes)) = some (some (.agg #[.int .i64 0, .slice none 0 0, .slice none 0 0, .slice none 0 0, .slice none 0 0]), 5, 104) := by kernel_rfl
section
variable {W : World} {g T : Nat} {f : Nat × Nat}
theorem ints_one {a : Int} (h : W.heap[g]? = some (.cells #[.int .i64 a] T f)) (h1 : -9223372036854775808 ≤ a) (h2 : a ≤ 9223372036854775807) : SlAt 1 IntP W.heap.size W (.slice (some ⟨g, 0, none⟩) 1 1) [a] := by
  refine ⟨_, 1, rfl, ⟨by simp, by simp, by decide⟩, fun j x hx => ?_⟩
  match j, hx with
  | 0, hx =>
    cases hx
    refine ⟨g, 0, [.int .i64 a], rfl, lt_of_block h, fun r u hr => ?_, rfl, h1, h2⟩
    match r, hr with
    | 0, hr => cases hr; exact cell_of h rfl
theorem ins_one (h : W.heap[g]? = some (.cells #[.int .i64 24, .int .i64 0, .int .i64 0] T f)) : SlAt 3 InsP W.heap.size W (.slice (some ⟨g, 0, none⟩) 1 1) [⟨24, 0, 0⟩] := by
  refine ⟨_, 1, rfl, ⟨by decide, by decide, by decide⟩, fun j x hx => ?_⟩
  match j, hx with
  | 0, hx =>
    cases hx
    refine ⟨g, 0, [.int .i64 24, .int .i64 0, .int .i64 0], rfl, lt_of_block h, fun r u hr => ?_, rfl, ⟨by decide, by decide⟩, ⟨by decide, by decide⟩, ⟨by decide, by decide⟩⟩
    match r, hr with
    | 0, hr => cases hr; exact cell_of h rfl
    | 1, hr => cases hr; exact cell_of h rfl
    | 2, hr => cases hr; exact cell_of h rfl
end
section
variable {B b : Nat} {W4 : World} {v : Value}
theorem lst_len (w : World) (cs : List Value) (x : List Int) (h : LstP B w cs x) : cs.length = 1 := by obtain ⟨u, rfl, _⟩ := h; rfl
theorem lst_one (w : World) (cs : List Value) (x : List Int) (h : LstP B w cs x) : ∀ u ∈ cs, u.oneCell' = true := by
  obtain ⟨u, rfl, ao, cap, rfl, _⟩ := h
  intro u hu
  simp at hu
  subst hu
  rfl
theorem lst_keep (w w' : World) (B' : Nat) (cs : List Value) (x : List Int) (hB : B ≤ B') (h : ∀ j, j < B → w'.heap[j]? = w.heap[j]?) (hp : LstP B w cs x) : LstP B' w' cs x := by
  obtain ⟨u, h1, h2⟩ := hp
  exact ⟨u, h1, ints_keep hB h h2⟩
theorem fd_len (w : World) (cs : List Value) (x : Fd) (h : FdP B w cs x) : cs.length = 5 := by obtain ⟨_, _, _, _, rfl, _⟩ := h; rfl
theorem fd_one (w : World) (cs : List Value) (x : Fd) (h : FdP B w cs x) : ∀ u ∈ cs, u.oneCell' = true := by
  obtain ⟨_, _, _, _, rfl, _, ⟨_, _, rfl, _⟩, ⟨_, _, rfl, _⟩, ⟨_, _, rfl, _⟩, ⟨_, _, rfl, _⟩⟩ := h
  intro u hu
  simp at hu
  rcases hu with rfl | rfl | rfl | rfl | rfl <;> rfl
theorem fd_keep (w w' : World) (B' : Nat) (cs : List Value) (x : Fd) (hB : B ≤ B') (h : ∀ j, j < B → w'.heap[j]? = w.heap[j]?) (hp : FdP B w cs x) : FdP B' w' cs x := by
  obtain ⟨a, b, c, d, h1, h2, h3, h4, h5, h6⟩ := hp
  exact ⟨a, b, c, d, h1, h2, ints_keep hB h h3, ints_keep hB h h4, ints_keep hB h h5, ins_keep hB h h6⟩
def StrQ (_ : Nat) (w : World) (cs : List Value) (s : By) : Prop := StrP w cs s
theorem two_ty {l : List (List Int)} (R : SlAt 1 (LstP B) B W4 v l) (hlen : l.length ≤ 900) (hBb : B ≤ b) (hb : b < W4.heap.size) :
    ∃ (v5 : Value) (W6 : World) (a8 : Option Addr) (c8 : Nat) (W8 : World), (Builtin.append_ #[22, 22] 22 #[.slice (some ⟨W4.heap.size, 0, none⟩) 0 0, v]).run Tryd.prog (W4.alloc (.cells #[] 53)) = .ok v5 W6 ∧ W4.heap.size < W6.heap.size ∧
      (Builtin.append_ #[22, 22] 22 #[v5, .slice (some ⟨W6.heap.size + 1, 0, none⟩) 1 1]).run Tryd.prog ((W6.alloc (.cells #[.int .i64 2] 3)).alloc (.cells #[.slice (some ⟨W6.heap.size, 0, none⟩) 1 1] 53)) = .ok (.slice a8 (l.length + 1) c8) W8 ∧ Below W4.heap.size W4 W8 ∧ Fut 1 LstP b B W4 W8 (.slice a8 (l.length + 1) c8) (l ++ [[2]]) := by
  obtain ⟨i0, hi, hz0, hz1, hz2⟩ := info_parts info_Lay
  obtain ⟨v5, W6, r1, r2, r3, r4⟩ := app_two (P := LstP) (b := b) Tryd.underlying22 hi hz0 hz1 hz2 rfl (by decide) R lst_len lst_one lst_keep hlen (by decide) hBb hb
  obtain ⟨W7, hW7⟩ : ∃ W7, (W6.alloc (.cells #[.int .i64 2] 3)).alloc (.cells #[.slice (some ⟨W6.heap.size, 0, none⟩) 1 1] 53) = W7 := ⟨_, rfl⟩
  have e1 : W7.heap[W6.heap.size]? = some (.cells #[.int .i64 2] 3 (0, 0)) := by rw [← hW7, heap_alloc_old _ _ (by simp)]; exact heap_new _ _ rfl
  have e2 : W7.heap[W6.heap.size + 1]? = some (.cells #[.slice (some ⟨W6.heap.size, 0, none⟩) 1 1] 53 (0, 0)) := by rw [← hW7]; exact heap_new _ _ (by simp)
  have b7 : Below W6.heap.size W6 W7 := by rw [← hW7]; exact ((Below.refl _ _).alloc (Nat.le_refl _) _).alloc (by simp) _
  obtain ⟨a8, c8, W8, q1, q2, q3⟩ := r4 W7 (W6.heap.size + 1) _ _ _ [2] b7 (by omega) e2 rfl (by intro u hu; simp at hu; subst hu; rfl) (fun W h1 h2 => ⟨_, rfl, ints_one ((h2 _ (Nat.le_refl _) (lt_of_block e1)).trans e1) (by decide) (by decide)⟩)
  exact ⟨v5, W6, a8, c8, W8, r1, r3, by rw [hW7]; exact q1, q2, q3⟩
theorem two_fu {l : List Fd} (R : SlAt 5 (FdP B) B W4 v l) (hlen : l.length ≤ 900) (hBb : B ≤ b) (hb : b < W4.heap.size) :
    ∃ (v5 : Value) (W6 : World) (a8 : Option Addr) (c8 : Nat) (W8 : World), (Builtin.append_ #[23, 23] 23 #[.slice (some ⟨W4.heap.size, 0, none⟩) 0 0, v]).run Tryd.prog (W4.alloc (.cells #[] 48)) = .ok v5 W6 ∧ W4.heap.size < W6.heap.size ∧
      (Builtin.append_ #[23, 23] 23 #[v5, .slice (some ⟨W6.heap.size + 1, 0, none⟩) 1 1]).run Tryd.prog ((W6.alloc (.cells #[.int .i64 24, .int .i64 0, .int .i64 0] 50)).alloc (.cells #[.int .i64 0, .slice none 0 0, .slice none 0 0, .slice none 0 0, .slice (some ⟨W6.heap.size, 0, none⟩) 1 1] 48)) = .ok (.slice a8 (l.length + 1) c8) W8 ∧ Below W4.heap.size W4 W8 ∧ Fut 5 FdP b B W4 W8 (.slice a8 (l.length + 1) c8) (l ++ [moF]) := by
  obtain ⟨i0, hi, hz0, hz1, hz2⟩ := info_parts info_Fn
  obtain ⟨v5, W6, r1, r2, r3, r4⟩ := app_two (P := FdP) (b := b) Tryd.underlying23 hi hz0 hz1 hz2 rfl (by decide) R fd_len fd_one fd_keep hlen (by decide) hBb hb
  obtain ⟨W7, hW7⟩ : ∃ W7, (W6.alloc (.cells #[.int .i64 24, .int .i64 0, .int .i64 0] 50)).alloc (.cells #[.int .i64 0, .slice none 0 0, .slice none 0 0, .slice none 0 0, .slice (some ⟨W6.heap.size, 0, none⟩) 1 1] 48) = W7 := ⟨_, rfl⟩
  have e1 : W7.heap[W6.heap.size]? = some (.cells #[.int .i64 24, .int .i64 0, .int .i64 0] 50 (0, 0)) := by rw [← hW7, heap_alloc_old _ _ (by simp)]; exact heap_new _ _ rfl
  have e2 : W7.heap[W6.heap.size + 1]? = some (.cells #[.int .i64 0, .slice none 0 0, .slice none 0 0, .slice none 0 0, .slice (some ⟨W6.heap.size, 0, none⟩) 1 1] 48 (0, 0)) := by rw [← hW7]; exact heap_new _ _ (by simp)
  have b7 : Below W6.heap.size W6 W7 := by rw [← hW7]; exact ((Below.refl _ _).alloc (Nat.le_refl _) _).alloc (by simp) _
  obtain ⟨a8, c8, W8, q1, q2, q3⟩ := r4 W7 (W6.heap.size + 1) _ _ _ moF b7 (by omega) e2 rfl (by intro u hu; simp at hu; rcases hu with rfl | rfl | rfl <;> rfl) (fun W h1 h2 => ⟨_, _, _, _, rfl, ⟨by decide, by decide⟩, sl_nil, sl_nil, sl_nil, ins_one ((h2 _ (Nat.le_refl _) (lt_of_block e1)).trans e1)⟩)
  exact ⟨v5, W6, a8, c8, W8, r1, r3, by rw [hW7]; exact q1, q2, q3⟩
theorem two_st {l : List By} (R : SlAt 1 StrP B W4 v l) (hlen : l.length ≤ 900) (hBb : B ≤ b) (hb : b < W4.heap.size) :
    ∃ (v5 : Value) (W6 : World) (a8 : Option Addr) (c8 : Nat) (W8 : World), (Builtin.append_ #[25, 25] 25 #[.slice (some ⟨W4.heap.size, 0, none⟩) 0 0, v]).run Tryd.prog (W4.alloc (.cells #[] 9)) = .ok v5 W6 ∧ W4.heap.size < W6.heap.size ∧
      (Builtin.append_ #[25, 25] 25 #[v5, .slice (some ⟨W6.heap.size, 0, none⟩) 1 1]).run Tryd.prog (W6.alloc (.cells #[.string ⟨#[109, 111, 114, 101]⟩] 9)) = .ok (.slice a8 (l.length + 1) c8) W8 ∧ Below W4.heap.size W4 W8 ∧ Fut 1 StrQ b B W4 W8 (.slice a8 (l.length + 1) c8) (l ++ [moS]) := by
  obtain ⟨i0, hi, hz0, hz1, hz2⟩ := info_parts info_str
  obtain ⟨v5, W6, r1, r2, r3, r4⟩ := app_two (P := StrQ) (b := b) Tryd.underlying25 hi hz0 hz1 hz2 rfl (by decide) R (fun w cs x h => by unfold StrQ StrP at h; rw [h]; rfl) (fun w cs x h => by unfold StrQ StrP at h; rw [h]; intro u hu; simp at hu; subst hu; rfl) (fun w w' B' cs x _ _ h => h) hlen (by decide) hBb hb
  obtain ⟨W7, hW7⟩ : ∃ W7, W6.alloc (.cells #[.string ⟨#[109, 111, 114, 101]⟩] 9) = W7 := ⟨_, rfl⟩
  have e1 : W7.heap[W6.heap.size]? = some (.cells #[.string ⟨#[109, 111, 114, 101]⟩] 9 (0, 0)) := by rw [← hW7]; exact heap_new _ _ rfl
  have b7 : Below W6.heap.size W6 W7 := by rw [← hW7]; exact (Below.refl _ _).alloc (Nat.le_refl _) _
  obtain ⟨a8, c8, W8, q1, q2, q3⟩ := r4 W7 W6.heap.size _ _ _ moS b7 (Nat.le_refl _) e1 rfl (by intro u hu; simp at hu; subst hu; rfl) (fun W h1 h2 => rfl)
  exact ⟨v5, W6, a8, c8, W8, r1, r3, by rw [hW7]; exact q1, q2, q3⟩
theorem Fut.next {α : Type} {k : Nat} {P : Nat → World → List Value → α → Prop} {W8 Wn : World} {l : List α} (F : Fut k P b B W4 W8 v l) (hs : W8.heap.size ≤ Wn.heap.size) (h1 : ∀ j, b < j → j < W8.heap.size → Wn.heap[j]? = W8.heap[j]?) (h2 : ∀ j, j < B → Wn.heap[j]? = W4.heap[j]?) : Fut k P b B Wn Wn v l :=
  fun W f1 f2 f3 => F W (Nat.le_trans hs f1) (fun j g1 g2 => (f2 j g1 (Nat.lt_of_lt_of_le g2 hs)).trans (h1 j g1 g2)) (fun j hj => (f3 j hj).trans (h2 j hj))
/-- A store into the box. -/
theorem box_step {W8 : World} {c : Array Value} {T o : Nat} {f : Nat × Nat} {u : Value} (h : Below W4.heap.size W4 W8) (e : W4.heap[b]? = some (.cells c T f)) : (W8.setCell ⟨b, o, none⟩ u).heap[b]? = some (.cells (c.setIfInBounds o u) T f) ∧ W4.heap.size ≤ (W8.setCell ⟨b, o, none⟩ u).heap.size ∧ (W8.setCell ⟨b, o, none⟩ u).heap.size = W8.heap.size ∧ (∀ j, j ≠ b → (W8.setCell ⟨b, o, none⟩ u).heap[j]? = W8.heap[j]?) ∧ (∀ j, j ≠ b → j < W4.heap.size → (W8.setCell ⟨b, o, none⟩ u).heap[j]? = W4.heap[j]?) ∧ ((W8.setCell ⟨b, o, none⟩ u).os = W4.os ∧ (W8.setCell ⟨b, o, none⟩ u).tape = W4.tape ∧ (W8.setCell ⟨b, o, none⟩ u).output = W4.output) := by
  have e8 := (h.block _ (lt_of_block e)).trans e
  have hsz : (W8.setCell ⟨b, o, none⟩ u).heap.size = W8.heap.size := by simp
  have ho : ∀ j, j ≠ b → (W8.setCell ⟨b, o, none⟩ u).heap[j]? = W8.heap[j]? := fun j hj => by simp [World.setCell, Array.getElem?_modify, Ne.symm hj]
  exact ⟨heap_setCell_same W8 b o u e8, by rw [hsz]; exact h.size, hsz, ho, fun j h1 h2 => (ho j h1).trans (h.block j h2), h.os, h.tape, h.output⟩
end
end Go.Proofs.YtefdilakpggggaaDoor

namespace Go.Proofs.YtefdilakpggggaaDoor
open Go.RowKit
/-- Where the region stands: the empty list, the copied one, the new table, the list of it. -/
structure Rg (Wb : World) (B : Nat) (l : List (List Int)) (fl : Int) (X : World) (e0 : Option Nat) (v5 : Option Value) (i1 i2 : Option Nat) : Prop where
  bel : Below Wb.heap.size Wb X
  hE : ∀ x, e0 = some x → v5 = none → Wb.heap.size ≤ x ∧ X.heap[x]? = some (.cells #[] 44 (0, 0))
  h5 : ∀ v, v5 = some v → Rw Wb.heap.size 44 1 (LstP B Wb) X v l ∧ ∀ g, v.ownBlock = some g → i1 ≠ some g ∧ i2 ≠ some g
  h1 : ∀ x, i1 = some x → Wb.heap.size ≤ x ∧ X.heap[x]? = some (.cells #[.int .i64 fl] 3 (0, 0))
  h2 : ∀ x y, i1 = some x → i2 = some y → Wb.heap.size ≤ y ∧ X.heap[y]? = some (.cells #[.slice (some ⟨x, 0, none⟩) 1 1] 44 (0, 0))
section
variable {Wb X : World} {B b : Nat} {l : List (List Int)} {fl : Int} {e0 : Option Nat} {v5 : Option Value} {i1 i2 : Option Nat} {v : Value}
theorem al_old (X : World) (o : Obj) {j : Nat} {u : Obj} (h : X.heap[j]? = some u) : (X.alloc o).heap[j]? = some u := by rw [heap_alloc_old _ _ (lt_of_block h)]; exact h
theorem Rw.al {Q : List Value → List Int → Prop} {C e : Nat} (R : Rw C e 1 Q X v l) (o : Obj) : Rw C e 1 Q (X.alloc o) v l := by
  obtain ⟨css, d1, d2⟩ := R
  exact ⟨css, ownsRow_keep d1 (fun g hg => heap_alloc_old _ _ (own_ge d1 g hg).2), d2⟩
theorem Rg.begin : Rg Wb B l fl Wb none none none none := ⟨Below.refl _ _, fun _ h => (by cases h), fun _ h => (by cases h), fun _ h => (by cases h), fun _ _ h => by cases h⟩
theorem Rg.begin' : Rg Wb B l fl Wb.drew none none none none := ⟨below_drew (Below.refl _ _), fun _ h => (by cases h), fun _ h => (by cases h), fun _ h => (by cases h), fun _ _ h => by cases h⟩
theorem Rg.emp (R : Rg Wb B l fl X none none i1 i2) : Rg Wb B l fl (X.alloc (.cells #[] 44)) (some X.heap.size) none i1 i2 :=
  ⟨R.bel.alloc R.bel.size _, fun x h _ => by cases h; exact ⟨R.bel.size, heap_new _ _ rfl⟩, fun _ h => (by cases h), fun x h => ⟨(R.h1 x h).1, al_old _ _ (R.h1 x h).2⟩, fun x y h g => ⟨(R.h2 x y h g).1, al_old _ _ (R.h2 x y h g).2⟩⟩
theorem Rg.one (R : Rg Wb B l fl X e0 v5 none none) : Rg Wb B l fl (X.alloc (.cells #[.int .i64 fl] 3)) e0 v5 (some X.heap.size) none :=
  ⟨R.bel.alloc R.bel.size _, fun x h g => ⟨(R.hE x h g).1, al_old _ _ (R.hE x h g).2⟩, fun v h => ⟨(R.h5 v h).1.al _, fun g hg => ⟨fun e => by
    obtain ⟨css, d1, _⟩ := (R.h5 v h).1
    have := (own_ge d1 g hg).2
    cases e
    omega, fun e => by cases e⟩⟩, fun x h => by cases h; exact ⟨R.bel.size, heap_new _ _ rfl⟩, fun x y _ h => by cases h⟩
theorem Rg.two {x : Nat} (R : Rg Wb B l fl X e0 v5 (some x) none) : Rg Wb B l fl (X.alloc (.cells #[.slice (some ⟨x, 0, none⟩) 1 1] 44)) e0 v5 (some x) (some X.heap.size) :=
  ⟨R.bel.alloc R.bel.size _, fun x h g => ⟨(R.hE x h g).1, al_old _ _ (R.hE x h g).2⟩, fun v h => ⟨(R.h5 v h).1.al _, fun g hg => ⟨((R.h5 v h).2 g hg).1, fun e => by
    obtain ⟨css, d1, _⟩ := (R.h5 v h).1
    have := (own_ge d1 g hg).2
    cases e
    omega⟩⟩, fun x h => ⟨(R.h1 x h).1, al_old _ _ (R.h1 x h).2⟩, fun x y h g => by cases h; cases g; exact ⟨R.bel.size, heap_new _ _ rfl⟩⟩
theorem Rg.app {x : Nat} (R : Rg Wb B l fl X (some x) none i1 i2) (L : SlAt 1 (LstP B) B Wb v l) (hlen : l.length ≤ 900) (hB : B ≤ Wb.heap.size) (hi : i1 = none → i2 = none) :
    ∃ v5 W6, (Builtin.append_ #[24, 24] 24 #[.slice (some ⟨x, 0, none⟩) 0 0, v]).run Tryd.prog X = .ok v5 W6 ∧ Rg Wb B l fl W6 (some x) (some v5) i1 i2 := by
  obtain ⟨i0, hi0, hz0, hz1, hz2⟩ := info_parts info_ints
  obtain ⟨hx1, hx2⟩ := R.hE x rfl rfl
  have LX : SlAt 1 (LstP B) B X v l := lsts_keep (Nat.le_refl _) (fun j hj => R.bel.block j (by omega)) L
  obtain ⟨v5, W6, r1, r2, r3, r4, r5⟩ := app_first (P := LstP B) (ty := 24) Tryd.underlying24 hi0 hz0 hz1 hz2 rfl (by decide) LX (lst_len X) (lst_one X) (by omega) (by decide) hx2
  have hne1 : ∀ y, i1 = some y → y ≠ x := fun y h e => by
    have := (R.h1 y h).2
    rw [e, hx2] at this
    simp at this
  have hne2 : ∀ y, i2 = some y → y ≠ x := fun y h e => by
    cases hq : i1 with
    | none => rw [hi hq] at h; cases h
    | some z =>
      have := (R.h2 z y hq h).2
      rw [e, hx2] at this
      simp at this
  have hl1 : ∀ y, i1 = some y → y < X.heap.size := fun y h => lt_of_block (R.h1 y h).2
  have hl2 : ∀ y, i2 = some y → y < X.heap.size := fun y h => by
    cases hq : i1 with
    | none => rw [hi hq] at h; cases h
    | some z => exact lt_of_block (R.h2 z y hq h).2
  refine ⟨v5, W6, r1, R.bel.trans ⟨r3.os, r3.tape, r3.output, r3.size, fun j hj => r3.block j (by omega)⟩, fun _ _ h => (by cases h), fun v h => ?_, fun y h => ⟨(R.h1 y h).1, (r5 y (hl1 y h) (hne1 y h)).trans (R.h1 y h).2⟩, fun z y h g => ⟨(R.h2 z y h g).1, (r5 y (hl2 y g) (hne2 y g)).trans (R.h2 z y h g).2⟩⟩
  cases h
  refine ⟨?_, fun g hg => ?_⟩
  · obtain ⟨css, d1, d2, d3, d4⟩ := r2
    refine ⟨css, ⟨d1.1, d1.2.imp id (fun ⟨g, cap, cur, a, b, c⟩ => ⟨g, cap, cur, a, Nat.le_trans hx1 b, c⟩)⟩, d2, d3, fun j y hy => ?_⟩
    obtain ⟨c, e1, e2⟩ := d4 j y hy
    exact ⟨c, e1, lst_keep _ _ _ _ _ (Nat.le_refl _) (fun j hj => (R.bel.block j (by omega)).symm) e2⟩
  · rcases r4 with h4 | h4
    · rw [h4] at hg
      cases hg
      exact ⟨fun e => hne1 _ e rfl, fun e => hne2 _ e rfl⟩
    · rw [h4] at hg
      cases hg
      exact ⟨fun e => Nat.lt_irrefl _ (hl1 _ e), fun e => Nat.lt_irrefl _ (hl2 _ e)⟩
theorem Rg.fin {x y : Nat} {u : Value} (R : Rg Wb B l fl X e0 (some u) (some x) (some y)) (hlen : l.length ≤ 900) (hB : B ≤ Wb.heap.size) (hb : b < Wb.heap.size) (hf1 : -9223372036854775808 ≤ fl) (hf2 : fl ≤ 9223372036854775807) :
    ∃ a8 c8 W8, (Builtin.append_ #[24, 24] 24 #[u, .slice (some ⟨y, 0, none⟩) 1 1]).run Tryd.prog X = .ok (.slice a8 (l.length + 1) c8) W8 ∧ Below Wb.heap.size Wb W8 ∧ Fut 1 LstP b B Wb W8 (.slice a8 (l.length + 1) c8) (l ++ [[fl]]) := by
  obtain ⟨i0, hi0, hz0, hz1, hz2⟩ := info_parts info_ints
  obtain ⟨f1, f2⟩ := R.h1 x rfl
  obtain ⟨f3, f4⟩ := R.h2 x y rfl rfl
  obtain ⟨f5, f6⟩ := R.h5 u rfl
  have ho : ∀ g, u.ownBlock = some g → Wb.heap.size ≤ g ∧ g < X.heap.size := by
    obtain ⟨css, d1, _⟩ := f5
    exact own_ge d1
  obtain ⟨a8, c8, W8, q1, q2, q3, q4⟩ := app_next (ty := 24) Tryd.underlying24 hi0 hz0 hz1 hz2 rfl (by decide) f5 (by omega) (by decide) R.bel.size f4 rfl (by intro u hu; simp at hu; subst hu; rfl) [fl]
  have hs := R.bel.size
  have hs8 : X.heap.size ≤ W8.heap.size := q3.size
  have hx8 : W8.heap[x]? = some (.cells #[.int .i64 fl] 3 (0, 0)) := (q3.block x (lt_of_block f2) (fun e => (f6 x e.symm).1 rfl)).trans f2
  refine ⟨a8, c8, W8, q1, R.bel.trans ⟨q3.os, q3.tape, q3.output, q3.size, fun j hj => q3.block j (by omega) (fun e => by have := (ho j e.symm).1; omega)⟩, fun W g1 g2 g3 => ?_⟩
  refine q2.sl (fun g hg => ?_) (fun c z hc => ?_) (by simp; omega)
  · obtain ⟨css, d1, _⟩ := q2
    have := own_ge d1 g hg
    exact g2 g (by omega) this.2
  · rcases hc with hc | ⟨rfl, rfl⟩
    · exact lst_keep _ _ _ _ _ (by omega) g3 hc
    · exact ⟨_, rfl, ints_one ((g2 x (by omega) (lt_of_block hx8)).trans hx8) hf1 hf2⟩
end
end Go.Proofs.YtefdilakpggggaaDoor

namespace Go.Proofs.YtefdilakpggggaaDoor
def moreF (f : Fd) (j : List In3) : Fd := ⟨f.pa, f.lo, f.re, f.ar, f.co ++ j⟩
def deadQ (p : Pg) (n : Nat) (f : Fd) (j : List In3) : Pg := ⟨p.ty, p.fu.set n (moreF f j), p.ta, p.st⟩
section
variable {p : Pg} {n : Nat} {f : Fd} {j : List In3}
theorem exf_more : ExF f (moreF f j) := ⟨fun _ _ h => h, Nat.le_refl _, fun _ _ h => h, Nat.le_refl _, rfl, fun k i h => by unfold moreF; dsimp only; rw [List.getElem?_append_left (get_lt h)]; exact h, by simp [moreF]⟩
theorem dead_ext (hf : p.fu[n]? = some f) : Ext p (deadQ p n f j) :=
  ⟨fun _ _ h => h, Nat.le_refl _, fun m g h => by
    unfold deadQ
    dsimp only
    rw [List.getElem?_set]
    split
    · rename_i e
      subst e
      rw [hf] at h
      cases h
      rw [if_pos (get_lt hf)]
      exact ⟨_, rfl, rfl, rfl⟩
    · exact ⟨g, h, rfl, rfl⟩, by simp [deadQ], fun _ _ h => h, Nat.le_refl _, Nat.le_refl _⟩
theorem each_set {α : Type} {m : Nat} {s : α → Bool} {l : List α} {x : α} (h : eachB m s l = true) (hx : s x = true) (n : Nat) : eachB m s (l.set n x) = true := by
  obtain ⟨h1, h2⟩ := eachB_le h
  unfold eachB
  rw [Bool.and_eq_true, decide_eq_true_eq, List.all_eq_true]
  refine ⟨by simpa using h1, fun y hy => ?_⟩
  rcases List.mem_or_eq_of_mem_set hy with h | h
  · exact h2 y h
  · rw [h]; exact hx
theorem dead_snd (h : sndP p = true) (hf : p.fu[n]? = some f) (hl : f.co.length + j.length ≤ 65536) (hj : ∀ i ∈ j, sndI i = true) : sndP (deadQ p n f j) = true := by
  simp only [sndP, Bool.and_eq_true] at h ⊢
  refine ⟨h.1, each_set h.2.1 ?_ n, h.2.2.1, h.2.2.2⟩
  have hs := (eachB_le h.2.1).2 f (List.mem_of_getElem? hf)
  unfold sndF at hs ⊢
  simp only [Bool.and_eq_true] at hs ⊢
  refine ⟨hs.1, hs.2.1, hs.2.2.1, hs.2.2.2.1, hs.2.2.2.2.1, ?_⟩
  obtain ⟨_, h2⟩ := eachB_le hs.2.2.2.2.2
  unfold eachB
  rw [Bool.and_eq_true, decide_eq_true_eq, List.all_eq_true]
  refine ⟨by simpa [moreF] using hl, fun y hy => ?_⟩
  have hy2 : y ∈ f.co ++ j := hy
  rw [List.mem_append] at hy2
  rcases hy2 with hy2 | hy2
  · exact h2 y hy2
  · exact hj y hy2
theorem head_more {m : Nat} (h : headB m f = true) : headB m (moreF f j) = true := by
  simp only [headB, Bool.and_eq_true, decide_eq_true_eq] at h ⊢
  refine ⟨h.1, ?_⟩
  have := h.2
  simp [moreF]
  omega
theorem dead_heads (h : headsP p = none) (hf : p.fu[n]? = some f) : headsP (deadQ p n f j) = none := by
  rw [heads_none] at h ⊢
  obtain ⟨a1, a2, a3, a4⟩ := h
  refine ⟨a1, ?_, fun t ht => table_ext (dead_ext hf) (a3 t ht), by simpa [deadQ] using a4⟩
  rw [firstBad_none_iff] at a2 ⊢
  intro k g hk
  have hk2 : (p.fu.set n (moreF f j))[k]? = some g := hk
  rw [List.getElem?_set] at hk2
  split at hk2
  · rename_i e
    subst e
    rw [if_pos (get_lt hf)] at hk2
    cases hk2
    obtain ⟨b1, b2⟩ := a2 n f hf
    exact ⟨head_more b1, b2⟩
  · exact a2 k g hk2
/-- What is never come to may be anything. -/
theorem dead_check (h : (checkP p).2.2 = 0) (hf : p.fu[n]? = some f) (hl : f.co.length + j.length ≤ 65536) (hj : ∀ i ∈ j, sndI i = true) :
    checkP p = (0, 0, 0) ∧ checkP (deadQ p n f j) = (0, 0, 0) ∧ (deadQ p n f j).fu[n]? = some (moreF f j) ∧ ∃ F G, followP p f = .ok F ∧ followP (deadQ p n f j) (moreF f j) = .ok G ∧ szP (deadQ p n f j) (moreF f j) G = szP p f F := by
  obtain ⟨c1, c2, c3, c4⟩ := check_ok h
  have H := hok_of c2 c3
  have hg : (deadQ p n f j).fu[n]? = some (moreF f j) := by
    unfold deadQ
    dsimp only
    rw [List.getElem?_set, if_pos rfl, if_pos (get_lt hf)]
  have hfm := List.mem_of_getElem? hf
  obtain ⟨F, hF⟩ := c4 f hfm
  obtain ⟨G, hG, hP⟩ := follow_ext (dead_ext hf) (exf_more (f := f) (j := j)) H (H.fu f hfm) hF
  refine ⟨c1, ok_check (dead_snd c2 hf hl hj) (dead_heads c3 hf) fun g hgm => ?_, hg, F, G, hF, hG, ?_⟩
  · have hgm2 : g ∈ p.fu.set n (moreF f j) := hgm
    rcases List.mem_or_eq_of_mem_set hgm2 with h2 | h2
    · obtain ⟨F', hF'⟩ := c4 g h2
      obtain ⟨G', hG', _⟩ := follow_ext (dead_ext (j := j) hf) (exf_refl g) H (H.fu g h2) hF'
      exact ⟨G', hG'⟩
    · rw [h2]
      exact ⟨G, hG⟩
  · unfold szP
    rw [hP.mo]
    rfl
end
end Go.Proofs.YtefdilakpggggaaDoor

namespace Go.Proofs.YtefdilakpggggaaDoor
open Go.RowKit
theorem info_InsD : (Tryd.prog.info? 50).map (fun i => (i.zero, i.size, i.bytes)) = some (some (.agg #[.int .i64 0, .int .i64 0, .int .i64 0]), 3, 24) := by kernel_rfl
/-- The cells of a list of functions in one block. -/
def Arr (cur : Array Value) (Q : List Value → Fd → Prop) (l : List Fd) : Prop := ∀ (j : Nat) (x : Fd), l[j]? = some x → ∃ c, Q c x ∧ ∀ (r : Nat) (u : Value), c[r]? = some u → cur[j * 5 + r]? = some u
theorem Rw.arr {Q : List Value → Fd → Prop} {W : World} {bE e : Nat} {v : Value} {l : List Fd} (R : Rw bE e 5 Q W v l) (h0 : 0 < l.length) : ∃ g cap cur, v = .slice (some ⟨g, 0, none⟩) l.length cap ∧ bE ≤ g ∧ W.heap[g]? = some (.cells cur e (0, 0)) ∧ l.length ≤ cap ∧ cap ≤ maxLen ∧ Arr cur Q l := by
  obtain ⟨css, d1, d2, d3, d4⟩ := R
  rcases d1.2 with ⟨_, h⟩ | ⟨g, cap, cur, hv, h1, h2, h3, h4, h5, h6⟩
  · omega
  · refine ⟨g, cap, cur, hv, h1, h2, h3, h4, fun j x hx => ?_⟩
    obtain ⟨c, c1, c2⟩ := d4 j x hx
    refine ⟨c, c2, fun r u hr => ?_⟩
    have h7 := (flat_get d3).2 j c r u c1 hr
    rw [← h6, List.getElem?_take] at h7
    split at h7
    · rw [Array.getElem?_toList] at h7
      exact h7
    · cases h7
theorem owns_weak {W : World} {C C' e k n : Nat} {v : Value} {xs : List Value} (h : W.ownsRow C e k v n xs) (hC : C' ≤ C) : W.ownsRow C' e k v n xs := by
  refine ⟨h.1, ?_⟩
  rcases h.2 with h | ⟨g, cap, cur, hv, h1, h2⟩
  · exact .inl h
  · exact .inr ⟨g, cap, cur, hv, Nat.le_trans hC h1, h2⟩
/-- The list of functions, and the n-th one's code. -/
structure Dd (bE g k : Nat) (cur : Array Value) (Wq W : World) (vc : Value) (c : List In3) : Prop where
  bel : Below bE Wq W
  box : W.heap[g]? = some (.cells (cur.setIfInBounds k vc) 48 (0, 0))
  row : Rw (g + 1) 50 3 (InsP Wq) W vc c
section
variable {bE g k B : Nat} {cur : Array Value} {Wq W X : World} {vc : Value} {c : List In3}
theorem Rw.up {α : Type} {kk C e : Nat} {Q : List Value → α → Prop} {v : Value} {l : List α} (R : Rw C e kk Q W v l) (h : Below W.heap.size W X) : Rw C e kk Q X v l := by
  obtain ⟨css, d1, d2⟩ := R
  exact ⟨css, ownsRow_keep d1 (fun g hg => h.block g (own_ge d1 g hg).2), d2⟩
theorem Dd.up (D : Dd bE g k cur Wq W vc c) (h : Below W.heap.size W X) (hg : bE ≤ g) : Dd bE g k cur Wq X vc c :=
  have hl := lt_of_block D.box
  ⟨D.bel.trans (h.mono (by omega)), (h.block _ hl).trans D.box, D.row.up h⟩
/-- The code's first copy. -/
theorem dd_first {v : Value} {co : List In3} (hq : Wq.heap[g]? = some (.cells cur 48 (0, 0))) (hg : bE ≤ g) (hB : B ≤ bE) (R : SlAt 3 InsP B Wq v co) (hlen : co.length ≤ 1000) (hX : Below Wq.heap.size Wq X) :
    ∃ v5 W6, (Builtin.append_ #[46, 46] 46 #[.slice (some ⟨X.heap.size, 0, none⟩) 0 0, v]).run Tryd.prog (X.alloc (.cells #[] 50)) = .ok v5 W6 ∧ Below Wq.heap.size Wq W6 ∧ Dd bE g k cur Wq (W6.setCell ⟨g, k, none⟩ v5) v5 co := by
  obtain ⟨i0, hi, hz0, hz1, hz2⟩ := info_parts info_InsD
  have hlg := lt_of_block hq
  have b1 : Below Wq.heap.size Wq (X.alloc (.cells #[] 50)) := hX.alloc hX.size _
  have R5 : SlAt 3 InsP B (X.alloc (.cells #[] 50)) v co := ins_keep (Nat.le_refl _) (fun j hj => b1.block j (by omega)) R
  obtain ⟨v5, W6, r1, r2, r3, r4, r5⟩ := app_first (ty := 46) Tryd.underlying46 hi hz0 hz1 hz2 rfl (by decide) R5 (fun cs x h => by rw [h.1]; rfl) (fun cs x h u hu => by rw [h.1] at hu; simp at hu; rcases hu with rfl | rfl | rfl <;> rfl) (by omega) (by decide) (heap_new X (.cells #[] 50) rfl)
  have hs := hX.size
  have b6 : Below Wq.heap.size Wq W6 := b1.trans (r3.mono hs)
  have h6 := (b6.block _ hlg).trans hq
  refine ⟨v5, W6, r1, b6, ⟨(b6.mono (by omega)).setCell hg _, heap_setCell_same W6 g k v5 h6, ?_⟩⟩
  obtain ⟨css, d1, d2, d3, d4⟩ := r2
  refine ⟨css, ownsRow_keep (owns_weak d1 (by omega)) (fun j hj => ?_), d2, d3, fun j x hx => ?_⟩
  · have := (own_ge d1 j hj).1
    simp [World.setCell, Array.getElem?_modify, show g ≠ j by omega]
  · obtain ⟨c, e1, e2⟩ := d4 j x hx
    exact ⟨c, e1, e2⟩
/-- One more instruction. -/
theorem dd_next {o a b : Int} (D : Dd bE g k cur Wq W vc c) (hg : bE ≤ g) (hlen : c.length ≤ 2000) (ho : -9223372036854775808 ≤ o ∧ o ≤ 9223372036854775807) (ha : -9223372036854775808 ≤ a ∧ a ≤ 9223372036854775807) (hb : -9223372036854775808 ≤ b ∧ b ≤ 9223372036854775807) (hX : Below W.heap.size W X) :
    ∃ a8 c8 W8, (Builtin.append_ #[46, 46] 46 #[vc, .slice (some ⟨X.heap.size, 0, none⟩) 1 1]).run Tryd.prog (X.alloc (.cells #[.int .i64 o, .int .i64 a, .int .i64 b] 50)) = .ok (.slice a8 (c.length + 1) c8) W8 ∧ (∀ j, j < W.heap.size → vc.ownBlock ≠ some j → W8.heap[j]? = W.heap[j]?) ∧ W.heap.size ≤ W8.heap.size ∧ Dd bE g k cur Wq (W8.setCell ⟨g, k, none⟩ (.slice a8 (c.length + 1) c8)) (.slice a8 (c.length + 1) c8) (c ++ [⟨o, a, b⟩]) := by
  obtain ⟨i0, hi, hz0, hz1, hz2⟩ := info_parts info_InsD
  have hlg := lt_of_block D.box
  have hs := hX.size
  have b1 : Below W.heap.size W (X.alloc (.cells #[.int .i64 o, .int .i64 a, .int .i64 b] 50)) := hX.alloc hs _
  obtain ⟨a8, c8, W8, q1, q2, q3, q4⟩ := app_next (ty := 46) Tryd.underlying46 hi hz0 hz1 hz2 rfl (by decide) (D.row.up b1) (by omega) (by decide) (by have := b1.size; omega) (heap_new X (.cells #[.int .i64 o, .int .i64 a, .int .i64 b] 50) rfl) rfl (by intro u hu; simp at hu; rcases hu with rfl | rfl | rfl <;> rfl) (⟨o, a, b⟩ : In3)
  have hown : ∀ j, vc.ownBlock = some j → g + 1 ≤ j := fun j hj => by
    obtain ⟨css, d1, _⟩ := D.row
    exact (own_ge d1 j hj).1
  have hold' : ∀ j, j < W.heap.size → vc.ownBlock ≠ some j → W8.heap[j]? = W.heap[j]? := fun j hj hv => (q3.block j (by have := b1.size; omega) (fun h => hv h.symm)).trans (b1.block j hj)
  have hold : ∀ j, j ≤ g → W8.heap[j]? = W.heap[j]? := fun j hj => hold' j (by omega) (fun h => by have := hown j h; omega)
  have h8 : W8.heap[g]? = some (.cells (cur.setIfInBounds k vc) 48 (0, 0)) := (hold g (Nat.le_refl _)).trans D.box
  have hs8 : W.heap.size ≤ W8.heap.size := Nat.le_trans b1.size q3.size
  have b8 : Below bE W W8 := ⟨q3.os.trans b1.os, q3.tape.trans b1.tape, q3.output.trans b1.output, hs8, fun j hj => hold j (by omega)⟩
  refine ⟨a8, c8, W8, q1, hold', hs8, (D.bel.trans b8).setCell hg _, ?_, ?_⟩
  · rw [heap_setCell_same W8 g k _ h8]
    simp
  · obtain ⟨css, d1, d2, d3, d4⟩ := q2
    refine ⟨css, ownsRow_keep d1 (fun j hj => ?_), d2, d3, fun j x hx => ?_⟩
    · have := (own_ge d1 j hj).1
      simp [World.setCell, Array.getElem?_modify, show g ≠ j by omega]
    · obtain ⟨c', e1, e2⟩ := d4 j x hx
      refine ⟨c', e1, ?_⟩
      rcases e2 with e2 | ⟨rfl, rfl⟩
      · exact e2
      · exact ⟨rfl, ho, ha, hb⟩
/-- The list at the end. -/
theorem Dd.fin {n cap : Nat} {l : List Fd} {f : Fd} {W5 : World} {j : List In3} (D : Dd bE g (n * 5 + 4) cur Wq W vc (f.co ++ j)) (A : Arr cur (FdP B W5) l) (hf : l[n]? = some f) (hB : ∀ i, i < B → W.heap[i]? = W5.heap[i]?) (hBs : B ≤ W.heap.size) (hlen : (f.co ++ j).length ≤ 1000000) (h1 : l.length ≤ cap) (h2 : cap ≤ maxLen) (h3 : l.length ≤ 100000) : SlAt 5 (FdP W.heap.size) W.heap.size W (.slice (some ⟨g, 0, none⟩) l.length cap) (l.set n (moreF f j)) := by
  have hlg := lt_of_block D.box
  refine ⟨_, cap, by rw [List.length_set], ⟨by rw [List.length_set]; omega, by rw [List.length_set]; exact h1, h2⟩, fun i x hx => ?_⟩
  rw [List.getElem?_set] at hx
  split at hx
  · rename_i e
    subst e
    rw [if_pos (get_lt hf)] at hx
    cases hx
    obtain ⟨cs, c1, c2⟩ := A _ _ hf
    obtain ⟨v1, v2, v3, v4, rfl, b0, s1, s2, s3, s4⟩ := c1
    refine ⟨g, 0, [.int .i64 f.pa, v1, v2, v3, vc], rfl, hlg, fun r u hr => cell_of D.box ?_, v1, v2, v3, vc, rfl, b0, ints_keep hBs hB s1, ints_keep hBs hB s2, ints_keep hBs hB s3, ?_⟩
    · rw [Nat.zero_add]
      match r, hr with
      | 0, hr => rw [Array.getElem?_setIfInBounds_ne (by omega)]; exact c2 0 u hr
      | 1, hr => rw [Array.getElem?_setIfInBounds_ne (by omega)]; exact c2 1 u hr
      | 2, hr => rw [Array.getElem?_setIfInBounds_ne (by omega)]; exact c2 2 u hr
      | 3, hr => rw [Array.getElem?_setIfInBounds_ne (by omega)]; exact c2 3 u hr
      | 4, hr =>
        cases hr
        have h4 := c2 4 v4 rfl
        have : n * 5 + 4 < cur.size := by
          rcases Nat.lt_or_ge (n * 5 + 4) cur.size with h | h
          · exact h
          · rw [Array.getElem?_eq_none h] at h4; cases h4
        rw [Array.getElem?_setIfInBounds_self_of_lt this]
    · exact D.row.sl (fun _ _ => rfl) (fun c x h => h) hlen
  · rename_i hne
    obtain ⟨cs, c1, c2⟩ := A _ _ hx
    refine ⟨g, 0, cs, rfl, hlg, fun r u hr => cell_of D.box ?_, fd_keep _ _ _ _ _ hBs hB c1⟩
    rw [Nat.zero_add]
    have hr5 : r < 5 := by have := get_lt hr; rw [fd_len _ _ _ c1] at this; exact this
    rw [Array.getElem?_setIfInBounds_ne (by omega)]
    exact c2 r u hr
theorem Dd.own (D : Dd bE g k cur Wq W vc c) : ∀ j, vc.ownBlock = some j → g + 1 ≤ j ∧ j < W.heap.size := by
  obtain ⟨css, d1, _⟩ := D.row
  exact own_ge d1
theorem Dd.cell (D : Dd bE g k cur Wq W vc c) (hk : k < cur.size) : W.cell? ⟨g, k, none⟩ = some vc ∧ W.frozen? ⟨g, k, none⟩ = false := by
  refine ⟨cell_of D.box (Array.getElem?_setIfInBounds_self_of_lt hk), by simp [World.frozen?, D.box]⟩
end
theorem szO_of {p : Pg} {n : Nat} {w W : World} {e : Ending} {f : Fd} {F : Fl} (h : SzO p (n : Int) w e W) (hc : (checkP p).2.2 = 0) (hf : p.fu[n]? = some f) (hF : followP p f = .ok F) : e = .returned (.tuple #[.int .i64 (szP p f F : Int), .int .i64 0]) ∧ Below w.heap.size w W := by
  obtain ⟨hb, (⟨h1, _⟩ | ⟨_, h1, _⟩ | ⟨k, f', F', _, hm, hf', hF', he⟩)⟩ := h
  · exact absurd hc h1
  · have := get_lt hf
    simp [inB] at h1
    omega
  · have : n = k := by omega
    subst this
    rw [hf] at hf'
    cases hf'
    rw [hF] at hF'
    cases hF'
    exact ⟨he, hb⟩
end Go.Proofs.YtefdilakpggggaaDoor

namespace Go.Proofs.YtefdilakpggggaaDoor
def locF (f : Fd) : Fd := ⟨f.pa, f.lo ++ [0], f.re, f.ar, f.co⟩
def locQ (p : Pg) (n : Nat) (f : Fd) : Pg := ⟨p.ty, p.fu.set n (locF f), p.ta, p.st⟩
section
variable {p : Pg} {n : Nat} {f : Fd}
theorem exf_loc : ExF f (locF f) := ⟨fun k x h => by unfold locF; dsimp only; rw [List.getElem?_append_left (get_lt h)]; exact h, by simp [locF], fun _ _ h => h, Nat.le_refl _, rfl, fun _ _ h => h, Nat.le_refl _⟩
theorem loc_ext (hf : p.fu[n]? = some f) (hpa : f.pa.toNat ≤ f.lo.length) : Ext p (locQ p n f) :=
  ⟨fun _ _ h => h, Nat.le_refl _, fun m g h => by
    unfold locQ
    dsimp only
    rw [List.getElem?_set]
    split
    · rename_i e
      subst e
      rw [hf] at h
      cases h
      rw [if_pos (get_lt hf)]
      refine ⟨_, rfl, ?_, rfl⟩
      unfold parK locF
      dsimp only
      rw [List.take_append_of_le_length hpa]
    · exact ⟨g, h, rfl, rfl⟩, by simp [locQ], fun _ _ h => h, Nat.le_refl _, Nat.le_refl _⟩
theorem loc_snd (h : sndP p = true) (hf : p.fu[n]? = some f) (hl : f.lo.length < 1000) : sndP (locQ p n f) = true ∧ f.pa.toNat ≤ f.lo.length := by
  simp only [sndP, Bool.and_eq_true] at h ⊢
  have hs := (eachB_le h.2.1).2 f (List.mem_of_getElem? hf)
  unfold sndF at hs
  simp only [Bool.and_eq_true, decide_eq_true_eq] at hs
  refine ⟨⟨h.1, each_set h.2.1 ?_ n, h.2.2.1, h.2.2.2⟩, by omega⟩
  unfold sndF locF
  simp only [Bool.and_eq_true, decide_eq_true_eq]
  refine ⟨by simp; omega, hs.2.1, by simp; omega, hs.2.2.2.1, hs.2.2.2.2.1, hs.2.2.2.2.2⟩
theorem head_loc {m : Nat} (h : headB m f = true) : headB m (locF f) = true := by
  simp only [headB, Bool.and_eq_true, decide_eq_true_eq] at h ⊢
  refine ⟨⟨⟨?_, h.1.1.2⟩, h.1.2⟩, h.2⟩
  unfold locF
  dsimp only
  rw [List.all_append, Bool.and_eq_true]
  exact ⟨h.1.1.1, by simp [isKB]⟩
theorem loc_heads (h : headsP p = none) (hf : p.fu[n]? = some f) (hpa : f.pa.toNat ≤ f.lo.length) : headsP (locQ p n f) = none := by
  rw [heads_none] at h ⊢
  obtain ⟨a1, a2, a3, a4⟩ := h
  refine ⟨a1, ?_, fun t ht => table_ext (loc_ext hf hpa) (a3 t ht), by simpa [locQ] using a4⟩
  rw [firstBad_none_iff] at a2 ⊢
  intro k g hk
  have hk2 : (p.fu.set n (locF f))[k]? = some g := hk
  rw [List.getElem?_set] at hk2
  split at hk2
  · rename_i e
    subst e
    rw [if_pos (get_lt hf)] at hk2
    cases hk2
    obtain ⟨b1, b2⟩ := a2 n f hf
    exact ⟨head_loc b1, b2⟩
  · exact a2 k g hk2
/-- One more local makes a frame one word more. -/
theorem loc_check (h : (checkP p).2.2 = 0) (hf : p.fu[n]? = some f) (hl : f.lo.length < 1000) :
    (checkP (locQ p n f)).2.2 = 0 ∧ (locQ p n f).fu[n]? = some (locF f) ∧ ∀ F, followP p f = .ok F → ∃ G, followP (locQ p n f) (locF f) = .ok G ∧ szP (locQ p n f) (locF f) G = szP p f F + 1 := by
  obtain ⟨_, c2, c3, c4⟩ := check_ok h
  have H := hok_of c2 c3
  obtain ⟨s1, hpa⟩ := loc_snd c2 hf hl
  have hg : (locQ p n f).fu[n]? = some (locF f) := by
    unfold locQ
    dsimp only
    rw [List.getElem?_set, if_pos rfl, if_pos (get_lt hf)]
  have hfm := List.mem_of_getElem? hf
  have key : ∀ F, followP p f = .ok F → ∃ G, followP (locQ p n f) (locF f) = .ok G ∧ szP (locQ p n f) (locF f) G = szP p f F + 1 := fun F hF => by
    obtain ⟨G, hG, hP⟩ := follow_ext (loc_ext hf hpa) (exf_loc (f := f)) H (H.fu f hfm) hF
    refine ⟨G, hG, ?_⟩
    unfold szP
    rw [hP.mo]
    have : (locF f).lo.length = f.lo.length + 1 := by simp [locF]
    rw [this]
    show f.lo.length + 1 + F.mo + arW (locQ p n f) f.ar = f.lo.length + F.mo + arW p f.ar + 1
    have : arW (locQ p n f) f.ar = arW p f.ar := rfl
    omega
  refine ⟨?_, hg, key⟩
  rw [ok_check s1 (loc_heads c3 hf hpa) fun g hgm => ?_]
  have hgm2 : g ∈ p.fu.set n (locF f) := hgm
  rcases List.mem_or_eq_of_mem_set hgm2 with h2 | h2
  · obtain ⟨F', hF'⟩ := c4 g h2
    obtain ⟨G', hG', _⟩ := follow_ext (loc_ext hf hpa) (exf_refl g) H (H.fu g h2) hF'
    exact ⟨G', hG'⟩
  · rw [h2]
    obtain ⟨F, hF⟩ := c4 f hfm
    obtain ⟨G, hG, _⟩ := key F hF
    exact ⟨G, hG⟩
end
/-- No stack is greater than the greatest. -/
def MoI (F : Fl) : Prop := ∀ (y : Nat) (t : List Int), F.ah[y]? = some (some t) → t.length ≤ F.mo
section
variable {p : Pg} {f : Fd} {F G : Fl}
theorem come_mo {x : Nat} {s : List Int} (h : comeP F x s = .ok G) (I : MoI F) (hs : s.length ≤ F.mo) : MoI G ∧ G.mo = F.mo := by
  unfold comeP at h
  split at h
  · cases h
    refine ⟨fun y t ht => ?_, rfl⟩
    dsimp only at ht ⊢
    rw [List.getElem?_set] at ht
    split at ht
    · split at ht
      · cases ht; exact hs
      · cases ht
    · exact I y t ht
  · split at h
    · cases h; exact ⟨I, rfl⟩
    · cases h
theorem comes_mo {s : List Int} : ∀ (l : List Int) {F G : Fl}, comesP s l F = .ok G → MoI F → s.length ≤ F.mo → MoI G
  | [], F, G, h, I, _ => by
    cases h
    exact I
  | x :: r, F, G, h, I, hs => by
    unfold comesP at h
    cases hc : comeP F x.toNat s with
    | error e => rw [hc] at h; cases h
    | ok K =>
      rw [hc] at h
      obtain ⟨h1, h2⟩ := come_mo hc I hs
      exact comes_mo r h h1 (by rw [h2]; exact hs)
theorem step_mo {x : Nat} (h : stepP p f x F = .ok G) (I : MoI F) : MoI G := by
  unfold stepP at h
  split at h
  · cases h
  · rename_i b ns _
    refine comes_mo ns h (fun y t ht => ?_) (Nat.le_max_right _ _)
    exact Nat.le_trans (I y t ht) (Nat.le_max_left _ _)
theorem run_mo : ∀ (n : Nat) {F G : Fl}, runP p f n F = .ok G → MoI F → MoI G
  | 0, F, G, h, I => by
    cases h
    exact I
  | n + 1, F, G, h, I => by
    unfold runP at h
    split at h
    · cases h; exact I
    · split at h
      · cases h
      · rename_i K hK
        exact run_mo n h (step_mo hK I)
theorem follow_mo (h : followP p f = .ok F) {y : Nat} {o : Option (List Int)} (ho : F.ah[y]? = some o) : (o.getD []).length ≤ F.mo := by
  have I : MoI (fl0 f.co.length) := fun y t ht => by
    unfold fl0 at ht
    dsimp only at ht
    rw [List.getElem?_set] at ht
    split at ht
    · split at ht
      · cases ht; simp
      · cases ht
    · rw [List.getElem?_replicate] at ht
      split at ht
      · cases ht
      · cases ht
  cases o with
  | none => simp
  | some t => exact run_mo _ h I y t ho
end
end Go.Proofs.YtefdilakpggggaaDoor

namespace Go.Proofs.YtefdilakpggggaaDoor
open Go.RowKit
theorem info_intE : (Tryd.prog.info? 3).map (fun i => (i.zero, i.size, i.bytes)) = some (some (.int .i64 0), 1, 8) := by kernel_rfl
structure Di (bE g k : Nat) (cur : Array Value) (Wq W : World) (vc : Value) (c : List Int) : Prop where
  bel : Below bE Wq W
  box : W.heap[g]? = some (.cells (cur.setIfInBounds k vc) 48 (0, 0))
  row : Rw (g + 1) 3 1 (IntP Wq) W vc c
/-- Where the region that draws stands: the empty list, the copied one, the list of one more. -/
structure Lg (Wb : World) (l : List Int) (X : World) (e0 : Option Nat) (v5 : Option Value) (i1 : Option Nat) : Prop where
  bel : Below Wb.heap.size Wb X
  hE : ∀ x, e0 = some x → v5 = none → Wb.heap.size ≤ x ∧ X.heap[x]? = some (.cells #[] 3 (0, 0))
  h5 : ∀ v, v5 = some v → Rw Wb.heap.size 3 1 (IntP Wb) X v l ∧ ∀ g, v.ownBlock = some g → i1 ≠ some g
  h1 : ∀ x, i1 = some x → Wb.heap.size ≤ x ∧ X.heap[x]? = some (.cells #[.int .i64 0] 3 (0, 0))
section
variable {Wb X : World} {B : Nat} {l : List Int} {e0 : Option Nat} {v5 : Option Value} {i1 : Option Nat} {v : Value}
theorem Lg.begin' : Lg Wb l Wb.drew none none none := ⟨below_drew (Below.refl _ _), fun _ h => (by cases h), fun _ h => (by cases h), fun _ h => (by cases h)⟩
theorem Lg.emp (R : Lg Wb l X none none i1) : Lg Wb l (X.alloc (.cells #[] 3)) (some X.heap.size) none i1 :=
  ⟨R.bel.alloc R.bel.size _, fun x h _ => by cases h; exact ⟨R.bel.size, heap_new _ _ rfl⟩, fun _ h => (by cases h), fun x h => ⟨(R.h1 x h).1, al_old _ _ (R.h1 x h).2⟩⟩
theorem Lg.one (R : Lg Wb l X e0 v5 none) : Lg Wb l (X.alloc (.cells #[.int .i64 0] 3)) e0 v5 (some X.heap.size) :=
  ⟨R.bel.alloc R.bel.size _, fun x h g => ⟨(R.hE x h g).1, al_old _ _ (R.hE x h g).2⟩, fun v h => by
    obtain ⟨css, d1, d2⟩ := (R.h5 v h).1
    refine ⟨⟨css, ownsRow_keep d1 (fun g hg => heap_alloc_old _ _ (own_ge d1 g hg).2), d2⟩, fun g hg e => ?_⟩
    have := (own_ge d1 g hg).2
    cases e
    omega, fun x h => by cases h; exact ⟨R.bel.size, heap_new _ _ rfl⟩⟩
theorem Lg.app {x : Nat} (R : Lg Wb l X (some x) none i1) (L : SlAt 1 IntP B Wb v l) (hlen : l.length ≤ 1000) (hB : B ≤ Wb.heap.size) :
    ∃ v5 W6, (Builtin.append_ #[44, 44] 44 #[.slice (some ⟨x, 0, none⟩) 0 0, v]).run Tryd.prog X = .ok v5 W6 ∧ Lg Wb l W6 (some x) (some v5) i1 := by
  obtain ⟨i0, hi0, hz0, hz1, hz2⟩ := info_parts info_intE
  obtain ⟨hx1, hx2⟩ := R.hE x rfl rfl
  have LX : SlAt 1 IntP B X v l := ints_keep (Nat.le_refl _) (fun j hj => R.bel.block j (by omega)) L
  obtain ⟨v5, W6, r1, r2, r3, r4, r5⟩ := app_first (P := IntP) (ty := 44) Tryd.underlying44 hi0 hz0 hz1 hz2 rfl (by decide) LX (fun cs x h => by rw [h.1]; rfl) (fun cs x h u hu => by rw [h.1] at hu; simp at hu; subst hu; rfl) (by omega) (by decide) hx2
  have hne1 : ∀ y, i1 = some y → y ≠ x := fun y h e => by
    have := (R.h1 y h).2
    rw [e, hx2] at this
    simp at this
  refine ⟨v5, W6, r1, R.bel.trans (r3.mono hx1), fun y _ h => (by cases h), fun v h => ?_, fun y h => ⟨(R.h1 y h).1, (r5 y (lt_of_block (R.h1 y h).2) (hne1 y h)).trans (R.h1 y h).2⟩⟩
  cases h
  obtain ⟨css, d1, d2, d3, d4⟩ := r2
  refine ⟨⟨css, owns_weak d1 hx1, d2, d3, d4⟩, fun g hg e => ?_⟩
  have hlt := lt_of_block (R.h1 g e).2
  rcases r4 with r4 | r4
  · rw [hg] at r4
    cases r4
    exact hne1 _ e rfl
  · rw [hg] at r4
    cases r4
    omega
theorem Lg.fin {x g k bE : Nat} {v : Value} {cur : Array Value} (R : Lg Wb l X e0 (some v) (some x)) (hq : Wb.heap[g]? = some (.cells cur 48 (0, 0))) (hg : bE ≤ g) (hlen : l.length ≤ 1000) :
    ∃ a8 c8 W8, (Builtin.append_ #[44, 44] 44 #[v, .slice (some ⟨x, 0, none⟩) 1 1]).run Tryd.prog X = .ok (.slice a8 (l.length + 1) c8) W8 ∧ Below Wb.heap.size Wb W8 ∧ Di bE g k cur Wb (W8.setCell ⟨g, k, none⟩ (.slice a8 (l.length + 1) c8)) (.slice a8 (l.length + 1) c8) (l ++ [0]) := by
  obtain ⟨i0, hi0, hz0, hz1, hz2⟩ := info_parts info_intE
  obtain ⟨f1, f2⟩ := R.h5 v rfl
  obtain ⟨f3, f4⟩ := R.h1 x rfl
  have hlg := lt_of_block hq
  obtain ⟨a8, c8, W8, q1, q2, q3, q4⟩ := app_next (ty := 44) Tryd.underlying44 hi0 hz0 hz1 hz2 rfl (by decide) f1 (by omega) (by decide) R.bel.size f4 rfl (by intro u hu; simp at hu; subst hu; rfl) (0 : Int)
  have hown : ∀ j, v.ownBlock = some j → Wb.heap.size ≤ j := fun j hj => by
    obtain ⟨css, d1, _⟩ := f1
    exact (own_ge d1 j hj).1
  have b8 : Below Wb.heap.size Wb W8 := R.bel.trans ⟨q3.os, q3.tape, q3.output, q3.size, fun j hj => q3.block j (by have := R.bel.size; omega) (fun h => by have := hown j h.symm; omega)⟩
  have h8 := (b8.block _ hlg).trans hq
  refine ⟨a8, c8, W8, q1, b8, (b8.mono (by omega)).setCell hg _, heap_setCell_same W8 g k _ h8, ?_⟩
  obtain ⟨css, d1, d2, d3, d4⟩ := q2
  refine ⟨css, ownsRow_keep (owns_weak d1 (by omega)) (fun j hj => ?_), d2, d3, fun j y hy => ?_⟩
  · have := (own_ge d1 j hj).1
    simp [World.setCell, Array.getElem?_modify, show g ≠ j by omega]
  · obtain ⟨c', e1, e2⟩ := d4 j y hy
    refine ⟨c', e1, ?_⟩
    rcases e2 with e2 | ⟨rfl, rfl⟩
    · exact e2
    · exact ⟨rfl, by decide, by decide⟩
end
theorem Di.fin {bE g B n cap : Nat} {cur : Array Value} {Wq W W5 : World} {vc : Value} {l : List Fd} {f : Fd} (D : Di bE g (n * 5 + 1) cur Wq W vc (f.lo ++ [0])) (A : Arr cur (FdP B W5) l) (hf : l[n]? = some f) (hB : ∀ i, i < B → W.heap[i]? = W5.heap[i]?) (hBs : B ≤ W.heap.size) (hlen : f.lo.length ≤ 1000) (h1 : l.length ≤ cap) (h2 : cap ≤ maxLen) (h3 : l.length ≤ 100000) : SlAt 5 (FdP W.heap.size) W.heap.size W (.slice (some ⟨g, 0, none⟩) l.length cap) (l.set n (locF f)) := by
  have hlg := lt_of_block D.box
  refine ⟨_, cap, by rw [List.length_set], ⟨by rw [List.length_set]; omega, by rw [List.length_set]; exact h1, h2⟩, fun i x hx => ?_⟩
  rw [List.getElem?_set] at hx
  split at hx
  · rename_i e
    subst e
    rw [if_pos (get_lt hf)] at hx
    cases hx
    obtain ⟨cs, c1, c2⟩ := A _ _ hf
    obtain ⟨v1, v2, v3, v4, rfl, b0, s1, s2, s3, s4⟩ := c1
    refine ⟨g, 0, [.int .i64 f.pa, vc, v2, v3, v4], rfl, hlg, fun r u hr => cell_of D.box ?_, vc, v2, v3, v4, rfl, b0, ?_, ints_keep hBs hB s2, ints_keep hBs hB s3, ins_keep hBs hB s4⟩
    · rw [Nat.zero_add]
      match r, hr with
      | 0, hr => rw [Array.getElem?_setIfInBounds_ne (by omega)]; exact c2 0 u hr
      | 2, hr => rw [Array.getElem?_setIfInBounds_ne (by omega)]; exact c2 2 u hr
      | 3, hr => rw [Array.getElem?_setIfInBounds_ne (by omega)]; exact c2 3 u hr
      | 4, hr => rw [Array.getElem?_setIfInBounds_ne (by omega)]; exact c2 4 u hr
      | 1, hr =>
        cases hr
        have h4 := c2 1 v1 rfl
        have : n * 5 + 1 < cur.size := by
          rcases Nat.lt_or_ge (n * 5 + 1) cur.size with h | h
          · exact h
          · rw [Array.getElem?_eq_none h] at h4; cases h4
        rw [Array.getElem?_setIfInBounds_self_of_lt this]
    · exact D.row.sl (fun _ _ => rfl) (fun c x h => h) (by simp; omega)
  · rename_i hne
    obtain ⟨cs, c1, c2⟩ := A _ _ hx
    refine ⟨g, 0, cs, rfl, hlg, fun r u hr => cell_of D.box ?_, fd_keep _ _ _ _ _ hBs hB c1⟩
    rw [Nat.zero_add]
    have hr5 : r < 5 := by have := get_lt hr; rw [fd_len _ _ _ c1] at this; exact this
    rw [Array.getElem?_setIfInBounds_ne (by omega)]
    exact c2 r u hr
end Go.Proofs.YtefdilakpggggaaDoor

namespace Go.Proofs.YtefdilakpggggaaDoor
open Go.RowKit Go.Shelf
attribute [local go_sem] Oper.semAt_some
theorem info_intD : (Tryd.prog.info? 3).map (fun i => (i.zero, i.size, i.bytes)) = some (some (.int .i64 0), 1, 8) := by kernel_rfl
theorem made_int (n : Nat) : madeCells #[Value.int .i64 0] n = (List.replicate n (Value.int .i64 0)).toArray := by
  apply Array.ext
  · simp [madeCells]
  · intro i h1 h2
    simp [madeCells, Nat.mod_one]
theorem run_ints (w : World) (n : Nat) (hn : n ≤ 300000000) : (Instr.makeSlice 44 (.int .i64 n) (.int .i64 n)).run Tryd.prog w = .ok (.slice (some ⟨w.heap.size, 0, none⟩) n n) (w.alloc (.cells (List.replicate n (Value.int .i64 0)).toArray 3)) := by
  obtain ⟨i0, hi, hz0, hz1, hz2⟩ := info_parts info_intD
  have hmk := run_make (P := Tryd.prog) w 44 3 i0 (.int .i64 0) Tryd.underlying44 hi hz0 .i64 .i64 n n (by omega) (Int.le_refl _) (by rw [hz2]; omega) (by omega)
  rw [hz1] at hmk
  simp only [Int.toNat_natCast, Nat.mul_one] at hmk
  rw [show (Value.int .i64 0).cells = #[Value.int .i64 0] from rfl, made_int] at hmk
  exact hmk
/-- The list when k kinds have come. -/
def lsL (s : List Int) (k : Nat) : List Int := List.replicate (s.length - k) 0 ++ s.drop (s.length - k)
def ivs (l : List Int) : List Value := l.map fun x => Value.int .i64 x
theorem lsL_len (s : List Int) (k : Nat) : (lsL s k).length = s.length := by
  unfold lsL
  rw [List.length_append, List.length_replicate, List.length_drop]
  omega
theorem lsL_zero (s : List Int) : (ivs (lsL s 0)).toArray = (List.replicate s.length (Value.int .i64 0)).toArray := by simp [lsL, ivs]
theorem lsL_all (s : List Int) : lsL s s.length = s := by simp [lsL]
theorem lsL_next {s : List Int} {k : Nat} {x : Int} (hk : k < s.length) (hx : s[s.length - 1 - k]? = some x) : (ivs (lsL s k)).toArray.setIfInBounds (s.length - 1 - k) (.int .i64 x) = (ivs (lsL s (k + 1))).toArray := by
  rw [List.setIfInBounds_toArray]
  congr 1
  have : lsL s (k + 1) = (lsL s k).set (s.length - 1 - k) x := by
    apply List.ext_getElem?
    intro i
    rw [List.getElem?_set]
    unfold lsL
    have e1 : s.length - (k + 1) = s.length - 1 - k := by omega
    rw [e1]
    by_cases h1 : s.length - 1 - k = i
    · subst h1
      rw [if_pos rfl, if_pos (by simp; omega), List.getElem?_append_right (by simp), List.length_replicate, Nat.sub_self, List.getElem?_drop, Nat.add_zero, hx]
    · rw [if_neg h1]
      rcases Nat.lt_or_ge i (s.length - 1 - k) with h2 | h2
      · rw [List.getElem?_append_left (by simp; omega), List.getElem?_append_left (by simp; omega), List.getElem?_replicate, List.getElem?_replicate, if_pos (by omega), if_pos (by omega)]
      · rw [List.getElem?_append_right (by simp; omega), List.getElem?_append_right (by simp; omega), List.length_replicate, List.length_replicate, List.getElem?_drop, List.getElem?_drop]
        congr 1
        omega
  unfold ivs
  rw [this, List.map_set]
/-- list's state behind k rounds. -/
structure LsS (s : List Int) (w : World) (B D2 : Nat) (k : Nat) (W : World) : Prop where
  e0 : W.heap[B]? = some (.cells (ivs (lsL s k)).toArray 3 (0, 0))
  e1 : W.heap[B + 1]? = some (.cells #[.slice (some ⟨B, 0, none⟩) s.length s.length] 44 (0, 0))
  d2 : W.heap[D2]? = some (.deferred (some []))
  kp : Below B w W
theorem LsS.keep {s : List Int} {w : World} {B D2 k : Nat} {W W' : World} (S : LsS s w B D2 k W) (hD : B + 1 < D2) {Q : Nat → Prop} (h : Kp Q W W') (hQ : ∀ j, Q j → D2 < j) : LsS s w B D2 k W' := by
  have l0 := lt_of_block S.e0
  have l1 := lt_of_block S.e1
  have ld := lt_of_block S.d2
  have hb : ∀ j, j ≤ D2 → j < W.heap.size → W'.heap[j]? = W.heap[j]? := fun j h1 h2 => h.block j h2 (fun hq => by have := hQ j hq; omega)
  exact ⟨(hb _ (by omega) l0).trans S.e0, (hb _ (by omega) l1).trans S.e1, (hb _ (Nat.le_refl _) ld).trans S.d2, S.kp.trans ⟨h.os, h.tape, h.output, h.size, fun j hj => hb j (by omega) (by omega)⟩⟩
section
variable {m E b : Nat} {Z : Nat → Prop} {s : List Int} {w : World}
set_option maxRecDepth 100000 in
set_option maxHeartbeats 2000000 in
theorem list_in (P : PileAt Z w E b s) (hs : s.length ≤ 300000000) :
    CallsIn FX m Tryd.prog 21 #[pp b] w fun e W => e = .returned (.slice (some ⟨w.heap.size, 0, none⟩) s.length s.length) ∧ W.heap[w.heap.size]? = some (.cells (ivs s).toArray 3 (0, 0)) ∧ Below w.heap.size w W := by
  have h1 := hro
  have h2 := hdp
  have k1 : FX.fn 40 := FX_fn (by decide)
  have hr := run_ints w s.length hs
  obtain ⟨W0, hW0⟩ : ∃ W0, w.alloc (.cells (List.replicate s.length (Value.int .i64 0)).toArray 3) = W0 := ⟨_, rfl⟩
  rw [hW0] at hr
  have z0 : W0.heap.size = w.heap.size + 1 := by rw [← hW0]; simp
  have b0 : Below w.heap.size w W0 := by rw [← hW0]; exact (Below.refl _ _).alloc (Nat.le_refl _) _
  have x0 : W0.heap[w.heap.size]? = some (.cells (ivs (lsL s 0)).toArray 3 (0, 0)) := by rw [← hW0, lsL_zero]; exact heap_new _ _ rfl
  obtain ⟨W1, hW1⟩ : ∃ W1, W0.alloc (.cells #[.slice (some ⟨w.heap.size, 0, none⟩) s.length s.length] 44) = W1 := ⟨_, rfl⟩
  have B1 : Below w.heap.size w W1 := by rw [← hW1]; exact b0.alloc (by omega) _
  have z1 : W1.heap.size = w.heap.size + 2 := by rw [← hW1]; simp; omega
  have e0 : W1.heap[w.heap.size]? = some (.cells (ivs (lsL s 0)).toArray 3 (0, 0)) := by rw [← hW1, Below.heap_alloc _ _ _ (by omega)]; exact x0
  have e1 : W1.heap[w.heap.size + 1]? = some (.cells #[.slice (some ⟨w.heap.size, 0, none⟩) s.length s.length] 44 (0, 0)) := by rw [← hW1]; exact heap_new _ _ z0.symm
  have cd := P.dep
  have cd1 : W1.cell? ⟨b, 2, none⟩ = some (.int .i64 (s.length : Int)) := (B1.cell (p := ⟨b, 2, none⟩) P.lt).trans cd
  have hlb : b < w.heap.size := P.lt
  have CD := hide (down_in (w := W1) (F := FX) (m := m - 1) (FX_fn (by decide)) hro b s.length)
  have HB1 := hide B1
  have HZ1 := hide z1
  have E0 := hide e0
  have E1 := hide e1
  have HP := hide P
  have HS := hide hs
  have HZ0 := hide z0
  clear B1 z1 e0 e1 P hs x0 b0 z0 hW0
  refine callsIn_of_wp_marks Tryd.func21 rfl (FX_fn (by decide)) ?_ hro
  simp only [Tryd.ntmps21, List.size_toArray, List.length_cons, List.length_nil, Nat.reduceAdd, Nat.reduceSub, Array.replicate_succ, Array.replicate_zero, List.push_toArray, List.append_toArray, List.nil_append, List.cons_append]
  gi_wp2_with fail
  refine CallsIn.mono CD.out ?_
  rintro e w2 ⟨rfl, hw2⟩
  have Z2 := hide (show w2.heap.size = w.heap.size + 4 by rw [hw2]; have := HZ1.out; simp; omega)
  have B2 := hide (show Below W1.heap.size W1 w2 from by rw [hw2]; exact ((Below.refl _ _).alloc (Nat.le_refl _) _).alloc (by simp) _)
  have EP := hide (show w2.heap[w.heap.size + 2]? = some (.cells #[pp b] 69 (0, 0)) from by rw [hw2, Below.heap_alloc _ _ _ (by have := HZ1.out; simp; omega)]; exact heap_new _ _ HZ1.out.symm)
  have EN := hide (show w2.heap[w.heap.size + 3]? = some (.cells #[.int .i64 (s.length : Int)] 3 (0, 0)) from by rw [hw2]; exact heap_new _ _ (by have := HZ1.out; simp; omega))
  clear hw2 CD hW1 cd cd1 hr
  gi_wp2_with fail
  rw [HZ0.out]
  refine range_of hro (by intro h; cases h) (gf := 56) (lb := #[.pointer (some ⟨W1.heap.size + 1, 0, none⟩), .pointer (some ⟨W1.heap.size, 0, none⟩)]) rfl (FX_fn (by decide)) (enters_of Tryd.func56 (by kernel_rfl) rfl) ?_
  intro fn hfn
  obtain ⟨gf, hgf⟩ := FX_ex hfn
  generalize hrec : recL fn _ _ _ _ w2.heap.size = rec
  dsimp only
  obtain ⟨W3, hW3⟩ : ∃ W3, (w2.alloc (.deferred (some []))).alloc (.loop (rec .ready none)) = W3 := ⟨_, rfl⟩
  rw [hW3]
  have z1 := HZ1.out
  have z2 := Z2.out
  have zW : W3.heap.size = w.heap.size + 6 := by rw [← hW3]; simp; omega
  have eL : W3.heap[w2.heap.size + 1]? = some (.loop (rec .ready none)) := by rw [← hW3]; exact heap_new _ _ (by simp)
  have eD : W3.heap[w2.heap.size]? = some (.deferred (some [])) := by rw [← hW3, Below.heap_alloc _ _ _ (by simp)]; exact heap_new _ _ rfl
  have bW : Below w2.heap.size w2 W3 := by rw [← hW3]; exact ((Below.refl _ _).alloc (Nat.le_refl _) _).alloc (by simp) _
  have b13 : Below W1.heap.size W1 W3 := B2.out.trans (bW.mono (by omega))
  have bw3 : Below w.heap.size w W3 := HB1.out.trans (b13.mono (by omega))
  clear hW3
  obtain ⟨B, hB⟩ : ∃ B, w.heap.size = B := ⟨_, rfl⟩
  rw [hB] at z1 z2 zW E0 E1 EP EN bw3
  have S0 : LsS s w B w2.heap.size 0 W3 := ⟨(b13.block _ (by omega)).trans E0.out, (b13.block _ (by omega)).trans E1.out, eD, bw3⟩
  have hst : ∀ {k : Nat} {W W' : World}, LsS s w B w2.heap.size k W → ∀ {Q : Nat → Prop}, Kp Q W W' → (∀ j, Q j → w2.heap.size < j) → LsS s w B w2.heap.size k W' := fun S _ h hQ => S.keep (by omega) h hQ
  refine CallsIn.mono (down1_in (X := fun j => j = B ∨ j = w2.heap.size + 1) (D := W3.heap.size) (l := w2.heap.size + 1) (n := s.length) (s := s) (nb := W1.heap.size + 1) (pb := W1.heap.size) (b := b) (E := E)
    (J := fun k W => LsS s w B w2.heap.size k W ∧ W.heap[w2.heap.size + 1]? = some (.loop (rec .ready none)))
    (Jp := fun _ _ => False)
    ⟨Nat.le_refl _, by have := HS.out; omega, ?hX, ?st, ?stp, ?yi⟩ ?hp rfl ⟨S0, eL⟩ ?cn ?cp) ?fin
  case hX =>
    rintro j (h | h)
    · omega
    · omega
  case st =>
    rintro k W W' ⟨S, hl⟩ h
    exact ⟨hst S h (fun j hj => by have : W3.heap.size ≤ j := hj; omega), (h.block _ (lt_of_block hl) (by show ¬ W3.heap.size ≤ _; omega)).trans hl⟩
  case stp =>
    rintro ch W W' h
    exact h.elim
  case hp =>
    refine (PileAt.sub (fun j hj hx => ?_) (HP.out.upto (Nat.le_of_eq hB))).keep ((Kp.of_below (by rw [hB]; exact bw3)).mono (fun _ h => h))
    rcases hx with h | h
    · right; omega
    · right; omega
  case cn => exact cell_of ((bW.block _ (by omega)).trans (by rw [show W1.heap.size + 1 = B + 3 by omega]; exact EN.out)) rfl
  case cp => exact cell_of ((bW.block _ (by omega)).trans (by rw [show W1.heap.size = B + 2 by omega]; exact EP.out)) rfl
  case yi =>
    rintro k W ⟨S, hl⟩ hk x hx
    have hl' := hl
    rw [← hrec] at hl'
    refine yield_of (a₁ := ⟨#[pp b, undef, .slice none 0 0, .pointer (some ⟨w.heap.size + 1, 0, none⟩), .int .i64 ((s.length - 1 - k : Nat) : Int), .int .i64 x, pp b, pp b, .pointer (some ⟨b, 2, none⟩), .int .i64 (s.length : Int), .slice (some ⟨w.heap.size, 0, none⟩) s.length s.length, pp b, pp b, pp b, .pointer (some ⟨b, 2, none⟩), .int .i64 (s.length : Int), .func (.func 56) #[] #[.pointer (some ⟨W1.heap.size + 1, 0, none⟩), .pointer (some ⟨W1.heap.size, 0, none⟩)], .int .i64 ((s.length - 1 - k : Nat) : Int), .int .i64 x, undef, undef, undef, undef, undef], []⟩) hfn hgf hl' rfl ?assign ?body
    case assign =>
      clear hB z1 z2
      intro K hK
      gi_wp2
      exact hK
    case body =>
      rw [hrec]
      have hlt2 : w2.heap.size + 1 < W.heap.size := lt_of_block hl
      have SB := hst S (But.put W (w2.heap.size + 1) (.loop (rec .busy none))).kp (fun j hj => by subst hj; omega)
      have KB : Kp (fun j => j = w2.heap.size + 1) W (W.putObj (w2.heap.size + 1) (.loop (rec .busy none))) := (But.put W _ _).kp
      have LB : (W.putObj (w2.heap.size + 1) (.loop (rec .busy none))).heap[w2.heap.size + 1]? = some (.loop (rec .busy none)) := World.putObj_heap_same hlt2
      generalize W.putObj (w2.heap.size + 1) (.loop (rec .busy none)) = WB at *
      obtain ⟨i, hi⟩ : ∃ i, s.length - 1 - k = i := ⟨_, rfl⟩
      have hil : i < s.length := by omega
      have hnx := lsL_next hk hx
      rw [hi] at hnx ⊢
      have i1 : WB.cell? ⟨B + 1, 0, none⟩ = some (.slice (some ⟨B, 0, none⟩) s.length s.length) := cell_of SB.e1 rfl
      obtain ⟨u, hu⟩ : ∃ u, (ivs (lsL s k)).toArray[i]? = some u := ⟨(ivs (lsL s k)).toArray[i]'(by simp [ivs, lsL_len]; omega), by simp⟩
      have i0 : WB.cell? ⟨B, i, none⟩ = some u := cell_of SB.e0 hu
      have f0 : WB.frozen? ⟨B, i, none⟩ = false := by simp [World.frozen?, SB.e0]
      have d1 : decide (i < s.length) = true := by simpa using hil
      have HF := hide (show ∀ F, WB.setCell ⟨B, i, none⟩ (.int .i64 x) = F → F.heap[w2.heap.size + 1]? = some (.loop (rec .busy none)) ∧ (LsS s w B w2.heap.size (k + 1) (F.putObj (w2.heap.size + 1) (.loop (rec .ready none))) ∧ (F.putObj (w2.heap.size + 1) (.loop (rec .ready none))).heap[w2.heap.size + 1]? = some (.loop (rec .ready none))) ∧ Kp (fun j => j = B ∨ j = w2.heap.size + 1) W (F.putObj (w2.heap.size + 1) (.loop (rec .ready none))) from fun F hF => by
        have q : ∀ j, j ≠ B → F.heap[j]? = WB.heap[j]? := fun j hj => by rw [← hF]; exact Below.heap_setCell _ _ _ j hj
        have q0 : F.heap[B]? = some (.cells (ivs (lsL s (k + 1))).toArray 3 (0, 0)) := by rw [← hF, ← hnx]; exact heap_setCell_same _ B i _ SB.e0
        have qz : F.heap.size = WB.heap.size := by rw [← hF]; exact World.size_setCell _ _ _
        have qo : F.os = WB.os ∧ F.tape = WB.tape ∧ F.output = WB.output := by rw [← hF]; exact ⟨rfl, rfl, rfl⟩
        clear hF
        have hl : F.heap[w2.heap.size + 1]? = some (.loop (rec .busy none)) := (q _ (by omega)).trans LB
        have kF : Kp (fun j => j = w2.heap.size + 1) F (F.putObj (w2.heap.size + 1) (.loop (rec .ready none))) := (But.put F _ _).kp
        have hr : (F.putObj (w2.heap.size + 1) (.loop (rec .ready none))).heap[w2.heap.size + 1]? = some (.loop (rec .ready none)) := World.putObj_heap_same (lt_of_block hl)
        generalize F.putObj (w2.heap.size + 1) (.loop (rec .ready none)) = F' at *
        have p : ∀ {j : Nat} {o : Obj}, j ≠ w2.heap.size + 1 → F.heap[j]? = some o → F'.heap[j]? = some o := fun hj ho => (kF.block _ (lt_of_block ho) hj).trans ho
        refine ⟨hl, ⟨⟨p (by omega) q0, p (by omega) ((q _ (by omega)).trans SB.e1), p (by omega) ((q _ (by omega)).trans SB.d2), SB.kp.trans ⟨kF.os.trans qo.1, kF.tape.trans qo.2.1, kF.output.trans qo.2.2, by have := kF.size; omega, fun j hj => (kF.block j (by have := lt_of_block SB.e0; omega) (by omega)).trans (q j (by omega))⟩⟩, hr⟩, ?_⟩
        exact ⟨kF.os.trans (qo.1.trans KB.os), kF.tape.trans (qo.2.1.trans KB.tape), kF.output.trans (qo.2.2.trans KB.output), by have := kF.size; have := KB.size; omega, fun j hj hx => (kF.block j (by have := KB.size; omega) (fun h => hx (.inr h))).trans ((q j (fun h => hx (.inl h))).trans (KB.block j hj (fun h => hx (.inr h))))⟩)
      rw [hB]
      clear S hl hl' SB KB LB hx hnx hu z1 z2 zW eL eD bW b13 bw3 S0 hlt2 hi
      gi_wp2
      exact ⟨(HF.out _ rfl).1, rfl, (HF.out _ rfl).2⟩
  case fin =>
    rintro e W' (⟨v, rfl, S, hl⟩ | ⟨ch, rfl, h⟩)
    · refine .inl ⟨v, rfl, hl, ?_⟩
      have SE := hst S (But.put W' (w2.heap.size + 1) (.loop (rec .exhausted none))).kp (fun j hj => by subst hj; omega)
      generalize W'.putObj (w2.heap.size + 1) (.loop (rec .exhausted none)) = W9 at *
      rw [hB]
      have HSE := hide SE
      have i1 : W9.cell? ⟨B + 1, 0, none⟩ = some (.slice (some ⟨B, 0, none⟩) s.length s.length) := cell_of SE.e1 rfl
      have HDB := hide (show B + 1 < w2.heap.size by omega)
      clear SE S hl z1 z2 zW eL eD bW b13 bw3 S0
      gi_wp2
      refine leave_marks (by simp) [w2.heap.size] W9 (by simp) (fun d hd => by rw [List.mem_singleton] at hd; subst hd; exact HSE.out.d2) fun w' hb => ?_
      have hk := HSE.out.kp
      have e0 := HSE.out.e0
      rw [lsL_all] at e0
      have hlt := HDB.out
      refine ⟨.slice (some ⟨B, 0, none⟩) s.length s.length, by simp [results, Tryd.results21, go_sem], rfl, (hb.block _ (by simp; omega)).trans e0, ⟨hb.os.trans hk.os, hb.tape.trans hk.tape, hb.output.trans hk.output, by rw [hb.size]; exact hk.size, fun j hj => (hb.block j (by simp; omega)).trans (hk.block j hj)⟩⟩
    · exact h.elim
end
end Go.Proofs.YtefdilakpggggaaDoor

namespace Go.Proofs.YtefdilakpggggaaDoor
open Go.RowKit
theorem info_intsD : (Tryd.prog.info? 44).map (fun i => (i.zero, i.size, i.bytes)) = some (some (.slice none 0 0), 1, 24) := by kernel_rfl
theorem info_boolD : (Tryd.prog.info? 4).map (fun i => (i.zero, i.size, i.bytes)) = some (some (.bool false), 1, 1) := by kernel_rfl
theorem made_one (v : Value) (n : Nat) : madeCells #[v] n = (List.replicate n v).toArray := by
  apply Array.ext
  · simp [madeCells]
  · intro i h1 h2
    simp [madeCells, Nat.mod_one]
theorem run_intss (w : World) (n : Nat) (hn : n ≤ 65536) : (Instr.makeSlice 24 (.int .i64 n) (.int .i64 n)).run Tryd.prog w = .ok (.slice (some ⟨w.heap.size, 0, none⟩) n n) (w.alloc (.cells (List.replicate n (Value.slice none 0 0)).toArray 44)) := by
  obtain ⟨i0, hi, hz0, hz1, hz2⟩ := info_parts info_intsD
  have hmk := run_make (P := Tryd.prog) w 24 44 i0 (.slice none 0 0) Tryd.underlying24 hi hz0 .i64 .i64 n n (by omega) (Int.le_refl _) (by rw [hz2]; omega) (by omega)
  rw [hz1] at hmk
  simp only [Int.toNat_natCast, Nat.mul_one] at hmk
  rw [show (Value.slice none 0 0).cells = #[Value.slice none 0 0] from rfl, made_one] at hmk
  exact hmk
theorem run_bools (w : World) (n : Nat) (hn : n ≤ 65536) : (Instr.makeSlice 33 (.int .i64 n) (.int .i64 n)).run Tryd.prog w = .ok (.slice (some ⟨w.heap.size, 0, none⟩) n n) (w.alloc (.cells (List.replicate n (Value.bool false)).toArray 4)) := by
  obtain ⟨i0, hi, hz0, hz1, hz2⟩ := info_parts info_boolD
  have hmk := run_make (P := Tryd.prog) w 33 4 i0 (.bool false) Tryd.underlying33 hi hz0 .i64 .i64 n n (by omega) (Int.le_refl _) (by rw [hz2]; omega) (by omega)
  rw [hz1] at hmk
  simp only [Int.toNat_natCast, Nat.mul_one] at hmk
  rw [show (Value.bool false).cells = #[Value.bool false] from rfl, made_one] at hmk
  exact hmk
theorem list_any {E b : Nat} {Z : Nat → Prop} {s : List Int} {w : World} (P : PileAt Z w E b s) (hs : s.length ≤ 300000000) : Calls Tryd.prog 21 #[pp b] w fun e W => e = .returned (.slice (some ⟨w.heap.size, 0, none⟩) s.length s.length) ∧ W.heap[w.heap.size]? = some (.cells (ivs s).toArray 3 (0, 0)) ∧ Below w.heap.size w W := (list_in (m := 0) P hs).calls FX_room
/-- The cell of a stack's list. -/
def LsC (sb cb : Nat) (W : World) : Option (List Int) → Value → Prop
  | none, c => c = .slice none 0 0
  | some s, c => ∃ g, c = .slice (some ⟨g, 0, none⟩) s.length s.length ∧ g ≠ sb ∧ g ≠ cb ∧ W.heap[g]? = some (.cells (ivs s).toArray 3 (0, 0))
structure StR (ah : List (Option (List Int))) (L sb cb k : Nat) (w2 W : World) (scs ccs : List Value) : Prop where
  bel : Below w2.heap.size w2 W
  sb1 : W.heap[sb]? = some (.cells scs.toArray 44 (0, 0))
  cb1 : W.heap[cb]? = some (.cells ccs.toArray 4 (0, 0))
  sl : scs.length = L
  cl : ccs.length = L
  old : ∀ (x : Nat) (o : Option (List Int)), ah[x]? = some o → x < k → (∃ c, scs[x]? = some c ∧ LsC sb cb W o c) ∧ ccs[x]? = some (.bool o.isSome)
  new : ∀ x, k ≤ x → x < L → scs[x]? = some (.slice none 0 0) ∧ ccs[x]? = some (.bool false)
section
variable {ah : List (Option (List Int))} {L sb cb k : Nat} {w2 W W' : World} {scs ccs : List Value}
theorem LsC.keep {o : Option (List Int)} {c : Value} (h : LsC sb cb W o c) (hb : ∀ j, j < W.heap.size → j ≠ sb → j ≠ cb → W'.heap[j]? = W.heap[j]?) : LsC sb cb W' o c := by
  cases o with
  | none => exact h
  | some s =>
    obtain ⟨g, h1, h2, h3, h4⟩ := h
    exact ⟨g, h1, h2, h3, (hb g (lt_of_block h4) h2 h3).trans h4⟩
theorem StR.skip (S : StR ah L sb cb k w2 W scs ccs) (hk : ah[k]? = some none) (hL : k < L) : StR ah L sb cb (k + 1) w2 W scs ccs :=
  ⟨S.bel, S.sb1, S.cb1, S.sl, S.cl, fun x o ho hx => by
    rcases Nat.lt_or_ge x k with h | h
    · exact S.old x o ho h
    · obtain rfl : x = k := by omega
      rw [hk] at ho
      cases ho
      obtain ⟨h1, h2⟩ := S.new x (Nat.le_refl _) hL
      exact ⟨⟨_, h1, rfl⟩, h2⟩, fun x h1 h2 => S.new x (by omega) h2⟩
theorem StR.put {s : List Int} (S : StR ah L sb cb k w2 W scs ccs) (hk : ah[k]? = some (some s)) (hL : k < L) (hsc : sb ≠ cb) (h2 : w2.heap.size ≤ sb) (h3 : w2.heap.size ≤ cb) (hb : Below W.heap.size W W') (hg : W'.heap[W.heap.size]? = some (.cells (ivs s).toArray 3 (0, 0))) : StR ah L sb cb (k + 1) w2 ((W'.setCell ⟨sb, k, none⟩ (.slice (some ⟨W.heap.size, 0, none⟩) s.length s.length)).setCell ⟨cb, k, none⟩ (.bool true)) (scs.set k (.slice (some ⟨W.heap.size, 0, none⟩) s.length s.length)) (ccs.set k (.bool true)) := by
  have l1 := lt_of_block S.sb1
  have l2 := lt_of_block S.cb1
  have k1 : ∀ (V : World) (u : Value) j, j ≠ sb → (V.setCell ⟨sb, k, none⟩ u).heap[j]? = V.heap[j]? := fun V u j hj => Below.heap_setCell _ _ _ j hj
  have k2 : ∀ (V : World) (u : Value) j, j ≠ cb → (V.setCell ⟨cb, k, none⟩ u).heap[j]? = V.heap[j]? := fun V u j hj => Below.heap_setCell _ _ _ j hj
  have q : ∀ j, j ≠ sb → j ≠ cb → ((W'.setCell ⟨sb, k, none⟩ (.slice (some ⟨W.heap.size, 0, none⟩) s.length s.length)).setCell ⟨cb, k, none⟩ (.bool true)).heap[j]? = W'.heap[j]? := fun j hs hc => (k2 _ _ j hc).trans (k1 _ _ j hs)
  have e1 := (hb.block _ l1).trans S.sb1
  have e2 := (hb.block _ l2).trans S.cb1
  refine ⟨((S.bel.trans (hb.mono (by have := S.bel.size; omega))).setCell h2 _).setCell h3 _, ?_, ?_, by simp [S.sl], by simp [S.cl], fun x o ho hx => ?_, fun x hx hxL => ?_⟩
  · rw [k2 _ _ _ hsc, heap_setCell_same _ sb k _ e1, List.setIfInBounds_toArray]
  · rw [heap_setCell_same _ cb k _ ((k1 _ _ _ (Ne.symm hsc)).trans e2), List.setIfInBounds_toArray]
  · rw [List.getElem?_set, List.getElem?_set]
    by_cases h : k = x
    · subst h
      rw [hk] at ho
      cases ho
      rw [if_pos rfl, if_pos (by rw [S.sl]; exact hL), if_pos rfl, if_pos (by rw [S.cl]; exact hL)]
      exact ⟨⟨_, rfl, W.heap.size, rfl, by omega, by omega, (q _ (by omega) (by omega)).trans hg⟩, rfl⟩
    · rw [if_neg h, if_neg h]
      obtain ⟨⟨c, h1, h2⟩, h3⟩ := S.old x o ho (by omega)
      exact ⟨⟨c, h1, h2.keep fun j hj hs hc => (q j hs hc).trans (hb.block j hj)⟩, h3⟩
  · rw [List.getElem?_set, List.getElem?_set, if_neg (by omega), if_neg (by omega)]
    exact S.new x (by omega) hxL
theorem ints_block {g : Nat} {s : List Int} (h : W.heap[g]? = some (.cells (ivs s).toArray 3 (0, 0))) (hb : ∀ x ∈ s, -9223372036854775808 ≤ x ∧ x ≤ 9223372036854775807) (hl : s.length ≤ 300000000) : SlAt 1 IntP W.heap.size W (.slice (some ⟨g, 0, none⟩) s.length s.length) s := by
  refine ⟨_, _, rfl, ⟨by omega, Nat.le_refl _, by unfold maxLen; omega⟩, fun j x hx => ⟨g, 0, [.int .i64 x], rfl, lt_of_block h, fun r u hr => ?_, rfl, hb x (List.mem_of_getElem? hx)⟩⟩
  match r, hr with
  | 0, hr =>
    cases hr
    refine cell_of h ?_
    rw [Nat.zero_add, Nat.add_zero, Nat.mul_one, List.getElem?_toArray]
    simp [ivs, hx]
theorem StR.fin (S : StR ah L sb cb L w2 W scs ccs) (hl : ah.length = L) (hL : L ≤ 65536) (hb : ∀ (y : Nat) (t : List Int), ah[y]? = some (some t) → (∀ x ∈ t, -9223372036854775808 ≤ x ∧ x ≤ 9223372036854775807) ∧ t.length ≤ 300000000) : SlAt 1 (LstP W.heap.size) W.heap.size W (.slice (some ⟨sb, 0, none⟩) L L) (ah.map fun o => o.getD []) ∧ W.heap[cb]? = some (.cells (ah.map fun o => Value.bool o.isSome).toArray 4 (0, 0)) := by
  refine ⟨⟨_, L, by rw [List.length_map, hl], by rw [List.length_map, hl]; exact ⟨by omega, Nat.le_refl _, by unfold maxLen; omega⟩, fun j x hx => ?_⟩, ?_⟩
  · rw [List.getElem?_map] at hx
    cases ho : ah[j]? with
    | none => rw [ho] at hx; cases hx
    | some o =>
      rw [ho] at hx
      cases hx
      obtain ⟨⟨c, h1, h2⟩, _⟩ := S.old j o ho (by have := get_lt ho; omega)
      refine ⟨sb, 0, [c], rfl, lt_of_block S.sb1, fun r u hr => ?_, c, rfl, ?_⟩
      · match r, hr with
        | 0, hr =>
          cases hr
          refine cell_of S.sb1 ?_
          rw [Nat.zero_add, Nat.add_zero, Nat.mul_one, List.getElem?_toArray]
          exact h1
      · cases o with
        | none => cases h2; exact sl_nil
        | some s =>
          obtain ⟨g, rfl, _, _, hg⟩ := h2
          exact ints_block hg (hb j s ho).1 (hb j s ho).2
  · rw [S.cb1]
    congr 3
    apply List.ext_getElem?
    intro j
    rw [List.getElem?_map]
    cases ho : ah[j]? with
    | none =>
      rw [List.getElem?_eq_none_iff] at ho
      rw [List.getElem?_eq_none (by rw [S.cl]; omega)]
      rfl
    | some o => exact (S.old j o ho (by have := get_lt ho; omega)).2
end
theorem kb_bounds {n : Nat} {k : Int} (hn : n ≤ 1024) (h : isKB n k = true) : -9223372036854775808 ≤ k ∧ k ≤ 9223372036854775807 := by
  unfold isKB bareK at h
  rw [decide_eq_true_eq] at h
  split at h <;> omega
/-- How Stacks ends. -/
def StO (p : Pg) (m : Int) (w : World) (e : Ending) (W : World) : Prop := Below w.heap.size w W ∧
  (((checkP p).2.2 ≠ 0 ∧ e = .returned (.tuple #[.slice none 0 0, .slice none 0 0, .int .i64 (checkP p).2.2])) ∨
  ((checkP p).2.2 = 0 ∧ inB m p.fu.length = false ∧ e = .returned (.tuple #[.slice none 0 0, .slice none 0 0, .int .i64 6])) ∨
  ∃ (k : Nat) (f : Fd) (F : Fl) (sb cb : Nat), (checkP p).2.2 = 0 ∧ m = (k : Int) ∧ p.fu[k]? = some f ∧ followP p f = .ok F ∧ F.ah.length = f.co.length ∧ f.co.length ≤ 65536 ∧ e = .returned (.tuple #[.slice (some ⟨sb, 0, none⟩) f.co.length f.co.length, .slice (some ⟨cb, 0, none⟩) f.co.length f.co.length, .int .i64 0]) ∧ w.heap.size ≤ sb ∧ w.heap.size ≤ cb ∧ SlAt 1 (LstP W.heap.size) W.heap.size W (.slice (some ⟨sb, 0, none⟩) f.co.length f.co.length) (F.ah.map fun o => o.getD []) ∧ W.heap[cb]? = some (.cells (F.ah.map fun o => Value.bool o.isSome).toArray 4 (0, 0)))
def StL (ah : List (Option (List Int))) (L sb cb : Nat) (w2 : World) (a : Value) (wr : World) : Prop := ∃ k : Nat, a = .int .i64 k ∧ k ≤ L ∧ ∃ scs ccs, StR ah L sb cb k w2 wr scs ccs
section
variable {B : Nat} {w : World} {p : Pg}
set_option maxRecDepth 100000 in
set_option maxHeartbeats 1000000 in
theorem stacks_any {v1 v2 v3 v4 : Value} (P : PgAt B w v1 v2 v3 v4 p) (hB : B ≤ w.heap.size) (hT : Tb w) (hb0 : 0 < B) (m : Int) : Calls Tryd.prog 11 #[.agg #[v1, v2, v3, v4], .int .i64 m] w (StO p m w) := by
  obtain ⟨a1, d1, hv1⟩ := sl_form P.ty
  obtain ⟨a2, d2, hv2⟩ := sl_form P.fu
  obtain ⟨a3, d3, hv3⟩ := sl_form P.ta
  obtain ⟨a4, d4, hv4⟩ := sl_form P.st
  subst hv1 hv2 hv3 hv4
  obtain ⟨W1, hW1⟩ : ∃ W1, w.alloc (.cells #[.slice a1 p.ty.length d1, .slice a2 p.fu.length d2, .slice a3 p.ta.length d3, .slice a4 p.st.length d4] 27) = W1 := ⟨_, rfl⟩
  have b1 : Below w.heap.size w W1 := by rw [← hW1]; exact (Below.refl _ _).alloc (Nat.le_refl _) _
  have e1 : W1.heap[w.heap.size]? = some (.cells #[.slice a1 p.ty.length d1, .slice a2 p.fu.length d2, .slice a3 p.ta.length d3, .slice a4 p.st.length d4] 27 (0, 0)) := by rw [← hW1]; exact heap_new _ _ rfl
  have PW : PgAt B W1 (.slice a1 p.ty.length d1) (.slice a2 p.fu.length d2) (.slice a3 p.ta.length d3) (.slice a4 p.st.length d4) p := P.keep (Nat.le_refl _) (fun j hj => b1.block j (Nat.lt_of_lt_of_le hj hB))
  have HSF := hide (soundFlow_any PW (Nat.le_trans hB b1.size) (hT.keep (b1.block 0 (Nat.lt_of_lt_of_le hb0 hB))) hb0 m)
  have HB1 := hide b1
  have k0 : W1.cell? ⟨w.heap.size, 0, none⟩ = some (.slice a1 p.ty.length d1) := cell_of e1 rfl
  have k1 : W1.cell? ⟨w.heap.size, 1, none⟩ = some (.slice a2 p.fu.length d2) := cell_of e1 rfl
  have k2 : W1.cell? ⟨w.heap.size, 2, none⟩ = some (.slice a3 p.ta.length d3) := cell_of e1 rfl
  have k3 : W1.cell? ⟨w.heap.size, 3, none⟩ = some (.slice a4 p.st.length d4) := cell_of e1 rfl
  clear P hB hT hb0 b1 e1 PW
  go_enter Tryd.func11, Tryd.ntmps11
  go_wp2_with fail
  refine HSF.out.mono ?_
  rintro e w2 ⟨hb2, (⟨hc, rfl⟩ | ⟨hc, hi, rfl⟩ | ⟨k, f, F, A, ahb, wtb, E, V, at_, hc, hm, hf, hF, rfl, hM⟩)⟩
  · have HB2 := hide (bel_tr HB1.out hb2)
    have HC := hide hc
    obtain ⟨ce, hce⟩ : ∃ c, (checkP p).2.2 = c := ⟨_, rfl⟩
    have HF := hide (show ∀ W, Below w.heap.size w W → StO p m w (.returned (.tuple #[.slice none 0 0, .slice none 0 0, .int .i64 ce])) W from fun W h => ⟨h, .inl ⟨HC.out, by rw [hce]⟩⟩)
    rw [hce] at hc ⊢
    have q0 : (ce != 0) = true := by simpa using hc
    clear hb2 hc hce
    go_wp2
    go_ret3
    exact HF.out _ HB2.out
  · have HB2 := hide (bel_tr HB1.out hb2)
    have HF := hide (show ∀ W, Below w.heap.size w W → StO p m w (.returned (.tuple #[.slice none 0 0, .slice none 0 0, .int .i64 6])) W from fun W h => ⟨h, .inr (.inl ⟨hc, hi, rfl⟩)⟩)
    clear hb2 hc hi
    go_wp2
    go_ret3
    exact HF.out _ HB2.out
  · obtain ⟨_, o1, o2, _⟩ := check_ok hc
    have H := hok_of o1 o2
    have hfo := H.fu f (List.mem_of_getElem? hf)
    have I := follow_inv H hfo hF
    have HBD := hide (show ∀ (y : Nat) (t : List Int), F.ah[y]? = some (some t) → (∀ x ∈ t, -9223372036854775808 ≤ x ∧ x ≤ 9223372036854775807) ∧ t.length ≤ 300000000 from fun y t ht => by
      obtain ⟨h1, h2⟩ := I.st y t ht
      have hn : p.ty.length ≤ 1024 := by
        simp only [sndP, Bool.and_eq_true] at o1
        exact (eachB_le o1.1).1
      have := hfo.nc
      exact ⟨fun x hx => kb_bounds hn (h1 x hx), by omega⟩)
    have HF := hide (show ∀ (W : World) (sb cb : Nat), Below w.heap.size w W → w.heap.size ≤ sb → w.heap.size ≤ cb → SlAt 1 (LstP W.heap.size) W.heap.size W (.slice (some ⟨sb, 0, none⟩) f.co.length f.co.length) (F.ah.map fun o => o.getD []) ∧ W.heap[cb]? = some (.cells (F.ah.map fun o => Value.bool o.isSome).toArray 4 (0, 0)) → StO p m w (.returned (.tuple #[.slice (some ⟨sb, 0, none⟩) f.co.length f.co.length, .slice (some ⟨cb, 0, none⟩) f.co.length f.co.length, .int .i64 0])) W from fun W sb cb h h1 h2 h3 => ⟨h, .inr (.inr ⟨k, f, F, sb, cb, hc, hm, hf, hF, I.la, hM.nc, rfl, h1, h2, h3.1, h3.2⟩)⟩)
    have c11 : w2.cell? ⟨A, 11, none⟩ = some (.slice (some ⟨ahb, 0, none⟩) f.co.length f.co.length) := by rw [← hM.va]; exact cell_of hM.fl.box rfl
    have hlA := (hM.lt (.inl rfl)).2
    have hlh := (hM.lt (.inr (.inl rfl))).2
    obtain ⟨hal, cs, hcl, hah, hel⟩ := hM.ah
    have HAH := hide (show ∀ (W : World), Below w2.heap.size w2 W → ∀ (x : Nat) (o : Option (List Int)), F.ah[x]? = some o → ∃ c, W.cell? ⟨ahb, x, none⟩ = some c ∧ AhC (Xf A ahb wtb) E W o c from fun W h x o ho => by
      obtain ⟨c, c1, c2⟩ := hel x o ho
      exact ⟨c, (h.cell (p := ⟨ahb, x, none⟩) hlh).trans (cell_of hah (by rw [List.getElem?_toArray]; exact c1)), c2.keep (Kp.of_below h)⟩)
    have HNC := hide hM.nc
    have HB2 := hide hb2
    have HAL := hide hal
    clear hb2 hc hm hf hF hM o1 o2 H hfo I hel hah hcl hal k0 k1 k2 k3 hW1 cs
    obtain ⟨L, hL⟩ : ∃ L, f.co.length = L := ⟨_, rfl⟩
    rw [hL] at c11 HF HNC HAL
    clear hL
    have hw2 : w.heap.size ≤ w2.heap.size := (bel_tr HB1.out HB2.out).size
    go_upto_region 4 with (fail)
    go_cut [4, 5] from 19 to 30 (fun x y wc => Hid (∃ sb cb, x = .slice (some ⟨sb, 0, none⟩) L L ∧ y = .slice (some ⟨cb, 0, none⟩) L L ∧ sb ≠ cb ∧ w2.heap.size ≤ sb ∧ w2.heap.size ≤ cb ∧ StR F.ah L sb cb 0 w2 wc (List.replicate L (.slice none 0 0)) (List.replicate L (.bool false))))
    case first =>
      have HKS := hide (show ∀ W : World, Below w2.heap.size w2 W → (fun W : World => W.cell? ⟨A, 11, none⟩ = some (.slice (some ⟨ahb, 0, none⟩) L L)) W from fun W h => (h.cell (p := ⟨A, 11, none⟩) hlA).trans c11)
      have HNW := hide (show ∀ (W : World) (sb cb : Nat), Below w2.heap.size w2 W → W.heap[sb]? = some (.cells (List.replicate L (Value.slice none 0 0)).toArray 44 (0, 0)) → W.heap[cb]? = some (.cells (List.replicate L (Value.bool false)).toArray 4 (0, 0)) → StR F.ah L sb cb 0 w2 W (List.replicate L (.slice none 0 0)) (List.replicate L (.bool false)) from fun W sb cb h h1 h2 => ⟨h, h1, h2, by simp, by simp, fun x o _ hx => absurd hx (by omega), fun x _ hx => by simp [hx]⟩)
      refine wp_region_held_drew (S := (fun W : World => W.cell? ⟨A, 11, none⟩ = some (.slice (some ⟨ahb, 0, none⟩) L L))) (by kernel_rfl) (HKS.out _ (below_drew (Below.refl _ _))) (fun hHeld1 => ?_)
      refine wpAnyH_take (i := 0) (oi := { dst := some 19, op := Go.Op.move (Go.Operand.tmp 7), type := 61, pos := "verify.go:24", after := #[], guard := none }) (v := ?v2) rfl (by kernel_rfl) (by kernel_rfl) (by kernel_rfl) (fun _ _ _ h => h) (Or.inl ⟨by rfl, ?hy2⟩) (by assumption) ?_
      case hy2 => (intro W hSw; (try dsimp only at hSw); go_simp; try with_reducible rfl)
      try simp only [Act.put, List.setIfInBounds_toArray, List.set_cons_zero, List.set_cons_succ]
      refine wpAnyH_take (i := 1) (oi := { dst := some 20, op := Go.Op.nilCheck (Go.Operand.tmp 19), type := 0, pos := "verify.go:24", after := #[{ on := 0, ground := Go.Ground.data }], guard := none }) (v := ?v3) rfl (by kernel_rfl) (by kernel_rfl) (by kernel_rfl) (fun _ _ _ h => h) (Or.inl ⟨by rfl, ?hy3⟩) (by assumption) ?_
      case hy3 => (intro W hSw; (try dsimp only at hSw); go_simp; try with_reducible rfl)
      try simp only [Act.put, List.setIfInBounds_toArray, List.set_cons_zero, List.set_cons_succ]
      refine wpAnyH_take (i := 2) (oi := { dst := some 21, op := Go.Op.fieldAddr 68 (Go.Operand.tmp 20) 3, type := 0, pos := "verify.go:24", after := #[{ on := 1, ground := Go.Ground.data }], guard := none }) (v := ?v4) rfl (by kernel_rfl) (by kernel_rfl) (by kernel_rfl) (fun _ _ _ h => h) (Or.inl ⟨by rfl, ?hy4⟩) (by assumption) ?_
      case hy4 => (intro W hSw; (try dsimp only at hSw); go_simp; try with_reducible rfl)
      try simp only [Act.put, List.setIfInBounds_toArray, List.set_cons_zero, List.set_cons_succ]
      refine wpAnyH_take (i := 3) (oi := { dst := some 22, op := Go.Op.load 64 (Go.Operand.tmp 21), type := 64, pos := "verify.go:24", after := #[{ on := 2, ground := Go.Ground.data }], guard := none }) (v := ?v5) rfl (by kernel_rfl) (by kernel_rfl) (by kernel_rfl) (fun _ _ _ h => h) (Or.inl ⟨by rfl, ?hy5⟩) (by assumption) ?_
      case hy5 => (intro W hSw; (try dsimp only at hSw); go_simp; try with_reducible rfl)
      try simp only [Act.put, List.setIfInBounds_toArray, List.set_cons_zero, List.set_cons_succ]
      refine wpAnyH_take (i := 4) (oi := { dst := some 23, op := Go.Op.call { callee := Go.Callee.builtin Go.Builtin.len, args := #[Go.Operand.tmp 22], argTypes := #[64] }, type := 3, pos := "verify.go:24", after := #[{ on := 3, ground := Go.Ground.data }], guard := none }) (v := ?v6) rfl (by kernel_rfl) (by kernel_rfl) (by kernel_rfl) (fun _ _ _ h => h) (Or.inl ⟨by rfl, ?hy6⟩) (by assumption) ?_
      case hy6 => (intro W hSw; (try dsimp only at hSw); go_simp; try with_reducible rfl)
      try simp only [Act.put, List.setIfInBounds_toArray, List.set_cons_zero, List.set_cons_succ]
      refine wpAnyH_take (i := 6) (oi := { dst := some 25, op := Go.Op.move (Go.Operand.tmp 7), type := 61, pos := "verify.go:24", after := #[], guard := none }) (v := ?v7) rfl (by kernel_rfl) (by kernel_rfl) (by kernel_rfl) (fun _ _ _ h => h) (Or.inl ⟨by rfl, ?hy7⟩) (by assumption) ?_
      case hy7 => (intro W hSw; (try dsimp only at hSw); go_simp; try with_reducible rfl)
      try simp only [Act.put, List.setIfInBounds_toArray, List.set_cons_zero, List.set_cons_succ]
      refine wpAnyH_take (i := 7) (oi := { dst := some 26, op := Go.Op.nilCheck (Go.Operand.tmp 25), type := 0, pos := "verify.go:24", after := #[{ on := 6, ground := Go.Ground.data }], guard := none }) (v := ?v8) rfl (by kernel_rfl) (by kernel_rfl) (by kernel_rfl) (fun _ _ _ h => h) (Or.inl ⟨by rfl, ?hy8⟩) (by assumption) ?_
      case hy8 => (intro W hSw; (try dsimp only at hSw); go_simp; try with_reducible rfl)
      try simp only [Act.put, List.setIfInBounds_toArray, List.set_cons_zero, List.set_cons_succ]
      refine wpAnyH_take (i := 8) (oi := { dst := some 27, op := Go.Op.fieldAddr 68 (Go.Operand.tmp 26) 3, type := 0, pos := "verify.go:24", after := #[{ on := 7, ground := Go.Ground.data }], guard := none }) (v := ?v9) rfl (by kernel_rfl) (by kernel_rfl) (by kernel_rfl) (fun _ _ _ h => h) (Or.inl ⟨by rfl, ?hy9⟩) (by assumption) ?_
      case hy9 => (intro W hSw; (try dsimp only at hSw); go_simp; try with_reducible rfl)
      try simp only [Act.put, List.setIfInBounds_toArray, List.set_cons_zero, List.set_cons_succ]
      refine wpAnyH_take (i := 9) (oi := { dst := some 28, op := Go.Op.load 64 (Go.Operand.tmp 27), type := 64, pos := "verify.go:24", after := #[{ on := 8, ground := Go.Ground.data }], guard := none }) (v := ?v10) rfl (by kernel_rfl) (by kernel_rfl) (by kernel_rfl) (fun _ _ _ h => h) (Or.inl ⟨by rfl, ?hy10⟩) (by assumption) ?_
      case hy10 => (intro W hSw; (try dsimp only at hSw); go_simp; try with_reducible rfl)
      try simp only [Act.put, List.setIfInBounds_toArray, List.set_cons_zero, List.set_cons_succ]
      refine wpAnyH_take (i := 10) (oi := { dst := some 29, op := Go.Op.call { callee := Go.Callee.builtin Go.Builtin.len, args := #[Go.Operand.tmp 28], argTypes := #[64] }, type := 3, pos := "verify.go:24", after := #[{ on := 9, ground := Go.Ground.data }], guard := none }) (v := ?v11) rfl (by kernel_rfl) (by kernel_rfl) (by kernel_rfl) (fun _ _ _ h => h) (Or.inl ⟨by rfl, ?hy11⟩) (by assumption) ?_
      case hy11 => (intro W hSw; (try dsimp only at hSw); go_simp; try with_reducible rfl)
      try simp only [Act.put, List.setIfInBounds_toArray, List.set_cons_zero, List.set_cons_succ]
      refine wpAnyH_ready (rs := [5, 11]) (by kernel_rfl) (by simp) ?_
      refine AllReadyH.cons (o := { dst := some 24, op := Go.Op.makeSlice 24 (Go.Operand.tmp 23) (Go.Operand.tmp 23), type := 24, pos := "verify.go:24", after := #[{ on := 4, ground := Go.Ground.data }, { on := 4, ground := Go.Ground.data }], guard := none }) rfl (fun K hK => ?_) (AllReadyH.cons (o := { dst := some 30, op := Go.Op.makeSlice 33 (Go.Operand.tmp 29) (Go.Operand.tmp 29), type := 33, pos := "verify.go:24", after := #[{ on := 10, ground := Go.Ground.data }, { on := 10, ground := Go.Ground.data }], guard := none }) rfl (fun K hK => ?_) AllReadyH.nil)
      · have hr := run_intss w2.drew L HNC.out
        have hx := hide (heap_new w2.drew (.cells (List.replicate L (Value.slice none 0 0)).toArray 44) rfl)
        have hb := hide (show Below w2.heap.size w2 (w2.drew.alloc (.cells (List.replicate L (Value.slice none 0 0)).toArray 44)) from (below_drew (Below.refl _ _)).alloc (Nat.le_refl _) _)
        have hz := hide (show (w2.drew.alloc (.cells (List.replicate L (Value.slice none 0 0)).toArray 44)).heap.size = w2.heap.size + 1 by simp)
        generalize w2.drew.alloc (.cells (List.replicate L (Value.slice none 0 0)).toArray 44) = W3 at *
        go_simp
        go_wp2_with fail
        refine hK.out _ _ (HKS.out _ hb.out) (fun hHeld12 => ?_)
        clear hK K
        try simp only [Act.put, List.setIfInBounds_toArray, List.set_cons_zero, List.set_cons_succ]
        clear hr
        refine wpAnyH_take (i := 12) (oi := { dst := some 4, op := Go.Op.assign (Go.Operand.tmp 24), type := 24, pos := "verify.go:24", after := #[{ on := 5, ground := Go.Ground.data }, { on := 0, ground := Go.Ground.phase }, { on := 1, ground := Go.Ground.phase }, { on := 2, ground := Go.Ground.phase }, { on := 3, ground := Go.Ground.phase }, { on := 4, ground := Go.Ground.phase }, { on := 5, ground := Go.Ground.phase }, { on := 6, ground := Go.Ground.textOnly Go.Departure.lateStores }, { on := 7, ground := Go.Ground.textOnly Go.Departure.lateStores }, { on := 8, ground := Go.Ground.textOnly Go.Departure.lateStores }, { on := 9, ground := Go.Ground.textOnly Go.Departure.lateStores }, { on := 10, ground := Go.Ground.textOnly Go.Departure.lateStoresUnsure }, { on := 11, ground := Go.Ground.textOnly Go.Departure.lateStoresUnsure }], guard := none }) (v := ?v13) rfl (by kernel_rfl) (by kernel_rfl) (by kernel_rfl) (fun _ _ _ h => h) (Or.inl ⟨by rfl, ?hy13⟩) (by assumption) ?_
        case hy13 => (intro W hSw; (try dsimp only at hSw); go_simp; try with_reducible rfl)
        try simp only [Act.put, List.setIfInBounds_toArray, List.set_cons_zero, List.set_cons_succ]
        have hr := run_bools W3 L HNC.out
        have hy := hide (heap_new W3 (.cells (List.replicate L (Value.bool false)).toArray 4) rfl)
        have hb4 := hide (show Below w2.heap.size w2 (W3.alloc (.cells (List.replicate L (Value.bool false)).toArray 4)) from hb.out.alloc hb.out.size _)
        have hx4 := hide ((Below.heap_alloc W3 (.cells (List.replicate L (Value.bool false)).toArray 4) _ (lt_of_block hx.out)).trans hx.out)
        generalize W3.alloc (.cells (List.replicate L (Value.bool false)).toArray 4) = W4 at *
        refine wpAnyH_ready (rs := [11]) (by kernel_rfl) (by simp) ?_
        refine AllReadyH.cons (o := { dst := some 30, op := Go.Op.makeSlice 33 (Go.Operand.tmp 29) (Go.Operand.tmp 29), type := 33, pos := "verify.go:24", after := #[{ on := 10, ground := Go.Ground.data }, { on := 10, ground := Go.Ground.data }], guard := none }) rfl (fun K hK => ?_) AllReadyH.nil
        go_simp
        go_wp2_with fail
        refine hK.out _ _ (HKS.out _ hb4.out) (fun hHeld14 => ?_)
        clear hK K
        try simp only [Act.put, List.setIfInBounds_toArray, List.set_cons_zero, List.set_cons_succ]
        clear hr
        refine wpAnyH_take (i := 13) (oi := { dst := some 5, op := Go.Op.assign (Go.Operand.tmp 30), type := 33, pos := "verify.go:24", after := #[{ on := 11, ground := Go.Ground.data }, { on := 12, ground := Go.Ground.chain }, { on := 0, ground := Go.Ground.phase }, { on := 1, ground := Go.Ground.phase }, { on := 2, ground := Go.Ground.phase }, { on := 3, ground := Go.Ground.phase }, { on := 4, ground := Go.Ground.phase }, { on := 5, ground := Go.Ground.phase }, { on := 6, ground := Go.Ground.phase }, { on := 7, ground := Go.Ground.phase }, { on := 8, ground := Go.Ground.phase }, { on := 9, ground := Go.Ground.phase }, { on := 10, ground := Go.Ground.phase }, { on := 11, ground := Go.Ground.phase }, { on := 12, ground := Go.Ground.phase }], guard := none }) (v := ?v15) rfl (by kernel_rfl) (by kernel_rfl) (by kernel_rfl) (fun _ _ _ h => h) (Or.inl ⟨by rfl, ?hy15⟩) (by assumption) ?_
        case hy15 => (intro W hSw; (try dsimp only at hSw); go_simp; try with_reducible rfl)
        try simp only [Act.put, List.setIfInBounds_toArray, List.set_cons_zero, List.set_cons_succ]
        refine wpAnyH_done (by kernel_rfl) ?_ _
        go_wp2_with fail
        go_meet
        exact hide ⟨w2.heap.size, W3.heap.size, rfl, rfl, by have := hz.out; omega, Nat.le_refl _, hb.out.size, HNW.out W4 _ _ hb4.out hx4.out hy.out⟩
      · have hr := run_bools w2.drew L HNC.out
        have hx := hide (heap_new w2.drew (.cells (List.replicate L (Value.bool false)).toArray 4) rfl)
        have hb := hide (show Below w2.heap.size w2 (w2.drew.alloc (.cells (List.replicate L (Value.bool false)).toArray 4)) from (below_drew (Below.refl _ _)).alloc (Nat.le_refl _) _)
        have hz := hide (show (w2.drew.alloc (.cells (List.replicate L (Value.bool false)).toArray 4)).heap.size = w2.heap.size + 1 by simp)
        generalize w2.drew.alloc (.cells (List.replicate L (Value.bool false)).toArray 4) = W3 at *
        go_simp
        go_wp2_with fail
        refine hK.out _ _ (HKS.out _ hb.out) (fun hHeld16 => ?_)
        clear hK K
        try simp only [Act.put, List.setIfInBounds_toArray, List.set_cons_zero, List.set_cons_succ]
        clear hr
        have hr := run_intss W3 L HNC.out
        have hy := hide (heap_new W3 (.cells (List.replicate L (Value.slice none 0 0)).toArray 44) rfl)
        have hb4 := hide (show Below w2.heap.size w2 (W3.alloc (.cells (List.replicate L (Value.slice none 0 0)).toArray 44)) from hb.out.alloc hb.out.size _)
        have hx4 := hide ((Below.heap_alloc W3 (.cells (List.replicate L (Value.slice none 0 0)).toArray 44) _ (lt_of_block hx.out)).trans hx.out)
        generalize W3.alloc (.cells (List.replicate L (Value.slice none 0 0)).toArray 44) = W4 at *
        refine wpAnyH_ready (rs := [5]) (by kernel_rfl) (by simp) ?_
        refine AllReadyH.cons (o := { dst := some 24, op := Go.Op.makeSlice 24 (Go.Operand.tmp 23) (Go.Operand.tmp 23), type := 24, pos := "verify.go:24", after := #[{ on := 4, ground := Go.Ground.data }, { on := 4, ground := Go.Ground.data }], guard := none }) rfl (fun K hK => ?_) AllReadyH.nil
        go_simp
        go_wp2_with fail
        refine hK.out _ _ (HKS.out _ hb4.out) (fun hHeld17 => ?_)
        clear hK K
        try simp only [Act.put, List.setIfInBounds_toArray, List.set_cons_zero, List.set_cons_succ]
        clear hr
        refine wpAnyH_take (i := 12) (oi := { dst := some 4, op := Go.Op.assign (Go.Operand.tmp 24), type := 24, pos := "verify.go:24", after := #[{ on := 5, ground := Go.Ground.data }, { on := 0, ground := Go.Ground.phase }, { on := 1, ground := Go.Ground.phase }, { on := 2, ground := Go.Ground.phase }, { on := 3, ground := Go.Ground.phase }, { on := 4, ground := Go.Ground.phase }, { on := 5, ground := Go.Ground.phase }, { on := 6, ground := Go.Ground.textOnly Go.Departure.lateStores }, { on := 7, ground := Go.Ground.textOnly Go.Departure.lateStores }, { on := 8, ground := Go.Ground.textOnly Go.Departure.lateStores }, { on := 9, ground := Go.Ground.textOnly Go.Departure.lateStores }, { on := 10, ground := Go.Ground.textOnly Go.Departure.lateStoresUnsure }, { on := 11, ground := Go.Ground.textOnly Go.Departure.lateStoresUnsure }], guard := none }) (v := ?v18) rfl (by kernel_rfl) (by kernel_rfl) (by kernel_rfl) (fun _ _ _ h => h) (Or.inl ⟨by rfl, ?hy18⟩) (by assumption) ?_
        case hy18 => (intro W hSw; (try dsimp only at hSw); go_simp; try with_reducible rfl)
        try simp only [Act.put, List.setIfInBounds_toArray, List.set_cons_zero, List.set_cons_succ]
        refine wpAnyH_take (i := 13) (oi := { dst := some 5, op := Go.Op.assign (Go.Operand.tmp 30), type := 33, pos := "verify.go:24", after := #[{ on := 11, ground := Go.Ground.data }, { on := 12, ground := Go.Ground.chain }, { on := 0, ground := Go.Ground.phase }, { on := 1, ground := Go.Ground.phase }, { on := 2, ground := Go.Ground.phase }, { on := 3, ground := Go.Ground.phase }, { on := 4, ground := Go.Ground.phase }, { on := 5, ground := Go.Ground.phase }, { on := 6, ground := Go.Ground.phase }, { on := 7, ground := Go.Ground.phase }, { on := 8, ground := Go.Ground.phase }, { on := 9, ground := Go.Ground.phase }, { on := 10, ground := Go.Ground.phase }, { on := 11, ground := Go.Ground.phase }, { on := 12, ground := Go.Ground.phase }], guard := none }) (v := ?v19) rfl (by kernel_rfl) (by kernel_rfl) (by kernel_rfl) (fun _ _ _ h => h) (Or.inl ⟨by rfl, ?hy19⟩) (by assumption) ?_
        case hy19 => (intro W hSw; (try dsimp only at hSw); go_simp; try with_reducible rfl)
        try simp only [Act.put, List.setIfInBounds_toArray, List.set_cons_zero, List.set_cons_succ]
        refine wpAnyH_done (by kernel_rfl) ?_ _
        go_wp2_with fail
        go_meet
        exact hide ⟨W3.heap.size, w2.heap.size, rfl, rfl, by have := hz.out; omega, hb.out.size, Nat.le_refl _, HNW.out W4 _ _ hb4.out hy.out hx4.out⟩
    case rest =>
      obtain ⟨sb, cb, rfl, rfl, hne, hs1, hs2, S0⟩ := hcut.out
      have HS0 := hide S0
      have c12 : wc.cell? ⟨A, 11, none⟩ = some (.slice (some ⟨ahb, 0, none⟩) L L) := (S0.bel.cell (p := ⟨A, 11, none⟩) hlA).trans c11
      clear S0 hcut
      go_wp2_with fail
      go_loopw [36] (fun a wr => StL F.ah L sb cb w2 a wr) (fun a _ => L - (intOf a).toNat)
      case atStart => exact ⟨0, rfl, Nat.zero_le _, _, _, HS0.out⟩
      case round =>
        obtain ⟨x, rfl, hx, scs, ccs, S⟩ := hrel
        have HS := hide S
        clear S c12
        by_cases hlt : x < L
        · obtain ⟨o, ho⟩ : ∃ o, F.ah[x]? = some o := ⟨F.ah[x]'(by rw [HAL.out]; exact hlt), by simp⟩
          obtain ⟨c, hc, hA⟩ := HAH.out wr HS.out.bel x o ho
          have hlw : ahb < wr.heap.size := Nat.lt_of_lt_of_le hlh HS.out.bel.size
          have dd1 : decide (x < L) = true := by simpa using hlt
          have dd3 : (x : Int) ≤ 65536 := by have := HNC.out; omega
          cases o with
          | none =>
            obtain rfl : c = .pointer none := hA
            have HN := hide (HS.out.skip ho hlt)
            clear ho
            go_wp2
            go_roundw
            case rel => exact ⟨x + 1, by first | exact num_next hlt (by have := HNC.out; omega) | go_num, hlt, _, _, HN.out⟩
            case measure => first | exact meas_int hlt (by omega) | (rw [intOf_int, intOf_int]; omega)
          | some s =>
            obtain ⟨b, rfl, hP⟩ := hA
            have HO := hide ho
            have HLI := hide (list_any hP (HBD.out x s ho).2)
            have hls : sb < wr.heap.size := lt_of_block HS.out.sb1
            have hlc : cb < wr.heap.size := lt_of_block HS.out.cb1
            have hsz : x < scs.length := by rw [HS.out.sl]; exact hlt
            have hcz : x < ccs.length := by rw [HS.out.cl]; exact hlt
            have HC := hide (show ∀ W : World, Below wr.heap.size wr W → W.cell? ⟨sb, x, none⟩ = some (scs[x]) ∧ W.frozen? ⟨sb, x, none⟩ = false ∧ ∀ u, (W.setCell ⟨sb, x, none⟩ u).cell? ⟨cb, x, none⟩ = some (ccs[x]) ∧ (W.setCell ⟨sb, x, none⟩ u).frozen? ⟨cb, x, none⟩ = false from fun W h => by
              have g1 := (h.block _ hls).trans HS.out.sb1
              have g2 := (h.block _ hlc).trans HS.out.cb1
              have g3 : ∀ u, (W.setCell ⟨sb, x, none⟩ u).heap[cb]? = some (.cells ccs.toArray 4 (0, 0)) := fun u => (Below.heap_setCell _ _ _ cb (Ne.symm hne)).trans g2
              exact ⟨cell_of g1 (by simp), by simp [World.frozen?, g1], fun u => ⟨cell_of (g3 u) (by simp), by simp [World.frozen?, g3 u]⟩⟩)
            clear ho hP
            go_wp2_with fail
            refine HLI.out.mono ?_
            rintro e w5 ⟨rfl, hg5, hb5⟩
            have HN := hide (HS.out.put HO.out hlt hne hs1 hs2 hb5 hg5)
            obtain ⟨y1, y2, y3⟩ := HC.out w5 hb5
            obtain ⟨y4, y5⟩ := y3 (.slice (some ⟨wr.heap.size, 0, none⟩) s.length s.length)
            clear hg5 hb5 y3
            go_wp2
            go_roundw
            case rel => exact ⟨x + 1, by first | exact num_next hlt (by have := HNC.out; omega) | go_num, hlt, _, _, HN.out⟩
            case measure => first | exact meas_int hlt (by omega) | (rw [intOf_int, intOf_int]; omega)
        · obtain rfl : L = x := by omega
          have dd1 : decide (L < L) = false := by simp
          have HE := hide (HF.out wr sb cb (bel_tr (bel_tr HB1.out HB2.out) HS.out.bel) (by omega) (by omega) (HS.out.fin HAL.out HNC.out HBD.out))
          go_wp2
          go_ret3
          exact HE.out
end
end Go.Proofs.YtefdilakpggggaaDoor

namespace Go.Proofs.YtefdilakpggggaaDoor
open Go.RowKit
def SzQ (L : Nat) (w5 : World) (a : Value) (wr : World) : Prop := ∃ j : Nat, a = .int .i64 j ∧ j ≤ L ∧ wr = w5
section
variable {B : Nat} {w : World} {p : Pg}
set_option maxRecDepth 100000 in
set_option maxHeartbeats 1000000 in
theorem sizes_law {v1 v2 v3 v4 : Value} (P : PgAt B w v1 v2 v3 v4 p) (hB : B ≤ w.heap.size) (hT : Tb w) (hb0 : 0 < B) (m : Int) : Calls Tryd.prog 7 #[.agg #[v1, v2, v3, v4], .int .i64 m] w fun e w' => e = .returned (.bool true) ∧ Below w.heap.size w w' := by
  obtain ⟨a1, d1, hv1⟩ := sl_form P.ty
  obtain ⟨a2, d2, hv2⟩ := sl_form P.fu
  obtain ⟨a3, d3, hv3⟩ := sl_form P.ta
  obtain ⟨a4, d4, hv4⟩ := sl_form P.st
  subst hv1 hv2 hv3 hv4
  obtain ⟨W1, hW1⟩ : ∃ W1, w.alloc (.cells #[.slice a1 p.ty.length d1, .slice a2 p.fu.length d2, .slice a3 p.ta.length d3, .slice a4 p.st.length d4] 27) = W1 := ⟨_, rfl⟩
  have b1 : Below w.heap.size w W1 := by rw [← hW1]; exact (Below.refl _ _).alloc (Nat.le_refl _) _
  have e1 : W1.heap[w.heap.size]? = some (.cells #[.slice a1 p.ty.length d1, .slice a2 p.fu.length d2, .slice a3 p.ta.length d3, .slice a4 p.st.length d4] 27 (0, 0)) := by rw [← hW1]; exact heap_new _ _ rfl
  have HBX := hide (show ∀ W : World, Below W1.heap.size W1 W → W.cell? ⟨w.heap.size, 0, none⟩ = some (.slice a1 p.ty.length d1) ∧ W.cell? ⟨w.heap.size, 1, none⟩ = some (.slice a2 p.fu.length d2) ∧ W.cell? ⟨w.heap.size, 2, none⟩ = some (.slice a3 p.ta.length d3) ∧ W.cell? ⟨w.heap.size, 3, none⟩ = some (.slice a4 p.st.length d4) from fun W h => by
    have h1 := (h.block _ (lt_of_block e1)).trans e1
    exact ⟨cell_of h1 rfl, cell_of h1 rfl, cell_of h1 rfl, cell_of h1 rfl⟩)
  have HPG := hide (show ∀ W : World, (∀ j, j < B → W.heap[j]? = w.heap[j]?) → w.heap.size ≤ W.heap.size → PgAt B W (.slice a1 p.ty.length d1) (.slice a2 p.fu.length d2) (.slice a3 p.ta.length d3) (.slice a4 p.st.length d4) p ∧ B ≤ W.heap.size ∧ Tb W from fun W h hs => ⟨P.keep (Nat.le_refl _) h, Nat.le_trans hB hs, hT.keep (h 0 hb0)⟩)
  have HPW := hide (show ∀ W : World, Below W1.heap.size W1 W → (∀ j, j < B → W.heap[j]? = w.heap[j]?) ∧ w.heap.size ≤ W.heap.size from fun W h => ⟨fun j hj => (bel_tr b1 h).block j (Nat.lt_of_lt_of_le hj hB), (bel_tr b1 h).size⟩)
  have HB1 := hide b1
  obtain ⟨k0, k1, k2, k3⟩ := HBX.out W1 (Below.refl _ _)
  have hl0 := lt_of_block e1
  have PW1 := HPG.out W1 (HPW.out W1 (Below.refl _ _)).1 (HPW.out W1 (Below.refl _ _)).2
  have HST := hide (stacks_any PW1.1 PW1.2.1 PW1.2.2 hb0 m)
  have HB0 := hide hb0
  have hBw := hB
  clear P hB hT hb0 b1 e1 PW1
  go_enter Tryd.func7, Tryd.ntmps7
  go_wp2_with fail
  refine HST.out.mono ?_
  rintro e w2 ⟨hb2, (⟨hc, rfl⟩ | ⟨hc, hi, rfl⟩ | ⟨n, f, F, sb, cb, hc, rfl, hf, hF, hal, hnc, rfl, hs1, hs2, hS, _⟩)⟩
  · have HB2 := hide hb2
    obtain ⟨ce, hce⟩ : ∃ c, (checkP p).2.2 = c := ⟨_, rfl⟩
    rw [hce] at hc ⊢
    have q0 : (ce != 0) = true := by simpa using hc
    clear hce
    clear hb2 hc k0 k1 k2 k3 hW1
    have HAW := hide (awake_any w2 (HPG.out w2 (HPW.out w2 HB2.out).1 (HPW.out w2 HB2.out).2).2.2)
    go_wp2_with fail
    refine HAW.out.mono ?_
    rintro e w3 ⟨rfl, hb3⟩
    have HB3 := hide (bel_tr HB2.out hb3)
    clear hb3
    have HAX := hide (awake_any w3 (HPG.out w3 (HPW.out w3 HB3.out).1 (HPW.out w3 HB3.out).2).2.2)
    go_wp2_with fail
    refine HAX.out.mono ?_
    rintro e w4 ⟨rfl, hb4⟩
    have HB4 := hide (bel_tr (bel_tr HB1.out HB3.out) hb4)
    clear hb4
    go_wp2_with fail
    go_ret
    exact ⟨rfl, HB4.out⟩
  · have HB2 := hide hb2
    clear hi
    clear hb2 hc k0 k1 k2 k3 hW1
    have HAW := hide (awake_any w2 (HPG.out w2 (HPW.out w2 HB2.out).1 (HPW.out w2 HB2.out).2).2.2)
    go_wp2_with fail
    refine HAW.out.mono ?_
    rintro e w3 ⟨rfl, hb3⟩
    have HB3 := hide (bel_tr HB2.out hb3)
    clear hb3
    have HAX := hide (awake_any w3 (HPG.out w3 (HPW.out w3 HB3.out).1 (HPW.out w3 HB3.out).2).2.2)
    go_wp2_with fail
    refine HAX.out.mono ?_
    rintro e w4 ⟨rfl, hb4⟩
    have HB4 := hide (bel_tr (bel_tr HB1.out HB3.out) hb4)
    clear hb4
    go_wp2_with fail
    go_ret
    exact ⟨rfl, HB4.out⟩
  · obtain ⟨_, o1, o2, _⟩ := check_ok hc
    have H := hok_of o1 o2
    have hfo := H.fu f (List.mem_of_getElem? hf)
    have I := follow_inv H hfo hF
    have hfl : p.fu.length ≤ 4096 := by
      simp only [sndP, Bool.and_eq_true] at o1
      exact (eachB_le o1.2.1).1
    have HAW' := hide (arW_le (p := p) fun l hl => (H.ty l hl).2.1)
    have HAR := hide hfo.ar
    have HMO := hide (show f.lo.length ≤ 4096 ∧ F.mo ≤ 300000000 ∧ f.ar.length ≤ 4096 from ⟨hfo.nl, by have := I.mo; have := hfo.nc; omega, hfo.na⟩)
    have HCF := hide (show (checkP p).2.2 = 0 ∧ p.fu[n]? = some f ∧ followP p f = .ok F from ⟨hc, hf, hF⟩)
    have HSM := hide (show ∀ (y : Nat) (o : Option (List Int)), F.ah[y]? = some o → (o.getD []).length ≤ F.mo from fun y o ho => follow_mo hF ho)
    have HSZ := hide (show szP p f F = f.lo.length + F.mo + arW p f.ar from rfl)
    have HB2 := hide hb2
    have HS := hide hS
    have HAL := hide hal
    clear hb2 hc hF o1 o2 H hfo I k0 k1 k2 k3 hW1 hS hal
    have P2 := HPG.out w2 (HPW.out w2 HB2.out).1 (HPW.out w2 HB2.out).2
    obtain ⟨g0, o0, d0, n0, u1, u2, u3, u4, hv2, hn0, hnl, hg0, ⟨_, y1, _, y3, _⟩, s1, _, s3, _⟩ := fd_at P2.1.fu hf
    cases hv2
    obtain ⟨b1, x1, hu1⟩ := sl_form s1
    obtain ⟨b3, x3, hu3⟩ := sl_form s3
    subst hu1 hu3
    have HCE := hide (show ∀ W : World, (∀ j, j < B → W.heap[j]? = w.heap[j]?) → W.cell? ⟨g0, o0 + n * 5 + 1, none⟩ = some (.slice b1 f.lo.length x1) ∧ W.cell? ⟨g0, o0 + n * 5 + 3, none⟩ = some (.slice b3 f.ar.length x3) ∧ SlAt 1 IntP B W (.slice b1 f.lo.length x1) f.lo ∧ SlAt 1 IntP B W (.slice b3 f.ar.length x3) f.ar from fun W h => by
      have hk : ∀ j, j < B → W.heap[j]? = w2.heap[j]? := fun j hj => (h j hj).trans ((HPW.out w2 HB2.out).1 j hj).symm
      exact ⟨(World.cell?_of_block (a := ⟨g0, o0 + n * 5 + 1, none⟩) (hk g0 hg0)).trans y1, (World.cell?_of_block (a := ⟨g0, o0 + n * 5 + 3, none⟩) (hk g0 hg0)).trans y3, ints_keep (Nat.le_refl _) hk s1, ints_keep (Nat.le_refl _) hk s3⟩)
    have HAW := hide (awake_any w2 P2.2.2)
    have z2 : decide (n < p.fu.length) = true := by simp; omega
    have hg0w : g0 < w.heap.size := Nat.lt_of_lt_of_le hg0 hBw
    clear P2 y1 y3 s1 s3 hf
    go_wp2_with fail
    refine HAW.out.mono ?_
    rintro e w3 ⟨rfl, hb3⟩
    have HB3 := hide (bel_tr HB2.out hb3)
    have HB23 := hide hb3
    clear hb3 HAW HST
    obtain ⟨k0, k1, k2, k3⟩ := HBX.out w3 HB3.out
    obtain ⟨k4, k5, _, R3⟩ := HCE.out w3 (HPW.out w3 HB3.out).1
    have hl3 : w.heap.size < w3.heap.size := Nat.lt_of_lt_of_le hl0 HB3.out.size
    have hg3 : g0 < w3.heap.size := by omega
    have HR3 := hide R3
    clear R3
    obtain ⟨ll, hll⟩ : ∃ l, f.lo.length = l := ⟨_, rfl⟩
    rw [hll] at HCE HMO HSZ k4
    have HLL := hide hll
    clear hll
    obtain ⟨al, hal⟩ : ∃ l, f.ar.length = l := ⟨_, rfl⟩
    rw [hal] at HCE HMO k5 HR3
    have HAL3 := hide hal
    clear hal
    obtain ⟨mb1, mb2, mb3⟩ := HMO.out
    go_wp2_with fail
    go_loopw [8, 9] (fun a c wr => SzR p f.ar ll w3 a c wr) (fun _ c _ => al - (intOf c).toNat)
    case atStart => exact ⟨0, rfl, Nat.zero_le _, by simp [arW], Below.refl _ _⟩
    case round =>
      obtain ⟨j, rfl, hj, rfl, hb⟩ := hrel
      have HBR := hide hb
      rw [HAL3.out] at hj
      clear hb k0 k1 k2 k3 k4 k5
      obtain ⟨k0, k1, k2, k3⟩ := HBX.out wr (bel_tr HB3.out HBR.out)
      obtain ⟨k4, k5, _, R3⟩ := HCE.out wr (HPW.out wr (bel_tr HB3.out HBR.out)).1
      have hlw : w.heap.size < wr.heap.size := Nat.lt_of_lt_of_le hl3 HBR.out.size
      have hgw : g0 < wr.heap.size := by omega
      by_cases hlt : j < al
      · obtain ⟨t, ht⟩ : ∃ t, f.ar[j]? = some t := ⟨f.ar[j]'(by rw [HAL3.out]; exact hlt), by simp⟩
        rw [← HAL3.out] at R3
        obtain ⟨_, _, hv3, _, hel⟩ := R3
        cases hv3
        obtain ⟨ga, oa, hb3, hga, hca, _⟩ := ints_at hel ht
        subst hb3
        obtain ⟨tk, rfl, htk⟩ := in_nat (HAR.out t (List.mem_of_getElem? ht))
        obtain ⟨l, hl⟩ : ∃ l, p.ty[tk]? = some l := ⟨p.ty[tk], by simp⟩
        obtain ⟨PW, hBr, _⟩ := HPG.out wr (HPW.out wr (bel_tr HB3.out HBR.out)).1 (HPW.out wr (bel_tr HB3.out HBR.out)).2
        obtain ⟨g2, o2, c2, nn, u, hv, hnn, hlt2, hg2, hc2, hsl⟩ := lst_at PW.ty hl
        cases hv
        obtain ⟨ua, uc, rfl⟩ := sl_form hsl
        have hgaw : ga < wr.heap.size := Nat.lt_of_lt_of_le hga hBr
        have hg2w : g2 < wr.heap.size := Nat.lt_of_lt_of_le hg2 hBr
        have dd1 : decide (j < al) = true := by simpa using hlt
        have dd2 : decide (tk < p.ty.length) = true := by simpa using htk
        have HNX := hide (show ll + arW p (f.ar.take (j + 1)) = ll + arW p (f.ar.take j) + l.length from by rw [arW_next ht, Int.toNat_natCast, hl, Option.getD_some]; omega)
        have hle : ll + arW p (f.ar.take (j + 1)) ≤ 400000000 := by
          have h1 := HAW'.out (f.ar.take (j + 1))
          have h2 : (f.ar.take (j + 1)).length ≤ 4096 := by rw [List.length_take, HAL3.out]; omega
          omega
        rw [HNX.out] at hle
        clear PW hnn hsl hl ht htk hel
        generalize l.length = len at *
        obtain ⟨base, hba⟩ : ∃ b, ll + arW p (f.ar.take j) = b := ⟨_, rfl⟩
        rw [hba] at hle HNX ⊢
        clear hba
        have hwb : IntKind.i64.wrap ((base : Int) + (len : Int)) = (base : Int) + (len : Int) := by
          rw [show (base : Int) + (len : Int) = ((base + len : Nat) : Int) by omega]
          exact wrap_nat (by omega)
        have dd3 : (j : Int) ≤ 4096 := by omega
        have HAL4 := HAL3.out
        go_upto_region 8 with (fail)
        refine wp_region_held_drew (S := (fun W : World => W = wr.drew ∧ W.cell? ⟨w.heap.size, 0, none⟩ = some (.slice (some ⟨g2, o2, none⟩) p.ty.length d1) ∧ W.cell? ⟨w.heap.size, 1, none⟩ = some (.slice (some ⟨g0, o0, none⟩) p.fu.length d2) ∧ W.cell? ⟨g0, o0 + n * 5 + 3, none⟩ = some (.slice (some ⟨ga, oa, none⟩) al x3) ∧ W.cell? ⟨ga, oa + j, none⟩ = some (.int .i64 (tk : Int)) ∧ W.cell? ⟨g2, o2 + tk, none⟩ = some (.slice ua len uc))) (by kernel_rfl) ⟨rfl, k0, k1, k5, hca, hc2⟩ (fun hHeld1 => ?_)
        refine wpAnyH_take (i := 0) (oi := { dst := some 48, op := Go.Op.move (Go.Operand.tmp 8), type := 3, pos := "law.go:97", after := #[], guard := none }) (v := ?v2) rfl (by kernel_rfl) (by kernel_rfl) (by kernel_rfl) (fun _ _ _ h => h) (Or.inl ⟨by rfl, ?hy2⟩) (by assumption) ?_
        case hy2 => (intro W hSw; (try dsimp only at hSw); go_simp; try with_reducible rfl)
        try simp only [Act.put, List.setIfInBounds_toArray, List.set_cons_zero, List.set_cons_succ]
        refine wpAnyH_take (i := 1) (oi := { dst := some 49, op := Go.Op.fieldAddr 27 (Go.Operand.tmp 2) 0, type := 0, pos := "law.go:97", after := #[], guard := none }) (v := ?v3) rfl (by kernel_rfl) (by kernel_rfl) (by kernel_rfl) (fun _ _ _ h => h) (Or.inl ⟨by rfl, ?hy3⟩) (by assumption) ?_
        case hy3 => (intro W hSw; (try dsimp only at hSw); go_simp; try with_reducible rfl)
        try simp only [Act.put, List.setIfInBounds_toArray, List.set_cons_zero, List.set_cons_succ]
        refine wpAnyH_take (i := 2) (oi := { dst := some 50, op := Go.Op.load 22 (Go.Operand.tmp 49), type := 22, pos := "law.go:97", after := #[{ on := 1, ground := Go.Ground.data }], guard := none }) (v := ?v4) rfl (by kernel_rfl) (by kernel_rfl) (by kernel_rfl) (fun _ _ _ h => h) (Or.inl ⟨by rfl, ?hy4⟩) (by assumption) ?_
        case hy4 => (intro W hSw; (try dsimp only at hSw); go_simp; try with_reducible rfl)
        try simp only [Act.put, List.setIfInBounds_toArray, List.set_cons_zero, List.set_cons_succ]
        refine wpAnyH_take (i := 3) (oi := { dst := some 51, op := Go.Op.fieldAddr 27 (Go.Operand.tmp 2) 1, type := 0, pos := "law.go:97", after := #[], guard := none }) (v := ?v5) rfl (by kernel_rfl) (by kernel_rfl) (by kernel_rfl) (fun _ _ _ h => h) (Or.inl ⟨by rfl, ?hy5⟩) (by assumption) ?_
        case hy5 => (intro W hSw; (try dsimp only at hSw); go_simp; try with_reducible rfl)
        try simp only [Act.put, List.setIfInBounds_toArray, List.set_cons_zero, List.set_cons_succ]
        refine wpAnyH_take (i := 4) (oi := { dst := some 52, op := Go.Op.load 23 (Go.Operand.tmp 51), type := 23, pos := "law.go:97", after := #[{ on := 3, ground := Go.Ground.data }], guard := none }) (v := ?v6) rfl (by kernel_rfl) (by kernel_rfl) (by kernel_rfl) (fun _ _ _ h => h) (Or.inl ⟨by rfl, ?hy6⟩) (by assumption) ?_
        case hy6 => (intro W hSw; (try dsimp only at hSw); go_simp; try with_reducible rfl)
        try simp only [Act.put, List.setIfInBounds_toArray, List.set_cons_zero, List.set_cons_succ]
        refine wpAnyH_take (i := 5) (oi := { dst := some 53, op := Go.Op.move (Go.Operand.tmp 1), type := 3, pos := "law.go:97", after := #[], guard := none }) (v := ?v7) rfl (by kernel_rfl) (by kernel_rfl) (by kernel_rfl) (fun _ _ _ h => h) (Or.inl ⟨by rfl, ?hy7⟩) (by assumption) ?_
        case hy7 => (intro W hSw; (try dsimp only at hSw); go_simp; try with_reducible rfl)
        try simp only [Act.put, List.setIfInBounds_toArray, List.set_cons_zero, List.set_cons_succ]
        refine wpAnyH_take (i := 6) (oi := { dst := some 54, op := Go.Op.indexAddr 23 (Go.Operand.tmp 52) (Go.Operand.tmp 53), type := 0, pos := "law.go:97", after := #[{ on := 4, ground := Go.Ground.data }, { on := 5, ground := Go.Ground.data }], guard := none }) (v := ?v8) rfl (by kernel_rfl) (by kernel_rfl) (by kernel_rfl) (fun _ _ _ h => h) (Or.inl ⟨by rfl, ?hy8⟩) (by assumption) ?_
        case hy8 => (intro W hSw; (try dsimp only at hSw); go_simp; try with_reducible rfl)
        try simp only [Act.put, List.setIfInBounds_toArray, List.set_cons_zero, List.set_cons_succ]
        refine wpAnyH_take (i := 7) (oi := { dst := some 55, op := Go.Op.fieldAddr 48 (Go.Operand.tmp 54) 3, type := 0, pos := "law.go:97", after := #[{ on := 6, ground := Go.Ground.data }], guard := none }) (v := ?v9) rfl (by kernel_rfl) (by kernel_rfl) (by kernel_rfl) (fun _ _ _ h => h) (Or.inl ⟨by rfl, ?hy9⟩) (by assumption) ?_
        case hy9 => (intro W hSw; (try dsimp only at hSw); go_simp; try with_reducible rfl)
        try simp only [Act.put, List.setIfInBounds_toArray, List.set_cons_zero, List.set_cons_succ]
        refine wpAnyH_take (i := 8) (oi := { dst := some 56, op := Go.Op.load 44 (Go.Operand.tmp 55), type := 44, pos := "law.go:97", after := #[{ on := 7, ground := Go.Ground.data }], guard := none }) (v := ?v10) rfl (by kernel_rfl) (by kernel_rfl) (by kernel_rfl) (fun _ _ _ h => h) (Or.inl ⟨by rfl, ?hy10⟩) (by assumption) ?_
        case hy10 => (intro W hSw; (try dsimp only at hSw); go_simp; try with_reducible rfl)
        try simp only [Act.put, List.setIfInBounds_toArray, List.set_cons_zero, List.set_cons_succ]
        refine wpAnyH_take (i := 9) (oi := { dst := some 57, op := Go.Op.move (Go.Operand.tmp 9), type := 3, pos := "law.go:97", after := #[], guard := none }) (v := ?v11) rfl (by kernel_rfl) (by kernel_rfl) (by kernel_rfl) (fun _ _ _ h => h) (Or.inl ⟨by rfl, ?hy11⟩) (by assumption) ?_
        case hy11 => (intro W hSw; (try dsimp only at hSw); go_simp; try with_reducible rfl)
        try simp only [Act.put, List.setIfInBounds_toArray, List.set_cons_zero, List.set_cons_succ]
        refine wpAnyH_take (i := 10) (oi := { dst := some 58, op := Go.Op.indexAddr 44 (Go.Operand.tmp 56) (Go.Operand.tmp 57), type := 0, pos := "law.go:97", after := #[{ on := 8, ground := Go.Ground.data }, { on := 9, ground := Go.Ground.data }], guard := none }) (v := ?v12) rfl (by kernel_rfl) (by kernel_rfl) (by kernel_rfl) (fun _ _ _ h => h) (Or.inl ⟨by rfl, ?hy12⟩) (by assumption) ?_
        case hy12 => (intro W hSw; (try dsimp only at hSw); go_simp; try with_reducible rfl)
        try simp only [Act.put, List.setIfInBounds_toArray, List.set_cons_zero, List.set_cons_succ]
        refine wpAnyH_take (i := 11) (oi := { dst := some 59, op := Go.Op.load 3 (Go.Operand.tmp 58), type := 3, pos := "law.go:97", after := #[{ on := 10, ground := Go.Ground.data }], guard := none }) (v := ?v13) rfl (by kernel_rfl) (by kernel_rfl) (by kernel_rfl) (fun _ _ _ h => h) (Or.inl ⟨by rfl, ?hy13⟩) (by assumption) ?_
        case hy13 => (intro W hSw; (try dsimp only at hSw); go_simp; try with_reducible rfl)
        try simp only [Act.put, List.setIfInBounds_toArray, List.set_cons_zero, List.set_cons_succ]
        refine wpAnyH_take (i := 12) (oi := { dst := some 60, op := Go.Op.indexAddr 22 (Go.Operand.tmp 50) (Go.Operand.tmp 59), type := 0, pos := "law.go:97", after := #[{ on := 2, ground := Go.Ground.data }, { on := 11, ground := Go.Ground.data }], guard := none }) (v := ?v14) rfl (by kernel_rfl) (by kernel_rfl) (by kernel_rfl) (fun _ _ _ h => h) (Or.inl ⟨by rfl, ?hy14⟩) (by assumption) ?_
        case hy14 => (intro W hSw; (try dsimp only at hSw); go_simp; try with_reducible rfl)
        try simp only [Act.put, List.setIfInBounds_toArray, List.set_cons_zero, List.set_cons_succ]
        refine wpAnyH_take (i := 13) (oi := { dst := some 61, op := Go.Op.fieldAddr 53 (Go.Operand.tmp 60) 0, type := 0, pos := "law.go:97", after := #[{ on := 12, ground := Go.Ground.data }], guard := none }) (v := ?v15) rfl (by kernel_rfl) (by kernel_rfl) (by kernel_rfl) (fun _ _ _ h => h) (Or.inl ⟨by rfl, ?hy15⟩) (by assumption) ?_
        case hy15 => (intro W hSw; (try dsimp only at hSw); go_simp; try with_reducible rfl)
        try simp only [Act.put, List.setIfInBounds_toArray, List.set_cons_zero, List.set_cons_succ]
        refine wpAnyH_take (i := 14) (oi := { dst := some 62, op := Go.Op.load 44 (Go.Operand.tmp 61), type := 44, pos := "law.go:97", after := #[{ on := 13, ground := Go.Ground.data }], guard := none }) (v := ?v16) rfl (by kernel_rfl) (by kernel_rfl) (by kernel_rfl) (fun _ _ _ h => h) (Or.inl ⟨by rfl, ?hy16⟩) (by assumption) ?_
        case hy16 => (intro W hSw; (try dsimp only at hSw); go_simp; try with_reducible rfl)
        try simp only [Act.put, List.setIfInBounds_toArray, List.set_cons_zero, List.set_cons_succ]
        refine wpAnyH_take (i := 15) (oi := { dst := some 63, op := Go.Op.call { callee := Go.Callee.builtin Go.Builtin.len, args := #[Go.Operand.tmp 62], argTypes := #[44] }, type := 3, pos := "law.go:97", after := #[{ on := 14, ground := Go.Ground.data }], guard := none }) (v := ?v17) rfl (by kernel_rfl) (by kernel_rfl) (by kernel_rfl) (fun _ _ _ h => h) (Or.inl ⟨by rfl, ?hy17⟩) (by assumption) ?_
        case hy17 => (intro W hSw; (try dsimp only at hSw); go_simp; try with_reducible rfl)
        try simp only [Act.put, List.setIfInBounds_toArray, List.set_cons_zero, List.set_cons_succ]
        refine wpAnyH_take (i := 16) (oi := { dst := some 64, op := Go.Op.binOp Go.BinOp.add 3 (Go.Operand.tmp 48) (Go.Operand.tmp 63) 3, type := 3, pos := "law.go:97", after := #[{ on := 0, ground := Go.Ground.data }, { on := 15, ground := Go.Ground.data }], guard := none }) (v := ?v18) rfl (by kernel_rfl) (by kernel_rfl) (by kernel_rfl) (fun _ _ _ h => h) (Or.inl ⟨by rfl, ?hy18⟩) (by assumption) ?_
        case hy18 => (intro W hSw; (try dsimp only at hSw); go_simp; try with_reducible rfl)
        try simp only [Act.put, List.setIfInBounds_toArray, List.set_cons_zero, List.set_cons_succ]
        refine wpAnyH_take (i := 17) (oi := { dst := some 8, op := Go.Op.assign (Go.Operand.tmp 64), type := 3, pos := "law.go:97", after := #[{ on := 16, ground := Go.Ground.data }, { on := 0, ground := Go.Ground.phase }, { on := 1, ground := Go.Ground.phase }, { on := 2, ground := Go.Ground.phase }, { on := 3, ground := Go.Ground.phase }, { on := 4, ground := Go.Ground.phase }, { on := 5, ground := Go.Ground.phase }, { on := 6, ground := Go.Ground.phase }, { on := 7, ground := Go.Ground.phase }, { on := 8, ground := Go.Ground.phase }, { on := 9, ground := Go.Ground.phase }, { on := 10, ground := Go.Ground.phase }, { on := 11, ground := Go.Ground.phase }, { on := 12, ground := Go.Ground.phase }, { on := 13, ground := Go.Ground.phase }, { on := 14, ground := Go.Ground.phase }, { on := 15, ground := Go.Ground.phase }, { on := 16, ground := Go.Ground.phase }], guard := none }) (v := ?v19) rfl (by kernel_rfl) (by kernel_rfl) (by kernel_rfl) (fun _ _ _ h => h) (Or.inl ⟨by rfl, ?hy19⟩) (by assumption) ?_
        case hy19 => (intro W hSw; (try dsimp only at hSw); go_simp; try with_reducible rfl)
        try simp only [Act.put, List.setIfInBounds_toArray, List.set_cons_zero, List.set_cons_succ]
        refine wpAnyH_done (by kernel_rfl) ?_ _
        go_wp2
        go_roundw
        case rel => exact ⟨j + 1, by first | exact num_next hlt (by omega) | go_num, by rw [HAL3.out]; exact hlt, by rw [HNX.out]; first | rfl | (congr 1; omega), below_drew HBR.out⟩
        case measure => first | exact meas_int hlt (by omega) | (rw [intOf_int, intOf_int]; omega)
      · obtain rfl : al = j := by omega
        have dd1 : decide (al < al) = false := by simp
        have hE : f.ar.take al = f.ar := by rw [← HAL3.out]; exact List.take_length
        rw [hE]
        have haw0 : arW p f.ar ≤ 16777216 := by have := HAW'.out f.ar; rw [HAL3.out] at this; omega
        have HSZ2 := HSZ
        generalize arW p f.ar = aw at HSZ2 haw0 ⊢
        obtain ⟨least, hles⟩ : ∃ x, ll + aw = x := ⟨_, rfl⟩
        rw [hles]
        have HLE := hide hles
        obtain ⟨P5, hB5, hT5⟩ := HPG.out wr (HPW.out wr (bel_tr HB3.out HBR.out)).1 (HPW.out wr (bel_tr HB3.out HBR.out)).2
        have HS1 := hide (size_any P5 hB5 hT5 HB0.out (n : Int))
        clear P5 hB5 hT5 R3 hE
        go_wp2_with fail
        refine HS1.out.mono ?_
        intro e w5 hs
        obtain ⟨rfl, hb5⟩ := szO_of hs HCF.out.1 HCF.out.2.1 HCF.out.2.2
        have HB5 := hide (bel_tr (bel_tr HB3.out HBR.out) hb5)
        have HB25 := hide (bel_tr (bel_tr HB23.out HBR.out) hb5)
        obtain ⟨tot, htot⟩ : ∃ x, szP p f F = x := ⟨_, rfl⟩
        have HTOT := hide htot
        rw [htot]
        have hsum : tot = least + F.mo := by rw [← htot, HSZ2.out, ← HLE.out]; omega
        have HSUM := hide hsum
        have hto4 : tot ≤ 400000000 := by omega
        have hle4 : least ≤ 400000000 := by omega
        clear hs hb5 k0 k1 k2 k3 k4 k5 HS1 hles htot hsum
        obtain ⟨k0, k1, k2, k3⟩ := HBX.out w5 HB5.out
        obtain ⟨k4, _, R1, _⟩ := HCE.out w5 (HPW.out w5 HB5.out).1
        have hl5 : w.heap.size < w5.heap.size := Nat.lt_of_lt_of_le hl0 HB5.out.size
        have hg5 : g0 < w5.heap.size := by omega
        have HR1 := hide R1
        clear R1
        by_cases h1000 : 1000 ≤ ll
        · have s1 : decide ((1000 : Int) ≤ (ll : Int)) = true := by simp; omega
          have t1 : decide (1000 ≤ ll) = true := by simpa using h1000
          go_wp2_with fail
          go_ret
          exact ⟨rfl, bel_tr HB1.out HB5.out⟩
        · have s1 : decide ((1000 : Int) ≤ (ll : Int)) = false := by simp; omega
          have t1 : decide (1000 ≤ ll) = false := by simpa using h1000
          obtain ⟨L, hL⟩ : ∃ L, f.co.length = L := ⟨_, rfl⟩
          rw [hL] at HS HAL hnc ⊢
          clear hL
          go_wp2_with fail
          go_loopw [12] (fun a wr' => SzQ L w5 a wr') (fun a _ => L - (intOf a).toNat)
          case atStart => exact ⟨0, rfl, Nat.zero_le _, rfl⟩
          case round =>
            obtain ⟨i, rfl, hi, hw9⟩ := hrel
            rw [hw9]
            clear hw9
            by_cases hil : i < L
            · obtain ⟨o, ho⟩ : ∃ o, F.ah[i]? = some o := ⟨F.ah[i]'(by rw [HAL.out]; exact hil), by simp⟩
              have hx : (F.ah.map fun o => o.getD [])[i]? = some (o.getD []) := by rw [List.getElem?_map, ho]; rfl
              obtain ⟨g2, o2, c2, nn, u, hv, hnn, hnl2, hg2, hc2, hsl⟩ := lst_at (lsts_keep (Nat.le_refl _) (fun j hj => HB25.out.block j hj) HS.out) hx
              cases hv
              obtain ⟨ua, uc, rfl⟩ := sl_form hsl
              rw [Nat.zero_add] at hc2
              have hlen := HSM.out i o ho
              have hgs : sb < w5.heap.size := Nat.lt_of_lt_of_le hg2 HB25.out.size
              clear hsl hx ho hnn hnl2
              generalize (o.getD []).length = len at *
              have dd2 : decide (i < L) = true := by simpa using hil
              have dd3 : (i : Int) ≤ 65536 := by omega
              have hwa : IntKind.i64.wrap ((least : Int) + (len : Int)) = (least : Int) + (len : Int) := by
                rw [show (least : Int) + (len : Int) = ((least + len : Nat) : Int) by omega]
                exact wrap_nat (by omega)
              have dd4 : decide ((tot : Int) < (least : Int) + (len : Int)) = false := by have := HSUM.out; simp; omega
              go_wp2
              go_roundw
              case rel => exact ⟨i + 1, by first | exact num_next hil (by omega) | go_num, hil, rfl⟩
              case measure => first | exact meas_int hil (by omega) | (rw [intOf_int, intOf_int]; omega)
            · obtain rfl : L = i := by omega
              have dd2 : decide (L < L) = false := by simp
              have hfn : p.fu[n]? = some f := HCF.out.2.1
              have hlo : f.lo.length ≤ 1000 := by rw [HLL.out]; omega
              go_upto_region 18 with (fail)
              clear k0 k1 k2 k3 k4 s1 t1 dd2
              generalize hW4 : w5.alloc (.cells #[.slice a1 p.ty.length d1, .slice (some ⟨g0, o0, none⟩) p.fu.length d2, .slice a3 p.ta.length d3, .slice a4 p.st.length d4] 27) = W4
              have e4 : W4.heap[w5.heap.size]? = some (.cells #[.slice a1 p.ty.length d1, .slice (some ⟨g0, o0, none⟩) p.fu.length d2, .slice a3 p.ta.length d3, .slice a4 p.st.length d4] 27 (0, 0)) := by rw [← hW4]; exact heap_new _ _ rfl
              have HB4 := hide (show Below W1.heap.size W1 W4 by rw [← hW4]; exact HB5.out.alloc HB5.out.size _)
              have HE4 := hide e4
              have hW1b : W1.heap.size ≤ w5.heap.size := HB5.out.size
              have h4s : w5.heap.size < W4.heap.size := lt_of_block e4
              clear hW4 e4
              generalize w5.heap.size = b at *
              obtain ⟨k0, k1, k2, k3⟩ := HBX.out W4 HB4.out
              have P4 := (HPG.out W4 (HPW.out W4 HB4.out).1 (HPW.out W4 HB4.out).2).1
              have c4 : Below W4.heap.size W4 (W4.alloc (.cells #[] 48)) := (Below.refl _ _).alloc (Nat.le_refl _) _
              have R5 : SlAt 5 (FdP B) B (W4.alloc (.cells #[] 48)) (.slice (some ⟨g0, o0, none⟩) p.fu.length d2) p.fu := P4.fu.keep (Nat.le_refl _) (fun j hj => c4.block j (by omega)) (fun cs x h => fd_keep _ _ _ cs x (Nat.le_refl _) (fun j hj => c4.block j (by omega)) h)
              obtain ⟨i0, hi0, hz0, hz1, hz2⟩ := info_parts info_Fn
              obtain ⟨v5, W6, r1, r2, r3, _, r5⟩ := app_first (ty := 23) Tryd.underlying23 hi0 hz0 hz1 hz2 rfl (by decide) R5 (fd_len _) (fd_one _) (by omega) (by decide) (heap_new W4 (.cells #[] 48) rfl)
              obtain ⟨g, cap, cur, rfl, hge, hbk, hc1, hc2, hA⟩ := r2.arr (by omega)
              have b6 : Below W4.heap.size W4 W6 := c4.trans r3
              have e8 := (b6.block _ h4s).trans HE4.out
              have k8 : W6.cell? ⟨b, 1, none⟩ = some (.slice (some ⟨g0, o0, none⟩) p.fu.length d2) := cell_of e8 rfl
              have z8 : W6.frozen? ⟨b, 1, none⟩ = false := by simp [World.frozen?, e8]
              have HQ1 := hide b6
              have hlx : w.heap.size < W4.heap.size := by omega
              have HA := hide hA
              have HBK := hide hbk
              clear P4 c4 R5 i0 hi0 hz0 hz1 hz2 r2 r3 r5 hA hbk b6
              go_upto_region 19 with (at_builtin; (refine wpList_append_eq rfl _ _ 23 23 rfl rfl rfl r1 ?_; clear r1))
              obtain ⟨m1, m2, m3, m4, m5, m6⟩ := box_step (o := 1) (u := .slice (some ⟨g, 0, none⟩) p.fu.length cap) HQ1.out HE4.out
              clear k8 z8 e8 k0 k1 k2 k3
              generalize hWn : W6.setCell ⟨b, 1, none⟩ (.slice (some ⟨g, 0, none⟩) p.fu.length cap) = Wq at *
              have hbg : b < g := by omega
              have hgq : g < Wq.heap.size := by rw [m3]; exact lt_of_block HBK.out
              have HBQ := hide (show Below W1.heap.size W1 Wq from HB4.out.trans ⟨m6.1, m6.2.1, m6.2.2, m2, fun j hj => m5 j (by omega) (by omega)⟩)
              have HEQ := hide m1
              have HKQ := hide ((m4 g (by omega)).trans HBK.out)
              have hBb : B ≤ b := by omega
              have HFB := hide (show ∀ j, j < B → (W4.alloc (.cells #[] 48)).heap[j]? = w.heap[j]? from fun j hj => (heap_alloc_old _ _ (by omega)).trans ((HPW.out W4 HB4.out).1 j hj))
              generalize W4.alloc (.cells #[] 48) = W5 at *
              have hwb : w.heap.size < b := by omega
              clear m1 m2 m3 m4 m5 m6 hWn HQ1 HE4 HBK HB4 hge h4s hlx
              have HKS := hide (show ∀ W : World, (∀ j, j < g → W.heap[j]? = Wq.heap[j]?) → (fun W : World => W.cell? ⟨b, 1, none⟩ = some (.slice (some ⟨g, 0, none⟩) p.fu.length cap) ∧ W.cell? ⟨w.heap.size, 1, none⟩ = some (.slice (some ⟨g0, o0, none⟩) p.fu.length d2) ∧ W.cell? ⟨g0, o0 + n * 5 + 1, none⟩ = some (.slice b1 ll x1)) W from fun W h => by
                obtain ⟨_, y1, _, _⟩ := HBX.out Wq HBQ.out
                obtain ⟨y4, _⟩ := HCE.out Wq (HPW.out Wq HBQ.out).1
                exact ⟨(World.cell?_of_block (a := ⟨b, 1, none⟩) (h b (by omega))).trans (cell_of HEQ.out rfl), (World.cell?_of_block (a := ⟨w.heap.size, 1, none⟩) (h w.heap.size (by omega))).trans y1, (World.cell?_of_block (a := ⟨g0, o0 + n * 5 + 1, none⟩) (h g0 (by omega))).trans y4⟩)
              have HKB := hide (show ∀ W : World, Below Wq.heap.size Wq W → (fun W : World => W.cell? ⟨b, 1, none⟩ = some (.slice (some ⟨g, 0, none⟩) p.fu.length cap) ∧ W.cell? ⟨w.heap.size, 1, none⟩ = some (.slice (some ⟨g0, o0, none⟩) p.fu.length d2) ∧ W.cell? ⟨g0, o0 + n * 5 + 1, none⟩ = some (.slice b1 ll x1)) W from fun W h => HKS.out W (fun j hj => h.block j (by omega)))
              have hRL := hide (HCE.out Wq (HPW.out Wq HBQ.out).1).2.2.1
              have hBq : B ≤ Wq.heap.size := by omega
              have hkc : n * 5 + 1 < cur.size := by
                obtain ⟨cs, c1, c2⟩ := HA.out n f hfn
                obtain ⟨v1, v2, v3, v4, rfl, _⟩ := c1
                have h4 := c2 1 v1 rfl
                rcases Nat.lt_or_ge (n * 5 + 1) cur.size with h | h
                · exact h
                · rw [Array.getElem?_eq_none h] at h4; cases h4
              obtain ⟨u8, hu8⟩ : ∃ u, cur[n * 5 + 1]? = some u := ⟨cur[n * 5 + 1], by simp⟩
              have HU8 := hide hu8
              clear hu8
              go_cut [] from 106 to 120 (fun wc => Hid (∃ v8, Di (b + 1) g (n * 5 + 1) cur Wq wc v8 (f.lo ++ [0])))
              case first =>
                refine wp_region_held_drew (S := (fun W : World => W.cell? ⟨b, 1, none⟩ = some (.slice (some ⟨g, 0, none⟩) p.fu.length cap) ∧ W.cell? ⟨w.heap.size, 1, none⟩ = some (.slice (some ⟨g0, o0, none⟩) p.fu.length d2) ∧ W.cell? ⟨g0, o0 + n * 5 + 1, none⟩ = some (.slice b1 ll x1))) (by kernel_rfl) (HKB.out _ (below_drew (Below.refl _ _))) (fun hHeld20 => ?_)
                have HR := hide (Lg.begin' (Wb := Wq) (l := f.lo))
                generalize Wq.drew = X0 at *
                refine wpAnyH_take (i := 0) (oi := { dst := some 106, op := Go.Op.fieldAddr 27 (Go.Operand.tmp 13) 1, type := 0, pos := "law.go:110", after := #[], guard := none }) (v := ?v21) rfl (by kernel_rfl) (by kernel_rfl) (by kernel_rfl) (fun _ _ _ h => h) (Or.inl ⟨by rfl, ?hy21⟩) (by assumption) ?_
                case hy21 => (intro W hSw; (try dsimp only at hSw); go_simp; try with_reducible rfl)
                try simp only [Act.put, List.setIfInBounds_toArray, List.set_cons_zero, List.set_cons_succ]
                refine wpAnyH_take (i := 1) (oi := { dst := some 107, op := Go.Op.load 23 (Go.Operand.tmp 106), type := 23, pos := "law.go:110", after := #[{ on := 0, ground := Go.Ground.data }], guard := none }) (v := ?v22) rfl (by kernel_rfl) (by kernel_rfl) (by kernel_rfl) (fun _ _ _ h => h) (Or.inl ⟨by rfl, ?hy22⟩) (by assumption) ?_
                case hy22 => (intro W hSw; (try dsimp only at hSw); go_simp; try with_reducible rfl)
                try simp only [Act.put, List.setIfInBounds_toArray, List.set_cons_zero, List.set_cons_succ]
                refine wpAnyH_take (i := 2) (oi := { dst := some 108, op := Go.Op.move (Go.Operand.tmp 1), type := 3, pos := "law.go:110", after := #[], guard := none }) (v := ?v23) rfl (by kernel_rfl) (by kernel_rfl) (by kernel_rfl) (fun _ _ _ h => h) (Or.inl ⟨by rfl, ?hy23⟩) (by assumption) ?_
                case hy23 => (intro W hSw; (try dsimp only at hSw); go_simp; try with_reducible rfl)
                try simp only [Act.put, List.setIfInBounds_toArray, List.set_cons_zero, List.set_cons_succ]
                refine wpAnyH_take (i := 4) (oi := { dst := some 110, op := Go.Op.fieldAddr 27 (Go.Operand.tmp 2) 1, type := 0, pos := "law.go:110", after := #[], guard := none }) (v := ?v24) rfl (by kernel_rfl) (by kernel_rfl) (by kernel_rfl) (fun _ _ _ h => h) (Or.inl ⟨by rfl, ?hy24⟩) (by assumption) ?_
                case hy24 => (intro W hSw; (try dsimp only at hSw); go_simp; try with_reducible rfl)
                try simp only [Act.put, List.setIfInBounds_toArray, List.set_cons_zero, List.set_cons_succ]
                refine wpAnyH_take (i := 5) (oi := { dst := some 111, op := Go.Op.load 23 (Go.Operand.tmp 110), type := 23, pos := "law.go:110", after := #[{ on := 4, ground := Go.Ground.data }], guard := none }) (v := ?v25) rfl (by kernel_rfl) (by kernel_rfl) (by kernel_rfl) (fun _ _ _ h => h) (Or.inl ⟨by rfl, ?hy25⟩) (by assumption) ?_
                case hy25 => (intro W hSw; (try dsimp only at hSw); go_simp; try with_reducible rfl)
                try simp only [Act.put, List.setIfInBounds_toArray, List.set_cons_zero, List.set_cons_succ]
                refine wpAnyH_take (i := 6) (oi := { dst := some 112, op := Go.Op.move (Go.Operand.tmp 1), type := 3, pos := "law.go:110", after := #[], guard := none }) (v := ?v26) rfl (by kernel_rfl) (by kernel_rfl) (by kernel_rfl) (fun _ _ _ h => h) (Or.inl ⟨by rfl, ?hy26⟩) (by assumption) ?_
                case hy26 => (intro W hSw; (try dsimp only at hSw); go_simp; try with_reducible rfl)
                try simp only [Act.put, List.setIfInBounds_toArray, List.set_cons_zero, List.set_cons_succ]
                refine wpAnyH_take (i := 7) (oi := { dst := some 113, op := Go.Op.indexAddr 23 (Go.Operand.tmp 111) (Go.Operand.tmp 112), type := 0, pos := "law.go:110", after := #[{ on := 5, ground := Go.Ground.data }, { on := 6, ground := Go.Ground.data }], guard := none }) (v := ?v27) rfl (by kernel_rfl) (by kernel_rfl) (by kernel_rfl) (fun _ _ _ h => h) (Or.inl ⟨by rfl, ?hy27⟩) (by assumption) ?_
                case hy27 => (intro W hSw; (try dsimp only at hSw); go_simp; try with_reducible rfl)
                try simp only [Act.put, List.setIfInBounds_toArray, List.set_cons_zero, List.set_cons_succ]
                refine wpAnyH_take (i := 8) (oi := { dst := some 114, op := Go.Op.fieldAddr 48 (Go.Operand.tmp 113) 1, type := 0, pos := "law.go:110", after := #[{ on := 7, ground := Go.Ground.data }], guard := none }) (v := ?v28) rfl (by kernel_rfl) (by kernel_rfl) (by kernel_rfl) (fun _ _ _ h => h) (Or.inl ⟨by rfl, ?hy28⟩) (by assumption) ?_
                case hy28 => (intro W hSw; (try dsimp only at hSw); go_simp; try with_reducible rfl)
                try simp only [Act.put, List.setIfInBounds_toArray, List.set_cons_zero, List.set_cons_succ]
                refine wpAnyH_take (i := 9) (oi := { dst := some 115, op := Go.Op.load 44 (Go.Operand.tmp 114), type := 44, pos := "law.go:110", after := #[{ on := 8, ground := Go.Ground.data }], guard := none }) (v := ?v29) rfl (by kernel_rfl) (by kernel_rfl) (by kernel_rfl) (fun _ _ _ h => h) (Or.inl ⟨by rfl, ?hy29⟩) (by assumption) ?_
                case hy29 => (intro W hSw; (try dsimp only at hSw); go_simp; try with_reducible rfl)
                try simp only [Act.put, List.setIfInBounds_toArray, List.set_cons_zero, List.set_cons_succ]
                refine wpAnyH_ready (rs := [3, 11]) (by kernel_rfl) (by simp) ?_
                refine AllReadyH.cons (o := { dst := some 109, op := Go.Op.buildSlice 44 0 #[], type := 44, pos := "law.go:110", after := #[], guard := none }) rfl (fun K hK => ?_) (AllReadyH.cons (o := { dst := some 117, op := Go.Op.buildSlice 44 1 #[(0, Go.Operand.const (Go.Value.int Go.IntKind.i64 0))], type := 44, pos := "law.go:110", after := #[], guard := none }) rfl (fun K hK => ?_) AllReadyH.nil)
                · skip
                  have HR1 := hide HR.out.emp
                  go_simp
                  go_wp2_with fail
                  refine hK.out _ _ (HKB.out _ HR1.out.bel) (fun hHeld30 => ?_)
                  clear hK K
                  try simp only [Act.put, List.setIfInBounds_toArray, List.set_cons_zero, List.set_cons_succ]
                  clear HR
                  generalize X0.alloc (.cells #[] 3) = X1 at *
                  have HR := HR1
                  clear HR1
                  refine wpAnyH_ready (rs := [10, 11]) (by kernel_rfl) (by simp) ?_
                  refine AllReadyH.cons (o := { dst := some 116, op := Go.Op.call { callee := Go.Callee.builtin Go.Builtin.append, args := #[Go.Operand.tmp 109, Go.Operand.tmp 115], argTypes := #[44, 44] }, type := 44, pos := "law.go:110", after := #[{ on := 3, ground := Go.Ground.data }, { on := 9, ground := Go.Ground.data }], guard := none }) rfl (fun K hK => ?_) (AllReadyH.cons (o := { dst := some 117, op := Go.Op.buildSlice 44 1 #[(0, Go.Operand.const (Go.Value.int Go.IntKind.i64 0))], type := 44, pos := "law.go:110", after := #[], guard := none }) rfl (fun K hK => ?_) AllReadyH.nil)
                  · skip
                    obtain ⟨v5, X2, r1, R5⟩ := HR.out.app hRL.out hlo hBq
                    refine step_append_eq (by rfl) _ _ 44 44 (by rfl) (by rfl) (by rfl) r1 ?_
                    refine hK.out _ _ (HKB.out _ R5.bel) (fun hHeld31 => ?_)
                    clear hK K
                    try simp only [Act.put, List.setIfInBounds_toArray, List.set_cons_zero, List.set_cons_succ]
                    clear r1 HR
                    have HR := hide R5
                    clear R5
                    refine wpAnyH_ready (rs := [11]) (by kernel_rfl) (by simp) ?_
                    refine AllReadyH.cons (o := { dst := some 117, op := Go.Op.buildSlice 44 1 #[(0, Go.Operand.const (Go.Value.int Go.IntKind.i64 0))], type := 44, pos := "law.go:110", after := #[], guard := none }) rfl (fun K hK => ?_) AllReadyH.nil
                    have HR1 := hide HR.out.one
                    go_simp
                    go_wp2_with fail
                    refine hK.out _ _ (HKB.out _ HR1.out.bel) (fun hHeld32 => ?_)
                    clear hK K
                    try simp only [Act.put, List.setIfInBounds_toArray, List.set_cons_zero, List.set_cons_succ]
                    clear HR
                    generalize X2.alloc (.cells #[.int .i64 0] 3) = X3 at *
                    have HR := HR1
                    clear HR1
                    obtain ⟨a8, c8, W8, r1, q1, D⟩ := HR.out.fin (k := n * 5 + 1) (bE := b + 1) HKQ.out (by omega) hlo
                    have e8 := (q1.block _ hgq).trans HKQ.out
                    have k8 : W8.cell? ⟨g, n * 5 + 1, none⟩ = some u8 := cell_of e8 HU8.out
                    have z8 : W8.frozen? ⟨g, n * 5 + 1, none⟩ = false := by simp [World.frozen?, e8]
                    have HD := hide D
                    have HQ1 := hide q1
                    have HDS := hide (show ∀ j, j < g → (W8.setCell ⟨g, n * 5 + 1, none⟩ (.slice a8 (f.lo.length + 1) c8)).heap[j]? = W8.heap[j]? from fun j hj => by simp [World.setCell, Array.getElem?_modify, Nat.ne_of_gt hj])
                    clear e8 D q1 HR
                    refine wpAnyH_ready (rs := [12]) (by kernel_rfl) (by simp) ?_
                    refine AllReadyH.cons (o := { dst := some 118, op := Go.Op.call { callee := Go.Callee.builtin Go.Builtin.append, args := #[Go.Operand.tmp 116, Go.Operand.tmp 117], argTypes := #[44, 44] }, type := 44, pos := "law.go:110", after := #[{ on := 10, ground := Go.Ground.data }, { on := 11, ground := Go.Ground.data }, { on := 10, ground := Go.Ground.chain }], guard := none }) rfl (fun K hK => ?_) AllReadyH.nil
                    refine step_append_eq (by rfl) _ _ 44 44 (by rfl) (by rfl) (by rfl) r1 ?_
                    refine hK.out _ _ (HKB.out _ HQ1.out) (fun hHeld33 => ?_)
                    clear hK K
                    try simp only [Act.put, List.setIfInBounds_toArray, List.set_cons_zero, List.set_cons_succ]
                    clear r1
                    refine wpAnyH_ready (rs := [13]) (by kernel_rfl) (by simp) ?_
                    refine AllReadyH.cons (o := { dst := some 119, op := Go.Op.indexAddr 23 (Go.Operand.tmp 107) (Go.Operand.tmp 108), type := 0, pos := "law.go:110", after := #[{ on := 1, ground := Go.Ground.data }, { on := 2, ground := Go.Ground.data }, { on := 0, ground := Go.Ground.phase }, { on := 1, ground := Go.Ground.phase }, { on := 2, ground := Go.Ground.phase }, { on := 3, ground := Go.Ground.phase }, { on := 4, ground := Go.Ground.phase }, { on := 5, ground := Go.Ground.phase }, { on := 6, ground := Go.Ground.phase }, { on := 7, ground := Go.Ground.phase }, { on := 8, ground := Go.Ground.phase }, { on := 9, ground := Go.Ground.phase }, { on := 10, ground := Go.Ground.phase }, { on := 11, ground := Go.Ground.phase }, { on := 12, ground := Go.Ground.phase }], guard := none }) rfl (fun K hK => ?_) AllReadyH.nil
                    go_simp
                    go_wp2_with fail
                    refine hK.out _ _ (HKB.out _ HQ1.out) (fun hHeld34 => ?_)
                    clear hK K
                    try simp only [Act.put, List.setIfInBounds_toArray, List.set_cons_zero, List.set_cons_succ]
                    refine wpAnyH_ready (rs := [14]) (by kernel_rfl) (by simp) ?_
                    refine AllReadyH.cons (o := { dst := some 120, op := Go.Op.fieldAddr 48 (Go.Operand.tmp 119) 1, type := 0, pos := "law.go:110", after := #[{ on := 13, ground := Go.Ground.data }, { on := 0, ground := Go.Ground.phase }, { on := 1, ground := Go.Ground.phase }, { on := 2, ground := Go.Ground.phase }, { on := 3, ground := Go.Ground.phase }, { on := 4, ground := Go.Ground.phase }, { on := 5, ground := Go.Ground.phase }, { on := 6, ground := Go.Ground.phase }, { on := 7, ground := Go.Ground.phase }, { on := 8, ground := Go.Ground.phase }, { on := 9, ground := Go.Ground.phase }, { on := 10, ground := Go.Ground.phase }, { on := 11, ground := Go.Ground.phase }, { on := 12, ground := Go.Ground.phase }], guard := none }) rfl (fun K hK => ?_) AllReadyH.nil
                    go_simp
                    go_wp2_with fail
                    refine hK.out _ _ (HKB.out _ HQ1.out) (fun hHeld35 => ?_)
                    clear hK K
                    try simp only [Act.put, List.setIfInBounds_toArray, List.set_cons_zero, List.set_cons_succ]
                    refine wpAnyH_ready (rs := [15]) (by kernel_rfl) (by simp) ?_
                    refine AllReadyH.cons (o := { dst := none, op := Go.Op.store 44 (Go.Operand.tmp 120) (Go.Operand.tmp 118), type := 0, pos := "law.go:110", after := #[{ on := 14, ground := Go.Ground.data }, { on := 12, ground := Go.Ground.data }, { on := 12, ground := Go.Ground.chain }, { on := 0, ground := Go.Ground.phase }, { on := 1, ground := Go.Ground.phase }, { on := 2, ground := Go.Ground.phase }, { on := 3, ground := Go.Ground.phase }, { on := 4, ground := Go.Ground.phase }, { on := 5, ground := Go.Ground.phase }, { on := 6, ground := Go.Ground.phase }, { on := 7, ground := Go.Ground.phase }, { on := 8, ground := Go.Ground.phase }, { on := 9, ground := Go.Ground.phase }, { on := 10, ground := Go.Ground.phase }, { on := 11, ground := Go.Ground.phase }, { on := 12, ground := Go.Ground.phase }], guard := none }) rfl (fun K hK => ?_) AllReadyH.nil
                    go_simp
                    go_wp2_with fail
                    refine hK.out _ _ (HKS.out _ (fun j hj => (HDS.out j hj).trans (HQ1.out.block j (by omega)))) (fun hHeld36 => ?_)
                    clear hK K
                    try simp only [Act.put, List.setIfInBounds_toArray, List.set_cons_zero, List.set_cons_succ]
                    refine wpAnyH_done (by kernel_rfl) ?_ _
                    go_wp2_with fail
                    go_meet
                    exact hide ⟨_, HD.out⟩
                  · skip
                    have HR1 := hide HR.out.one
                    go_simp
                    go_wp2_with fail
                    refine hK.out _ _ (HKB.out _ HR1.out.bel) (fun hHeld37 => ?_)
                    clear hK K
                    try simp only [Act.put, List.setIfInBounds_toArray, List.set_cons_zero, List.set_cons_succ]
                    clear HR
                    generalize X1.alloc (.cells #[.int .i64 0] 3) = X2 at *
                    have HR := HR1
                    clear HR1
                    obtain ⟨v5, X3, r1, R5⟩ := HR.out.app hRL.out hlo hBq
                    refine wpAnyH_ready (rs := [10]) (by kernel_rfl) (by simp) ?_
                    refine AllReadyH.cons (o := { dst := some 116, op := Go.Op.call { callee := Go.Callee.builtin Go.Builtin.append, args := #[Go.Operand.tmp 109, Go.Operand.tmp 115], argTypes := #[44, 44] }, type := 44, pos := "law.go:110", after := #[{ on := 3, ground := Go.Ground.data }, { on := 9, ground := Go.Ground.data }], guard := none }) rfl (fun K hK => ?_) AllReadyH.nil
                    refine step_append_eq (by rfl) _ _ 44 44 (by rfl) (by rfl) (by rfl) r1 ?_
                    refine hK.out _ _ (HKB.out _ R5.bel) (fun hHeld38 => ?_)
                    clear hK K
                    try simp only [Act.put, List.setIfInBounds_toArray, List.set_cons_zero, List.set_cons_succ]
                    clear r1 HR
                    have HR := hide R5
                    clear R5
                    obtain ⟨a8, c8, W8, r1, q1, D⟩ := HR.out.fin (k := n * 5 + 1) (bE := b + 1) HKQ.out (by omega) hlo
                    have e8 := (q1.block _ hgq).trans HKQ.out
                    have k8 : W8.cell? ⟨g, n * 5 + 1, none⟩ = some u8 := cell_of e8 HU8.out
                    have z8 : W8.frozen? ⟨g, n * 5 + 1, none⟩ = false := by simp [World.frozen?, e8]
                    have HD := hide D
                    have HQ1 := hide q1
                    have HDS := hide (show ∀ j, j < g → (W8.setCell ⟨g, n * 5 + 1, none⟩ (.slice a8 (f.lo.length + 1) c8)).heap[j]? = W8.heap[j]? from fun j hj => by simp [World.setCell, Array.getElem?_modify, Nat.ne_of_gt hj])
                    clear e8 D q1 HR
                    refine wpAnyH_ready (rs := [12]) (by kernel_rfl) (by simp) ?_
                    refine AllReadyH.cons (o := { dst := some 118, op := Go.Op.call { callee := Go.Callee.builtin Go.Builtin.append, args := #[Go.Operand.tmp 116, Go.Operand.tmp 117], argTypes := #[44, 44] }, type := 44, pos := "law.go:110", after := #[{ on := 10, ground := Go.Ground.data }, { on := 11, ground := Go.Ground.data }, { on := 10, ground := Go.Ground.chain }], guard := none }) rfl (fun K hK => ?_) AllReadyH.nil
                    refine step_append_eq (by rfl) _ _ 44 44 (by rfl) (by rfl) (by rfl) r1 ?_
                    refine hK.out _ _ (HKB.out _ HQ1.out) (fun hHeld39 => ?_)
                    clear hK K
                    try simp only [Act.put, List.setIfInBounds_toArray, List.set_cons_zero, List.set_cons_succ]
                    clear r1
                    refine wpAnyH_ready (rs := [13]) (by kernel_rfl) (by simp) ?_
                    refine AllReadyH.cons (o := { dst := some 119, op := Go.Op.indexAddr 23 (Go.Operand.tmp 107) (Go.Operand.tmp 108), type := 0, pos := "law.go:110", after := #[{ on := 1, ground := Go.Ground.data }, { on := 2, ground := Go.Ground.data }, { on := 0, ground := Go.Ground.phase }, { on := 1, ground := Go.Ground.phase }, { on := 2, ground := Go.Ground.phase }, { on := 3, ground := Go.Ground.phase }, { on := 4, ground := Go.Ground.phase }, { on := 5, ground := Go.Ground.phase }, { on := 6, ground := Go.Ground.phase }, { on := 7, ground := Go.Ground.phase }, { on := 8, ground := Go.Ground.phase }, { on := 9, ground := Go.Ground.phase }, { on := 10, ground := Go.Ground.phase }, { on := 11, ground := Go.Ground.phase }, { on := 12, ground := Go.Ground.phase }], guard := none }) rfl (fun K hK => ?_) AllReadyH.nil
                    go_simp
                    go_wp2_with fail
                    refine hK.out _ _ (HKB.out _ HQ1.out) (fun hHeld40 => ?_)
                    clear hK K
                    try simp only [Act.put, List.setIfInBounds_toArray, List.set_cons_zero, List.set_cons_succ]
                    refine wpAnyH_ready (rs := [14]) (by kernel_rfl) (by simp) ?_
                    refine AllReadyH.cons (o := { dst := some 120, op := Go.Op.fieldAddr 48 (Go.Operand.tmp 119) 1, type := 0, pos := "law.go:110", after := #[{ on := 13, ground := Go.Ground.data }, { on := 0, ground := Go.Ground.phase }, { on := 1, ground := Go.Ground.phase }, { on := 2, ground := Go.Ground.phase }, { on := 3, ground := Go.Ground.phase }, { on := 4, ground := Go.Ground.phase }, { on := 5, ground := Go.Ground.phase }, { on := 6, ground := Go.Ground.phase }, { on := 7, ground := Go.Ground.phase }, { on := 8, ground := Go.Ground.phase }, { on := 9, ground := Go.Ground.phase }, { on := 10, ground := Go.Ground.phase }, { on := 11, ground := Go.Ground.phase }, { on := 12, ground := Go.Ground.phase }], guard := none }) rfl (fun K hK => ?_) AllReadyH.nil
                    go_simp
                    go_wp2_with fail
                    refine hK.out _ _ (HKB.out _ HQ1.out) (fun hHeld41 => ?_)
                    clear hK K
                    try simp only [Act.put, List.setIfInBounds_toArray, List.set_cons_zero, List.set_cons_succ]
                    refine wpAnyH_ready (rs := [15]) (by kernel_rfl) (by simp) ?_
                    refine AllReadyH.cons (o := { dst := none, op := Go.Op.store 44 (Go.Operand.tmp 120) (Go.Operand.tmp 118), type := 0, pos := "law.go:110", after := #[{ on := 14, ground := Go.Ground.data }, { on := 12, ground := Go.Ground.data }, { on := 12, ground := Go.Ground.chain }, { on := 0, ground := Go.Ground.phase }, { on := 1, ground := Go.Ground.phase }, { on := 2, ground := Go.Ground.phase }, { on := 3, ground := Go.Ground.phase }, { on := 4, ground := Go.Ground.phase }, { on := 5, ground := Go.Ground.phase }, { on := 6, ground := Go.Ground.phase }, { on := 7, ground := Go.Ground.phase }, { on := 8, ground := Go.Ground.phase }, { on := 9, ground := Go.Ground.phase }, { on := 10, ground := Go.Ground.phase }, { on := 11, ground := Go.Ground.phase }, { on := 12, ground := Go.Ground.phase }], guard := none }) rfl (fun K hK => ?_) AllReadyH.nil
                    go_simp
                    go_wp2_with fail
                    refine hK.out _ _ (HKS.out _ (fun j hj => (HDS.out j hj).trans (HQ1.out.block j (by omega)))) (fun hHeld42 => ?_)
                    clear hK K
                    try simp only [Act.put, List.setIfInBounds_toArray, List.set_cons_zero, List.set_cons_succ]
                    refine wpAnyH_done (by kernel_rfl) ?_ _
                    go_wp2_with fail
                    go_meet
                    exact hide ⟨_, HD.out⟩
                · skip
                  have HR1 := hide HR.out.one
                  go_simp
                  go_wp2_with fail
                  refine hK.out _ _ (HKB.out _ HR1.out.bel) (fun hHeld43 => ?_)
                  clear hK K
                  try simp only [Act.put, List.setIfInBounds_toArray, List.set_cons_zero, List.set_cons_succ]
                  clear HR
                  generalize X0.alloc (.cells #[.int .i64 0] 3) = X1 at *
                  have HR := HR1
                  clear HR1
                  refine wpAnyH_ready (rs := [3]) (by kernel_rfl) (by simp) ?_
                  refine AllReadyH.cons (o := { dst := some 109, op := Go.Op.buildSlice 44 0 #[], type := 44, pos := "law.go:110", after := #[], guard := none }) rfl (fun K hK => ?_) AllReadyH.nil
                  have HR1 := hide HR.out.emp
                  go_simp
                  go_wp2_with fail
                  refine hK.out _ _ (HKB.out _ HR1.out.bel) (fun hHeld44 => ?_)
                  clear hK K
                  try simp only [Act.put, List.setIfInBounds_toArray, List.set_cons_zero, List.set_cons_succ]
                  clear HR
                  generalize X1.alloc (.cells #[] 3) = X2 at *
                  have HR := HR1
                  clear HR1
                  obtain ⟨v5, X3, r1, R5⟩ := HR.out.app hRL.out hlo hBq
                  refine wpAnyH_ready (rs := [10]) (by kernel_rfl) (by simp) ?_
                  refine AllReadyH.cons (o := { dst := some 116, op := Go.Op.call { callee := Go.Callee.builtin Go.Builtin.append, args := #[Go.Operand.tmp 109, Go.Operand.tmp 115], argTypes := #[44, 44] }, type := 44, pos := "law.go:110", after := #[{ on := 3, ground := Go.Ground.data }, { on := 9, ground := Go.Ground.data }], guard := none }) rfl (fun K hK => ?_) AllReadyH.nil
                  refine step_append_eq (by rfl) _ _ 44 44 (by rfl) (by rfl) (by rfl) r1 ?_
                  refine hK.out _ _ (HKB.out _ R5.bel) (fun hHeld45 => ?_)
                  clear hK K
                  try simp only [Act.put, List.setIfInBounds_toArray, List.set_cons_zero, List.set_cons_succ]
                  clear r1 HR
                  have HR := hide R5
                  clear R5
                  obtain ⟨a8, c8, W8, r1, q1, D⟩ := HR.out.fin (k := n * 5 + 1) (bE := b + 1) HKQ.out (by omega) hlo
                  have e8 := (q1.block _ hgq).trans HKQ.out
                  have k8 : W8.cell? ⟨g, n * 5 + 1, none⟩ = some u8 := cell_of e8 HU8.out
                  have z8 : W8.frozen? ⟨g, n * 5 + 1, none⟩ = false := by simp [World.frozen?, e8]
                  have HD := hide D
                  have HQ1 := hide q1
                  have HDS := hide (show ∀ j, j < g → (W8.setCell ⟨g, n * 5 + 1, none⟩ (.slice a8 (f.lo.length + 1) c8)).heap[j]? = W8.heap[j]? from fun j hj => by simp [World.setCell, Array.getElem?_modify, Nat.ne_of_gt hj])
                  clear e8 D q1 HR
                  refine wpAnyH_ready (rs := [12]) (by kernel_rfl) (by simp) ?_
                  refine AllReadyH.cons (o := { dst := some 118, op := Go.Op.call { callee := Go.Callee.builtin Go.Builtin.append, args := #[Go.Operand.tmp 116, Go.Operand.tmp 117], argTypes := #[44, 44] }, type := 44, pos := "law.go:110", after := #[{ on := 10, ground := Go.Ground.data }, { on := 11, ground := Go.Ground.data }, { on := 10, ground := Go.Ground.chain }], guard := none }) rfl (fun K hK => ?_) AllReadyH.nil
                  refine step_append_eq (by rfl) _ _ 44 44 (by rfl) (by rfl) (by rfl) r1 ?_
                  refine hK.out _ _ (HKB.out _ HQ1.out) (fun hHeld46 => ?_)
                  clear hK K
                  try simp only [Act.put, List.setIfInBounds_toArray, List.set_cons_zero, List.set_cons_succ]
                  clear r1
                  refine wpAnyH_ready (rs := [13]) (by kernel_rfl) (by simp) ?_
                  refine AllReadyH.cons (o := { dst := some 119, op := Go.Op.indexAddr 23 (Go.Operand.tmp 107) (Go.Operand.tmp 108), type := 0, pos := "law.go:110", after := #[{ on := 1, ground := Go.Ground.data }, { on := 2, ground := Go.Ground.data }, { on := 0, ground := Go.Ground.phase }, { on := 1, ground := Go.Ground.phase }, { on := 2, ground := Go.Ground.phase }, { on := 3, ground := Go.Ground.phase }, { on := 4, ground := Go.Ground.phase }, { on := 5, ground := Go.Ground.phase }, { on := 6, ground := Go.Ground.phase }, { on := 7, ground := Go.Ground.phase }, { on := 8, ground := Go.Ground.phase }, { on := 9, ground := Go.Ground.phase }, { on := 10, ground := Go.Ground.phase }, { on := 11, ground := Go.Ground.phase }, { on := 12, ground := Go.Ground.phase }], guard := none }) rfl (fun K hK => ?_) AllReadyH.nil
                  go_simp
                  go_wp2_with fail
                  refine hK.out _ _ (HKB.out _ HQ1.out) (fun hHeld47 => ?_)
                  clear hK K
                  try simp only [Act.put, List.setIfInBounds_toArray, List.set_cons_zero, List.set_cons_succ]
                  refine wpAnyH_ready (rs := [14]) (by kernel_rfl) (by simp) ?_
                  refine AllReadyH.cons (o := { dst := some 120, op := Go.Op.fieldAddr 48 (Go.Operand.tmp 119) 1, type := 0, pos := "law.go:110", after := #[{ on := 13, ground := Go.Ground.data }, { on := 0, ground := Go.Ground.phase }, { on := 1, ground := Go.Ground.phase }, { on := 2, ground := Go.Ground.phase }, { on := 3, ground := Go.Ground.phase }, { on := 4, ground := Go.Ground.phase }, { on := 5, ground := Go.Ground.phase }, { on := 6, ground := Go.Ground.phase }, { on := 7, ground := Go.Ground.phase }, { on := 8, ground := Go.Ground.phase }, { on := 9, ground := Go.Ground.phase }, { on := 10, ground := Go.Ground.phase }, { on := 11, ground := Go.Ground.phase }, { on := 12, ground := Go.Ground.phase }], guard := none }) rfl (fun K hK => ?_) AllReadyH.nil
                  go_simp
                  go_wp2_with fail
                  refine hK.out _ _ (HKB.out _ HQ1.out) (fun hHeld48 => ?_)
                  clear hK K
                  try simp only [Act.put, List.setIfInBounds_toArray, List.set_cons_zero, List.set_cons_succ]
                  refine wpAnyH_ready (rs := [15]) (by kernel_rfl) (by simp) ?_
                  refine AllReadyH.cons (o := { dst := none, op := Go.Op.store 44 (Go.Operand.tmp 120) (Go.Operand.tmp 118), type := 0, pos := "law.go:110", after := #[{ on := 14, ground := Go.Ground.data }, { on := 12, ground := Go.Ground.data }, { on := 12, ground := Go.Ground.chain }, { on := 0, ground := Go.Ground.phase }, { on := 1, ground := Go.Ground.phase }, { on := 2, ground := Go.Ground.phase }, { on := 3, ground := Go.Ground.phase }, { on := 4, ground := Go.Ground.phase }, { on := 5, ground := Go.Ground.phase }, { on := 6, ground := Go.Ground.phase }, { on := 7, ground := Go.Ground.phase }, { on := 8, ground := Go.Ground.phase }, { on := 9, ground := Go.Ground.phase }, { on := 10, ground := Go.Ground.phase }, { on := 11, ground := Go.Ground.phase }, { on := 12, ground := Go.Ground.phase }], guard := none }) rfl (fun K hK => ?_) AllReadyH.nil
                  go_simp
                  go_wp2_with fail
                  refine hK.out _ _ (HKS.out _ (fun j hj => (HDS.out j hj).trans (HQ1.out.block j (by omega)))) (fun hHeld49 => ?_)
                  clear hK K
                  try simp only [Act.put, List.setIfInBounds_toArray, List.set_cons_zero, List.set_cons_succ]
                  refine wpAnyH_done (by kernel_rfl) ?_ _
                  go_wp2_with fail
                  go_meet
                  exact hide ⟨_, HD.out⟩
              case rest =>
                obtain ⟨v8, D⟩ := hcut.out
                obtain ⟨x1', x2'⟩ := HPW.out Wq HBQ.out
                have hBwc : B ≤ wc.heap.size := by have := D.bel.size; omega
                have hoB : ∀ j, j < B → wc.heap[j]? = w.heap[j]? := fun j hj => (D.bel.block j (by omega)).trans (x1' j hj)
                have hsz : w.heap.size ≤ wc.heap.size := Nat.le_trans x2' D.bel.size
                have HFU := D.fin HA.out hfn (fun i hi => (hoB i hi).trans (HFB.out i hi).symm) hBwc hlo hc1 hc2 (by omega)
                have PW := HPG.out wc hoB hsz
                have PB := PW.1.keep hBwc (fun j hj => rfl)
                obtain ⟨l1, l2, l3⟩ := loc_check HCF.out.1 hfn (by rw [HLL.out]; omega)
                obtain ⟨G, hG, hszG⟩ := l3 F HCF.out.2.2
                have PQ : PgAt wc.heap.size wc (.slice a1 p.ty.length d1) (.slice (some ⟨g, 0, none⟩) p.fu.length cap) (.slice a3 p.ta.length d3) (.slice a4 p.st.length d4) (locQ p n f) := ⟨PB.ty, HFU, PB.ta, PB.st⟩
                have HS2 := hide (size_any PQ (Nat.le_refl _) PW.2.2 (by have := HB0.out; omega) (n : Int))
                have HCQ := hide (show (checkP (locQ p n f)).2.2 = 0 ∧ (locQ p n f).fu[n]? = some (locF f) ∧ followP (locQ p n f) (locF f) = .ok G ∧ szP (locQ p n f) (locF f) G = tot + 1 from ⟨l1, l2, hG, by rw [hszG, HTOT.out]⟩)
                have hbq := (D.bel.block b (by omega)).trans HEQ.out
                have q4 : wc.cell? ⟨b, 0, none⟩ = some (.slice a1 p.ty.length d1) := cell_of hbq rfl
                have q5 : wc.cell? ⟨b, 1, none⟩ = some (.slice (some ⟨g, 0, none⟩) p.fu.length cap) := cell_of hbq rfl
                have q6 : wc.cell? ⟨b, 2, none⟩ = some (.slice a3 p.ta.length d3) := cell_of hbq rfl
                have q7 : wc.cell? ⟨b, 3, none⟩ = some (.slice a4 p.st.length d4) := cell_of hbq rfl
                have HBW := hide (show Below w.heap.size w wc from (HB1.out.trans (HBQ.out.mono (by omega))).trans (D.bel.mono (by omega)))
                have hwt : IntKind.i64.wrap ((tot : Int) + 1) = (tot : Int) + 1 := by
                  rw [show (tot : Int) + 1 = ((tot + 1 : Nat) : Int) by omega]
                  exact wrap_nat (by omega)
                clear D hcut x1' x2' hoB HFU PW PB PQ l1 l2 l3 hG hszG hbq HKS HKB hRL
                go_wp2_with fail
                refine HS2.out.mono ?_
                intro e w7 hs
                obtain ⟨rfl, hb7⟩ := szO_of hs HCQ.out.1 HCQ.out.2.1 HCQ.out.2.2.1
                rw [HCQ.out.2.2.2]
                have HB7 := hide (bel_tr HBW.out hb7)
                clear hs hb7 q4 q5 q6 q7 HS2
                rw [show ((tot + 1 : Nat) : Int) = (tot : Int) + 1 by omega]
                go_wp2_with fail
                go_ret
                exact ⟨rfl, HB7.out⟩
end
end Go.Proofs.YtefdilakpggggaaDoor
