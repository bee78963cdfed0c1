/- Sound, whole. -/
import Derived.Test.YtgkpfpaohibcjaaCdSF
import Derived.Test.YtgkpfpaohibcjaaCdSL
import Derived.Test.YtgkpfpaohibcjaaCdST
import Derived.Test.YtgkpfpaohibcjaaCdSS
namespace Go.Proofs.Ytgkpfpaohibcjaa
open Go.RowKit
section
variable {w : World} {B : Nat}
set_option maxHeartbeats 1000000 in
theorem sound_any {p : Pg} {v1 v2 v3 v4 : Value} (R : PgAt B w v1 v2 v3 v4 p) (hB : B ≤ w.heap.size) :
    Calls Try.prog 11 #[.agg #[v1, v2, v3, v4]] w fun e w' => e = .returned (.bool (sndP p)) ∧ Below w.heap.size w w' := by
  obtain ⟨W1, hW1⟩ : ∃ W1, w.alloc (.cells #[v1, v2, v3, v4] 27) = W1 := ⟨_, rfl⟩
  have BB := hide (show Below w.heap.size w W1 from hW1 ▸ (Below.refl _ _).alloc (Nat.le_refl _) _)
  have hb1 : W1.heap[w.heap.size]? = some (.cells #[v1, v2, v3, v4] 27 (0, 0)) := hW1 ▸ heap_new _ _ rfl
  have hz1 : W1.heap.size = w.heap.size + 1 := by rw [← hW1]; simp
  have KP : ∀ W, Below W1.heap.size W1 W → PgAt B W v1 v2 v3 v4 p ∧ B ≤ W.heap.size ∧ W.heap[w.heap.size]? = some (.cells #[v1, v2, v3, v4] 27 (0, 0)) ∧ Below w.heap.size w W := fun W h =>
    ⟨R.keep (Nat.le_refl _) (fun j hj => (h.block j (by omega)).trans (BB.out.block j (by omega))), by have := h.size; omega, (h.block _ (by omega)).trans hb1, BB.out.trans (h.mono (by omega))⟩
  have HKP := hide KP
  have C1 := hide (eachL_any (KP _ (Below.refl _ _)).1.ty (KP _ (Below.refl _ _)).2.1)
  have C2 := hide (show ∀ W, Below W1.heap.size W1 W → _ from fun W h => eachF_any (KP W h).1.fu (KP W h).2.1)
  have C3 := hide (show ∀ W, Below W1.heap.size W1 W → _ from fun W h => eachT_any (KP W h).1.ta (KP W h).2.1)
  have C4 := hide (show ∀ W, Below W1.heap.size W1 W → _ from fun W h => eachS_any (KP W h).1.st (KP W h).2.1)
  have KC := hide (show ∀ W, Below W1.heap.size W1 W → W.cell? ⟨w.heap.size, 0, none⟩ = some v1 ∧ W.cell? ⟨w.heap.size, 1, none⟩ = some v2 ∧ W.cell? ⟨w.heap.size, 2, none⟩ = some v3 ∧ W.cell? ⟨w.heap.size, 3, none⟩ = some v4 from fun W h =>
    have hb := (KP W h).2.2.1
    ⟨cell_of hb rfl, cell_of hb rfl, cell_of hb rfl, cell_of hb rfl⟩)
  obtain ⟨a1, n1, hv1, _⟩ := R.ty
  obtain ⟨a2, n2, hv2, _⟩ := R.fu
  obtain ⟨a3, n3, hv3, _⟩ := R.ta
  obtain ⟨a4, n4, hv4, _⟩ := R.st
  subst hv1 hv2 hv3 hv4
  obtain ⟨k0, k1, k2, k3⟩ := KC.out W1 (Below.refl _ _)
  unfold sndP
  generalize eachB 1024 sndL p.ty = d1 at *
  generalize eachB 4096 sndF p.fu = d2 at *
  generalize eachB 1024 sndL p.ta = d3 at *
  generalize eachB 1024 sndS p.st = d4 at *
  clear R hB hb1 hz1 KP
  generalize p.ty.length = m1 at *
  generalize p.fu.length = m2 at *
  generalize p.ta.length = m3 at *
  generalize p.st.length = m4 at *
  go_enter Try.func11, Try.ntmps11
  go_wp2_with fail
  refine C1.out.mono ?_
  rintro e w2 ⟨rfl, hb2⟩
  obtain ⟨l0, l1, l2, l3⟩ := KC.out w2 hb2
  have H2 := hide hb2
  clear hb2 C1 hW1 k0 k1 k2 k3
  cases d1 with
  | false =>
    go_wp2
    go_ret
    exact ⟨rfl, (HKP.out _ H2.out).2.2.2⟩
  | true =>
    go_wp2_with fail
    refine (C2.out w2 H2.out).mono ?_
    rintro e w3 ⟨rfl, hb3⟩
    have H3 := hide (H2.out.trans (hb3.mono H2.out.size))
    obtain ⟨k0, k1, k2, k3⟩ := KC.out w3 H3.out
    clear hb3 C2 H2 l0 l1 l2 l3
    cases d2 with
    | false =>
      go_wp2
      go_ret
      exact ⟨rfl, (HKP.out _ H3.out).2.2.2⟩
    | true =>
      go_wp2_with fail
      refine (C3.out w3 H3.out).mono ?_
      rintro e w4 ⟨rfl, hb4⟩
      have H4 := hide (H3.out.trans (hb4.mono H3.out.size))
      obtain ⟨l0, l1, l2, l3⟩ := KC.out w4 H4.out
      clear hb4 C3 H3 k0 k1 k2 k3
      cases d3 with
      | false =>
        go_wp2
        go_ret
        exact ⟨rfl, (HKP.out _ H4.out).2.2.2⟩
      | true =>
        go_wp2_with fail
        refine (C4.out w4 H4.out).mono ?_
        rintro e w5 ⟨rfl, hb5⟩
        have H5 := hide (H4.out.trans (hb5.mono H4.out.size))
        clear hb5 C4 H4 l0 l1 l2 l3
        go_wp2
        go_ret
        exact ⟨by simp, (HKP.out _ H5.out).2.2.2⟩
end
end Go.Proofs.Ytgkpfpaohibcjaa
