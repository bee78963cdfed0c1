/- Encode. -/
import Derived.Test.YtgkpfpaohibcjaaCdS
import Derived.Test.YtgkpfpaohibcjaaCdP
namespace Go.Proofs.Ytgkpfpaohibcjaa
open Go.RowKit
theorem sndP_st {p : Pg} (h : sndP p = true) : ∀ s ∈ p.st, s.length ≤ 1024 := fun s hs => by
  simp only [sndP, Bool.and_eq_true] at h
  have := (eachB_le h.2.2.2).2 s hs
  simpa [sndS] using this
abbrev pair (v : Value) (n : Int) : Ending := .returned (.tuple #[v, .int .i64 n])
/-- Encode's answer. -/
def EncO (B : Nat) (w' : World) (p : Pg) (e : Ending) : Prop :=
  (sndP p = false ∧ e = pair (.slice none 0 0) 2) ∨ (sndP p = true ∧ MB < (pgE p).length ∧ e = pair (.slice none 0 0) 13) ∨
  (sndP p = true ∧ (pgE p).length ≤ MB ∧ ∃ v, e = pair v 0 ∧ w'.ownsRow B 5 1 v (pgE p).length (Lib.byteCells (pgE p)))
section
variable {w : World} {B : Nat}
set_option maxHeartbeats 1000000 in
theorem encode_any {p : Pg} {v1 v2 v3 v4 : Value} (R : PgAt B w v1 v2 v3 v4 p) (hB : B ≤ w.heap.size) :
    Calls Try.prog 7 #[.agg #[v1, v2, v3, v4]] w fun e w' => EncO w.heap.size w' p e ∧ Below w.heap.size w w' := by
  obtain ⟨W1, hW1⟩ : ∃ W1, w.alloc (.cells #[v1, v2, v3, v4] 27) = W1 := ⟨_, rfl⟩
  have BB := hide (show Below w.heap.size w W1 from hW1 ▸ (Below.refl _ _).alloc (Nat.le_refl _) _)
  have hb1 : W1.heap[w.heap.size]? = some (.cells #[v1, v2, v3, v4] 27 (0, 0)) := hW1 ▸ heap_new _ _ rfl
  have hz1 : W1.heap.size = w.heap.size + 1 := by rw [← hW1]; simp
  have HB1 := hide hb1
  have HZ1 := hide hz1
  have k0 : W1.cell? ⟨w.heap.size, 0, none⟩ = some v1 := cell_of hb1 rfl
  have k1 : W1.cell? ⟨w.heap.size, 1, none⟩ = some v2 := cell_of hb1 rfl
  have k2 : W1.cell? ⟨w.heap.size, 2, none⟩ = some v3 := cell_of hb1 rfl
  have k3 : W1.cell? ⟨w.heap.size, 3, none⟩ = some v4 := cell_of hb1 rfl
  have R1 := hide (show PgAt (w.heap.size + 1) W1 v1 v2 v3 v4 p from R.keep (by omega) (fun j hj => BB.out.block j (by omega)))
  have C1 := hide (sound_any R1.out (by omega))
  obtain ⟨a1, n1, hv1, _⟩ := R.ty
  obtain ⟨a2, n2, hv2, _⟩ := R.fu
  obtain ⟨a3, n3, hv3, _⟩ := R.ta
  obtain ⟨a4, n4, hv4, _⟩ := R.st
  subst hv1 hv2 hv3 hv4
  generalize hd : sndP p = d at *
  have HD := hide hd
  clear R hB hb1 hz1 hd
  go_enter Try.func7, Try.ntmps7
  go_wp2_with fail
  refine C1.out.mono ?_
  rintro e w2 ⟨rfl, hb2⟩
  clear C1 hW1 k0 k1 k2 k3
  have HBW := hide (BB.out.trans (hb2.mono BB.out.size))
  cases d with
  | false =>
    clear hb2
    go_wp2
    go_ret2
    exact ⟨.inl ⟨HD.out, rfl⟩, HBW.out⟩
  | true =>
    have hb3 : w2.heap[w.heap.size]? = some (.cells #[.slice a1 p.ty.length n1, .slice a2 p.fu.length n2, .slice a3 p.ta.length n3, .slice a4 p.st.length n4] 27 (0, 0)) := (hb2.block _ (by rw [HZ1.out]; omega)).trans HB1.out
    have hz2 : w.heap.size + 1 ≤ w2.heap.size := by have := hb2.size; rw [HZ1.out] at this; exact this
    obtain ⟨W3, hW3⟩ : ∃ W3, w2.alloc (.cells #[.slice none 0 0] 44) = W3 := ⟨_, rfl⟩
    have hb4 : W3.heap[w.heap.size]? = some (.cells #[.slice a1 p.ty.length n1, .slice a2 p.fu.length n2, .slice a3 p.ta.length n3, .slice a4 p.st.length n4] 27 (0, 0)) := by rw [← hW3, Below.heap_alloc _ _ _ (by omega)]; exact hb3
    have L3 : Wl ⟨w2.heap.size, w2.heap.size, .slice none 0 0⟩ W3 [] := by
      rw [← hW3]
      exact ⟨heap_new _ _ rfl, ⟨rfl, .inl ⟨rfl, rfl⟩⟩, Nat.le_refl _, by simp⟩
    have R3 : PgAt (w.heap.size + 1) W3 (.slice a1 p.ty.length n1) (.slice a2 p.fu.length n2) (.slice a3 p.ta.length n3) (.slice a4 p.st.length n4) p := R1.out.keep (Nat.le_refl _) (fun j hj => by rw [← hW3, Below.heap_alloc _ _ _ (by omega)]; exact hb2.block j (by rw [HZ1.out]; exact hj))
    have C2 := hide (wprog_any L3 (B := w.heap.size + 1) hz2 (g := w.heap.size) (o := 0) (by omega) (cell_of hb4 rfl) (cell_of hb4 rfl) (cell_of hb4 rfl) (cell_of hb4 rfl) R3 (sndP_st HD.out))
    have HL3 := hide L3
    have B3 := hide (show Below w2.heap.size w2 W3 from hW3 ▸ (Below.refl _ _).alloc (Nat.le_refl _) _)
    have HOK := hide (pg_ok p (sndP_st HD.out))
    have HZ2 := hide hz2
    clear hb2 hb3 hb4 L3 R3 hz2 R1 HB1
    go_wp2_with fail
    refine C2.out.mono ?_
    rintro e w4 ⟨rfl, X4, L4, S4⟩
    have hA : X4.A = w2.heap.size := S4.A
    have hXB : X4.B = w2.heap.size := S4.B
    have B4 := hide (show Below w.heap.size w w4 from HBW.out.trans ((S4.below HL3.out B3.out).mono (show w.heap.size ≤ w2.heap.size by have := HZ2.out; omega)))
    have C3 := hide (by have := going_any L4; rw [Wx.p, hA] at this; exact this)
    have c0 := L4.c0
    obtain ⟨sa, sc, hv⟩ := row_form L4.row
    have HROW := hide (show w4.ownsRow w.heap.size 5 1 X4.v (pgW p).length (Lib.byteCells (pgW p)) from by
      refine ⟨L4.row.1, ?_⟩
      rcases L4.row.2 with h | ⟨g, cap, cur, h1, h2, h3⟩
      · exact .inl h
      · exact .inr ⟨g, cap, cur, h1, by have := HZ2.out; omega, h3⟩)
    rw [hA, hv] at c0
    rw [hv] at HROW
    clear L4 S4 C2 hA hXB hv hW3 HL3 B3 HBW
    generalize hdm : decide ((pgW p).length ≤ MB) = dm at *
    have HDM := hide hdm
    clear hdm
    go_wp2_with fail
    refine C3.out.mono ?_
    rintro e w5 ⟨rfl, rfl⟩
    clear C3
    cases dm with
    | false =>
      go_wp2
      go_ret2
      refine ⟨.inr (.inl ⟨HD.out, ?_, rfl⟩), B4.out⟩
      have h1 := of_decide_eq_false HDM.out
      rcases HOK.out with h | h
      · rw [← h]; omega
      · exact h.2
    | true =>
      go_wp2
      go_ret2
      have h1 := of_decide_eq_true HDM.out
      have h2 : pgW p = pgE p := by
        rcases HOK.out with h | h
        · exact h
        · omega
      have h3 := HROW.out
      rw [h2] at h1 h3
      exact ⟨.inr (.inr ⟨HD.out, h1, _, rfl, by rw [← h2] at h3 ⊢; exact h3⟩), B4.out⟩
end
end Go.Proofs.Ytgkpfpaohibcjaa
