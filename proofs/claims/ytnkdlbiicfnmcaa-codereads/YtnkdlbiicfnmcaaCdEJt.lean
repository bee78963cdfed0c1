/- Encode. -/
import Derived.Test.YtnkdlbiicfnmcaaCdSTJt
import Derived.Test.YtnkdlbiicfnmcaaCdP
import Derived.Test.YtnkdlbiicfnmcaaCdT
import Derived.Test.YtnkdlbiicfnmcaaCdVd
namespace Go.Proofs.Ytnkdlbiicfnmcaa
open Go.RowKit
theorem sndP_st {p : Pg} (h : sndP p = true) : ∀ s ∈ p.st, s.length ≤ 1024 := fun s hs => by
  simp only [sndP, Bool.and_eq_true] at h
  have := (eachB_le h.2.2.2).2 s hs
  simpa [sndS] using this
abbrev pair (v : Value) (n : Int) : Ending := .returned (.tuple #[v, .int .i64 n])
/-- Encode's answer. -/
def EncO (B : Nat) (w' : World) (p : Pg) (e : Ending) : Prop :=
  (sndP p = false ∧ e = pair (.slice none 0 0) 2) ∨ (sndP p = true ∧ MB < (pgE p).length ∧ e = pair (.slice none 0 0) 13) ∨
  (sndP p = true ∧ (pgE p).length ≤ MB ∧ ∃ v, e = pair v 0 ∧ w'.ownsRow B 5 1 v (pgE p).length (Lib.byteCells (pgE p)))
section
variable {w : World} {B : Nat}
set_option maxHeartbeats 1000000 in
theorem encode_any {p : Pg} {v1 v2 v3 v4 : Value} (R : PgAt B w v1 v2 v3 v4 p) (hB : B ≤ w.heap.size) :
    Calls Try.prog 7 #[.agg #[v1, v2, v3, v4]] w fun e w' => EncO w.heap.size w' p e ∧ Below w.heap.size w w' := by
  obtain ⟨W1, hW1⟩ : ∃ W1, w.alloc (.cells #[v1, v2, v3, v4] 27) = W1 := ⟨_, rfl⟩
  have BB := hide (show Below w.heap.size w W1 from hW1 ▸ (Below.refl _ _).alloc (Nat.le_refl _) _)
  have hb1 : W1.heap[w.heap.size]? = some (.cells #[v1, v2, v3, v4] 27 (0, 0)) := hW1 ▸ heap_new _ _ rfl
  have hz1 : W1.heap.size = w.heap.size + 1 := by rw [← hW1]; simp
  have HB1 := hide hb1
  have HZ1 := hide hz1
  have k0 : W1.cell? ⟨w.heap.size, 0, none⟩ = some v1 := cell_of hb1 rfl
  have k1 : W1.cell? ⟨w.heap.size, 1, none⟩ = some v2 := cell_of hb1 rfl
  have k2 : W1.cell? ⟨w.heap.size, 2, none⟩ = some v3 := cell_of hb1 rfl
  have k3 : W1.cell? ⟨w.heap.size, 3, none⟩ = some v4 := cell_of hb1 rfl
  have R1 := hide (show PgAt (w.heap.size + 1) W1 v1 v2 v3 v4 p from R.keep (by omega) (fun j hj => BB.out.block j (by omega)))
  have C1 := hide (sound_any R1.out (by omega))
  obtain ⟨a1, n1, hv1, _⟩ := R.ty
  obtain ⟨a2, n2, hv2, _⟩ := R.fu
  obtain ⟨a3, n3, hv3, _⟩ := R.ta
  obtain ⟨a4, n4, hv4, _⟩ := R.st
  subst hv1 hv2 hv3 hv4
  generalize hd : sndP p = d at *
  have HD := hide hd
  clear R hB hb1 hz1 hd
  go_enter Try.func7, Try.ntmps7
  go_wp2_with fail
  refine C1.out.mono ?_
  rintro e w2 ⟨rfl, hb2⟩
  clear C1 hW1 k0 k1 k2 k3
  have HBW := hide (BB.out.trans (hb2.mono BB.out.size))
  cases d with
  | false =>
    clear hb2
    go_wp2
    go_ret2
    exact ⟨.inl ⟨HD.out, rfl⟩, HBW.out⟩
  | true =>
    have hb3 : w2.heap[w.heap.size]? = some (.cells #[.slice a1 p.ty.length n1, .slice a2 p.fu.length n2, .slice a3 p.ta.length n3, .slice a4 p.st.length n4] 27 (0, 0)) := (hb2.block _ (by rw [HZ1.out]; omega)).trans HB1.out
    have hz2 : w.heap.size + 1 ≤ w2.heap.size := by have := hb2.size; rw [HZ1.out] at this; exact this
    obtain ⟨W3, hW3⟩ : ∃ W3, w2.alloc (.cells #[.slice none 0 0] 44) = W3 := ⟨_, rfl⟩
    have hb4 : W3.heap[w.heap.size]? = some (.cells #[.slice a1 p.ty.length n1, .slice a2 p.fu.length n2, .slice a3 p.ta.length n3, .slice a4 p.st.length n4] 27 (0, 0)) := by rw [← hW3, Below.heap_alloc _ _ _ (by omega)]; exact hb3
    have L3 : Wl ⟨w2.heap.size, w2.heap.size, .slice none 0 0⟩ W3 [] := by
      rw [← hW3]
      exact ⟨heap_new _ _ rfl, ⟨rfl, .inl ⟨rfl, rfl⟩⟩, Nat.le_refl _, by simp⟩
    have R3 : PgAt (w.heap.size + 1) W3 (.slice a1 p.ty.length n1) (.slice a2 p.fu.length n2) (.slice a3 p.ta.length n3) (.slice a4 p.st.length n4) p := R1.out.keep (Nat.le_refl _) (fun j hj => by rw [← hW3, Below.heap_alloc _ _ _ (by omega)]; exact hb2.block j (by rw [HZ1.out]; exact hj))
    have C2 := hide (wprog_any L3 (B := w.heap.size + 1) hz2 (g := w.heap.size) (o := 0) (by omega) (cell_of hb4 rfl) (cell_of hb4 rfl) (cell_of hb4 rfl) (cell_of hb4 rfl) R3 (sndP_st HD.out))
    have HL3 := hide L3
    have B3 := hide (show Below w2.heap.size w2 W3 from hW3 ▸ (Below.refl _ _).alloc (Nat.le_refl _) _)
    have HOK := hide (pg_ok p (sndP_st HD.out))
    have HZ2 := hide hz2
    clear hb2 hb3 hb4 L3 R3 hz2 R1 HB1
    go_wp2_with fail
    refine C2.out.mono ?_
    rintro e w4 ⟨rfl, X4, L4, S4⟩
    have hA : X4.A = w2.heap.size := S4.A
    have hXB : X4.B = w2.heap.size := S4.B
    have B4 := hide (show Below w.heap.size w w4 from HBW.out.trans ((S4.below HL3.out B3.out).mono (show w.heap.size ≤ w2.heap.size by have := HZ2.out; omega)))
    have C3 := hide (by have := going_any L4; rw [Wx.p, hA] at this; exact this)
    have c0 := L4.c0
    obtain ⟨sa, sc, hv⟩ := row_form L4.row
    have HROW := hide (show w4.ownsRow w.heap.size 5 1 X4.v (pgW p).length (Lib.byteCells (pgW p)) from by
      refine ⟨L4.row.1, ?_⟩
      rcases L4.row.2 with h | ⟨g, cap, cur, h1, h2, h3⟩
      · exact .inl h
      · exact .inr ⟨g, cap, cur, h1, by have := HZ2.out; omega, h3⟩)
    rw [hA, hv] at c0
    rw [hv] at HROW
    clear L4 S4 C2 hA hXB hv hW3 HL3 B3 HBW
    generalize hdm : decide ((pgW p).length ≤ MB) = dm at *
    have HDM := hide hdm
    clear hdm
    go_wp2_with fail
    refine C3.out.mono ?_
    rintro e w5 ⟨rfl, rfl⟩
    clear C3
    cases dm with
    | false =>
      go_wp2
      go_ret2
      refine ⟨.inr (.inl ⟨HD.out, ?_, rfl⟩), B4.out⟩
      have h1 := of_decide_eq_false HDM.out
      rcases HOK.out with h | h
      · rw [← h]; omega
      · exact h.2
    | true =>
      go_wp2
      go_ret2
      have h1 := of_decide_eq_true HDM.out
      have h2 : pgW p = pgE p := by
        rcases HOK.out with h | h
        · exact h
        · omega
      have h3 := HROW.out
      rw [h2] at h1 h3
      exact ⟨.inr (.inr ⟨HD.out, h1, _, rfl, by rw [← h2] at h3 ⊢; exact h3⟩), B4.out⟩
end
end Go.Proofs.Ytnkdlbiicfnmcaa

namespace Go.Proofs.Ytnkdlbiicfnmcaa
open Go.RowKit
def awB : By := [72, 89, 49, 0, 0, 0, 2, 2, 7]
def awP : Pg := ⟨[], [], [], [[7]]⟩
theorem aw_dec : decP awB = (awP, 0) := by kernel_rfl
theorem aw_snd0 : sndP pg0 = true := by kernel_rfl
theorem aw_snd : sndP awP = true := by kernel_rfl
theorem aw_enc : (pgE pg0).length = 7 := by kernel_rfl
/-- Bytes in a block. -/
theorem BytesAt.of_block {w : World} {b : Nat} {l : By} {c : Array Value} {t : TypeId} {f : Nat × Nat} (h : w.heap[b]? = some (.cells c t f)) (hc : c.toList = Lib.byteCells l) (hl : l.length ≤ 100000000) : BytesAt w.heap.size w (.slice (some ⟨b, 0, none⟩) l.length l.length) l := by
  refine ⟨_, _, rfl, Nat.le_refl _, by simp only [maxLen]; omega, (by intro h; cases h), (fun _ _ => trivial), fun j x hx => ⟨b, 0, rfl, lt_of_block h, cell_of h ?_⟩⟩
  have : c.toList[j]? = some (.int .u8 x.toNat) := by rw [hc, Lib.byteCells, List.getElem?_map, hx]; rfl
  rw [Nat.zero_add]
  simpa using this
theorem BytesAt.of_row {w : World} {B : Nat} {v : Value} {l : By} (h : w.ownsRow B 5 1 v l.length (Lib.byteCells l)) : BytesAt w.heap.size w v l := by
  rcases h.2 with ⟨h1, h2⟩ | ⟨g, cap, cur, h1, _, h3, h4, h5, h6, h7⟩
  · obtain rfl : l = [] := List.eq_nil_of_length_eq_zero h2
    rw [h1]
    exact BytesAt.nil _ _
  · refine ⟨_, cap, h1, h4, h5, (by intro h; cases h), (fun _ _ => trivial), fun j x hx => ⟨g, 0, rfl, lt_of_block h3, ?_⟩⟩
    have := h.cells (g := g) (by rw [h1]; rfl) j (.int .u8 x.toNat) (by rw [Lib.byteCells, List.getElem?_map, hx]; rfl)
    rw [show (⟨g, 0, none⟩ : Addr).add j = ⟨g, 0 + j, none⟩ by cases j <;> simp [Addr.add]] at this
    exact this
set_option maxRecDepth 100000 in
set_option maxHeartbeats 2000000 in
theorem awake_any (w : World) : Calls Try.prog 9 #[] w fun e w' => e = .returned (.bool true) ∧ Below w.heap.size w w' := by
  have C1 := hide (encode_any (pg0_at 0 w) (Nat.zero_le _))
  go_enter Try.func9, Try.ntmps9
  go_wp2_with fail
  refine C1.out.mono ?_
  rintro e w1 ⟨he, hb1⟩
  have hz1 := hb1.size
  obtain ⟨v, rfl, hv⟩ : ∃ v, e = pair v 0 ∧ ∃ a c, v = .slice a 7 c := by
    rcases he with ⟨h, _⟩ | ⟨_, h, _⟩ | ⟨_, _, v, h1, h2⟩
    · rw [aw_snd0] at h; cases h
    · rw [aw_enc] at h; simp [MB] at h
    · rw [aw_enc] at h2
      obtain ⟨a, c, h3⟩ := row_form h2
      exact ⟨v, h1, a, c, h3⟩
  obtain ⟨va, vc, rfl⟩ := hv
  have HB1 := hide hb1
  clear he hb1 C1
  obtain ⟨W2, hW2⟩ : ∃ W2, w1.alloc (.cells #[.int .u8 72, .int .u8 89, .int .u8 49, .int .u8 0, .int .u8 0, .int .u8 0, .int .u8 2, .int .u8 2, .int .u8 7] 5) = W2 := ⟨_, rfl⟩
  have hbW : W2.heap[w1.heap.size]? = some (.cells #[.int .u8 72, .int .u8 89, .int .u8 49, .int .u8 0, .int .u8 0, .int .u8 0, .int .u8 2, .int .u8 2, .int .u8 7] 5 (0, 0)) := by rw [← hW2]; exact heap_new _ _ rfl
  have C2 := hide (decode_any (BytesAt.of_block (l := awB) hbW rfl (by decide)) (Nat.le_refl _))
  rw [aw_dec] at C2
  have HB2 := hide (show Below w.heap.size w W2 from hW2 ▸ HB1.out.alloc hz1 _)
  clear hbW HB1 hz1
  go_wp2_with fail
  refine C2.out.mono ?_
  rintro e w3 ⟨v1, v2, v3, v4, rfl, PA, hb3⟩
  have HB3 := hide (HB2.out.trans (hb3.mono HB2.out.size))
  obtain ⟨a1, n1, hv1, _⟩ := PA.ty
  obtain ⟨a2, n2, hv2, _⟩ := PA.fu
  obtain ⟨a3, n3, hv3, _⟩ := PA.ta
  obtain ⟨a4, n4, hv4, _, he4⟩ := PA.st
  obtain ⟨g, o, cs, hg, hgl, hcs, hP⟩ := he4 0 [7] rfl
  obtain rfl := hP
  have k0 : w3.cell? ⟨g, o, none⟩ = some (.string ⟨#[7]⟩) := by have := hcs 0 _ rfl; simpa using this
  have HPA := hide PA
  subst hg
  subst hv1 hv2 hv3 hv4
  obtain ⟨W4, hW4⟩ : ∃ W4, w3.alloc (.cells #[.slice a1 awP.ty.length n1, .slice a2 awP.fu.length n2, .slice a3 awP.ta.length n3, .slice (some ⟨g, o, none⟩) awP.st.length n4] 27) = W4 := ⟨_, rfl⟩
  have hb4 : W4.heap[w3.heap.size]? = some (.cells #[.slice a1 awP.ty.length n1, .slice a2 awP.fu.length n2, .slice a3 awP.ta.length n3, .slice (some ⟨g, o, none⟩) awP.st.length n4] 27 (0, 0)) := by rw [← hW4]; exact heap_new _ _ rfl
  have q0 : W4.cell? ⟨w3.heap.size, 0, none⟩ = some (.slice a1 0 n1) := cell_of hb4 rfl
  have q1 : W4.cell? ⟨w3.heap.size, 1, none⟩ = some (.slice a2 0 n2) := cell_of hb4 rfl
  have q2 : W4.cell? ⟨w3.heap.size, 2, none⟩ = some (.slice a3 0 n3) := cell_of hb4 rfl
  have q3 : W4.cell? ⟨w3.heap.size, 3, none⟩ = some (.slice (some ⟨g, o, none⟩) 1 n4) := cell_of hb4 rfl
  have k1 : W4.cell? ⟨g, o, none⟩ = some (.string ⟨#[7]⟩) := by rw [← hW4, World.cell?_of_block (a := ⟨g, o, none⟩) (Below.heap_alloc w3 _ g hgl)]; exact k0
  have HB4 := hide (show Below w.heap.size w W4 from hW4 ▸ HB3.out.alloc HB3.out.size _)
  have PA4 : PgAt w3.heap.size W4 (.slice a1 0 n1) (.slice a2 0 n2) (.slice a3 0 n3) (.slice (some ⟨g, o, none⟩) 1 n4) awP := HPA.out.keep (Nat.le_refl _) (fun j hj => by rw [← hW4]; exact Below.heap_alloc w3 _ j hj)
  have C3 := hide (sound_any PA4 (by rw [← hW4]; simp))
  rw [aw_snd] at C3
  rw [show awP.ty.length = 0 from rfl, show awP.fu.length = 0 from rfl, show awP.ta.length = 0 from rfl, show awP.st.length = 1 from rfl] at *
  clear PA4 PA hb4 hb3 C2 hW2 HB2 HB3 HPA hcs he4
  go_wp2_with fail
  refine C3.out.mono ?_
  rintro e w5 ⟨rfl, hb5⟩
  have HB5 := hide (HB4.out.trans (hb5.mono HB4.out.size))
  clear hb5 C3
  go_wp2
  go_ret
  exact ⟨rfl, HB5.out⟩
end Go.Proofs.Ytnkdlbiicfnmcaa
