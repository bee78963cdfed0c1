/- CodeWrites. -/
import Derived.Test.YtgkpfpaohibcjaaCdGe
import Derived.Test.YtgkpfpaohibcjaaCdAw
namespace Go.Proofs.Ytgkpfpaohibcjaa
open Go.RowKit
set_option maxRecDepth 100000 in
set_option maxHeartbeats 800000 in
theorem writes_law {B : Nat} {w : World} {v1 v2 v3 v4 : Value} {p : Pg} (R : PgAt B w v1 v2 v3 v4 p) (hB : B ≤ w.heap.size) :
    Calls Try.prog 3 #[.agg #[v1, v2, v3, v4]] w fun e w' => e = .returned (.bool true) ∧ Below w.heap.size w w' := by
  obtain ⟨W1, hW1⟩ : ∃ W1, w.alloc (.cells #[v1, v2, v3, v4] 27) = W1 := ⟨_, rfl⟩
  have hz1 : W1.heap.size = w.heap.size + 1 := by rw [← hW1]; simp
  have B1 : Below w.heap.size w W1 := by rw [← hW1]; exact (Below.refl _ _).alloc (Nat.le_refl _) _
  have e1 : W1.heap[w.heap.size]? = some (.cells #[v1, v2, v3, v4] 27 (0, 0)) := by rw [← hW1]; exact heap_new _ _ rfl
  have c0 : W1.cell? ⟨w.heap.size, 0, none⟩ = some v1 := cell_of e1 rfl
  have c1 : W1.cell? ⟨w.heap.size, 1, none⟩ = some v2 := cell_of e1 rfl
  have c2 : W1.cell? ⟨w.heap.size, 2, none⟩ = some v3 := cell_of e1 rfl
  have c3 : W1.cell? ⟨w.heap.size, 3, none⟩ = some v4 := cell_of e1 rfl
  have KP := hide (show ∀ W, Below W1.heap.size W1 W → PgAt B W v1 v2 v3 v4 p ∧ B ≤ W.heap.size ∧ Below w.heap.size w W ∧ W.cell? ⟨w.heap.size, 0, none⟩ = some v1 ∧ W.cell? ⟨w.heap.size, 1, none⟩ = some v2 ∧ W.cell? ⟨w.heap.size, 2, none⟩ = some v3 ∧ W.cell? ⟨w.heap.size, 3, none⟩ = some v4 from fun W h =>
    have hb := (h.block _ (by omega)).trans e1
    ⟨R.keep (Nat.le_refl _) (fun j hj => (h.block j (by omega)).trans (B1.block j (by omega))), by have := h.size; omega, B1.trans (h.mono (by omega)), cell_of hb rfl, cell_of hb rfl, cell_of hb rfl, cell_of hb rfl⟩)
  have C1 := hide (encode_any (KP.out W1 (Below.refl _ _)).1 (KP.out W1 (Below.refl _ _)).2.1)
  have AW := hide awake_any
  obtain ⟨a1, n1, hv1, _⟩ := R.ty
  obtain ⟨a2, n2, hv2, _⟩ := R.fu
  obtain ⟨a3, n3, hv3, _⟩ := R.ta
  obtain ⟨a4, n4, hv4, _⟩ := R.st
  subst hv1 hv2 hv3 hv4
  clear R hB B1 e1 hz1
  go_enter Try.func3, Try.ntmps3
  go_wp2_with fail
  refine C1.out.mono ?_
  rintro e w2 ⟨he, hb2⟩
  have G2 := hide hb2
  obtain ⟨P2, hB2, _, k0, k1, k2, k3⟩ := KP.out w2 hb2
  have C2 := hide (gencode_any P2 hB2)
  clear C1 hW1 c0 c1 c2 c3 P2 hB2 hb2
  obtain ⟨va, er, rfl, hA⟩ : ∃ va er, e = pair va er ∧ ((er = 2 ∧ sndP p = false ∧ va = .slice none 0 0) ∨ (er = 13 ∧ sndP p = true ∧ MB < (pgE p).length ∧ va = .slice none 0 0) ∨ (er = 0 ∧ sndP p = true ∧ (pgE p).length ≤ MB ∧ w2.ownsRow W1.heap.size 5 1 va (pgE p).length (Lib.byteCells (pgE p)))) := by
    rcases he with ⟨h1, h2⟩ | ⟨h1, h2, h3⟩ | ⟨h1, h2, v, h3, h4⟩
    · exact ⟨_, _, h2, .inl ⟨rfl, h1, rfl⟩⟩
    · exact ⟨_, _, h3, .inr (.inl ⟨rfl, h1, h2, rfl⟩)⟩
    · exact ⟨_, _, h3, .inr (.inr ⟨rfl, h1, h2, h4⟩)⟩
  obtain ⟨sa, la, ka, hva⟩ : ∃ sa la ka, va = .slice sa la ka := by
    rcases hA with ⟨_, _, h⟩ | ⟨_, _, _, h⟩ | ⟨_, _, _, h⟩
    · exact ⟨_, _, _, h⟩
    · exact ⟨_, _, _, h⟩
    · obtain ⟨a, c, h⟩ := row_form h; exact ⟨a, _, c, h⟩
  subst hva
  have HA := hide hA
  clear he hA
  go_wp2_with fail
  refine C2.out.mono ?_
  rintro e w3 ⟨he, hb3⟩
  have G3 := hide (G2.out.trans (hb3.mono G2.out.size))
  obtain ⟨vb, rfl, hS⟩ : ∃ vb, e = pair vb er ∧ ∃ b : By, BytesAt w3.heap.size w3 (.slice sa la ka) b ∧ BytesAt w3.heap.size w3 vb b := by
    rcases HA.out with ⟨rfl, h1, h⟩ | ⟨rfl, h1, h2, h⟩ | ⟨rfl, h1, h2, h⟩
    · rcases he with ⟨g1, g2⟩ | ⟨g1, g2, g3⟩ | ⟨g1, g2, v, g3, g4⟩
      · exact ⟨_, g2, [], h ▸ BytesAt.nil _ _, BytesAt.nil _ _⟩
      · rw [h1] at g1; cases g1
      · rw [h1] at g1; cases g1
    · rcases he with ⟨g1, g2⟩ | ⟨g1, g2, g3⟩ | ⟨g1, g2, v, g3, g4⟩
      · rw [h1] at g1; cases g1
      · exact ⟨_, g3, [], h ▸ BytesAt.nil _ _, BytesAt.nil _ _⟩
      · omega
    · rcases he with ⟨g1, g2⟩ | ⟨g1, g2, g3⟩ | ⟨g1, g2, v, g3, g4⟩
      · rw [h1] at g1; cases g1
      · omega
      · exact ⟨v, g3, pgE p, BytesAt.of_row (ownsRow_keep h fun q hq => hb3.block q (h.lt q hq).2), BytesAt.of_row g4⟩
  obtain ⟨b, hS1, hS2⟩ := hS
  have SB := hide (show ∀ W, Below w3.heap.size w3 W → Calls Try.prog 10 #[.slice sa la ka, vb] W fun e w' => e = .returned (.bool true) ∧ Below W.heap.size W w' from fun W h => sameBytes_any (hS1.keep fun j hj => h.block j hj) (hS2.keep fun j hj => h.block j hj))
  obtain ⟨sb, lb, kb, hvb⟩ : ∃ sb lb kb, vb = .slice sb lb kb := by obtain ⟨a, c, h, _⟩ := hS2; exact ⟨a, _, c, h⟩
  subst hvb
  have KQ := hide (show ∀ W, Below w3.heap.size w3 W → Below W1.heap.size W1 W from fun W h => G3.out.trans (h.mono G3.out.size))
  have SD := hide (show ∀ W, Below w3.heap.size w3 W → _ from fun W h => sound_any (KP.out W (KQ.out W h)).1 (KP.out W (KQ.out W h)).2.1)
  have GD := hide (show ∀ W, Below w3.heap.size w3 W → _ from fun W h => gsound_any (KP.out W (KQ.out W h)).1 (KP.out W (KQ.out W h)).2.1)
  have KC := hide (show ∀ W, Below w3.heap.size w3 W → _ from fun W h => (KP.out W (KQ.out W h)).2.2.2)
  have KF := hide (show ∀ W, Below w3.heap.size w3 W → Below w.heap.size w W from fun W h => (KP.out W (KQ.out W h)).2.2.1)
  have D3 := hide (show Below w3.heap.size w3 w3.drew from below_drew (Below.refl _ _))
  have K3 := KC.out w3 (Below.refl _ _)
  obtain ⟨k0, k1, k2, k3⟩ := id K3
  have KC3 := KC.out _ D3.out
  have x1 : (er == er) = true := by simp
  have x2 : (sndP p == sndP p) = true := by simp
  clear he hb3 hS1 hS2 C2 HA G2 G3 KP
  generalize sndP p = d at *
  generalize p.ty.length = N1 at *
  generalize p.fu.length = N2 at *
  generalize p.ta.length = N3 at *
  generalize p.st.length = N4 at *
  go_wp2_with fail
  go_region_held3 (fun W => W.cell? ⟨w.heap.size, 0, none⟩ = some (.slice a1 N1 n1) ∧ W.cell? ⟨w.heap.size, 1, none⟩ = some (.slice a2 N2 n2) ∧ W.cell? ⟨w.heap.size, 2, none⟩ = some (.slice a3 N3 n3) ∧ W.cell? ⟨w.heap.size, 3, none⟩ = some (.slice a4 N4 n4))
    (with_reducible first | exact K3 | exact KC7 | exact KC6 | exact KC5 | exact KC4 | exact KC3)
    (first
      | (go_simp; go_at_call 9; refine (AW.out _).mono ?_; rintro e w4 ⟨rfl, hb4⟩; have D4 := hide (D3.out.trans (hb4.mono D3.out.size)); have KC4 := KC.out _ D4.out)
      | (have kk := D4; clear kk; go_simp; go_at_call 10; refine (SB.out _ D4.out).mono ?_; rintro e w5 ⟨rfl, hb5⟩; have D5 := hide (D4.out.trans (hb5.mono D4.out.size)); have KC5 := KC.out _ D5.out)
      | (have kk := D5; clear kk; go_simp; go_at_call 11; refine (SD.out _ D5.out).mono ?_; rintro e w6 ⟨rfl, hb6⟩; have D6 := hide (D5.out.trans (hb6.mono D5.out.size)); have KC6 := KC.out _ D6.out)
      | (have kk := D6; clear kk; go_simp; go_at_call 12; refine (GD.out _ D6.out).mono ?_; rintro e w7 ⟨rfl, hb7⟩; have D7 := hide (D6.out.trans (hb7.mono D6.out.size)); have KC7 := KC.out _ D7.out))
  have HFin := hide (KF.out _ D7.out)
  clear hb4 hb5 hb6 hb7
  go_wp2
  go_ret
  refine ⟨?_, HFin.out⟩
  first | rfl | simp
end Go.Proofs.Ytgkpfpaohibcjaa
