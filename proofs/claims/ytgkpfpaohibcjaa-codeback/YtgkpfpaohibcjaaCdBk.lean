/- CodeBack. -/
import Derived.Test.YtgkpfpaohibcjaaCdCu
import Derived.Test.YtgkpfpaohibcjaaCdSm
namespace Go.Proofs.Ytgkpfpaohibcjaa
open Go.RowKit
set_option maxRecDepth 100000 in
set_option maxHeartbeats 1500000 in
theorem back_law {B : Nat} {w : World} {v1 v2 v3 v4 vb : Value} {p : Pg} {b : By} (R : PgAt B w v1 v2 v3 v4 p) (RB : BytesAt B w vb b) (hB : B ≤ w.heap.size) :
    Calls Try.prog 5 #[.agg #[v1, v2, v3, v4], vb] w fun e w' => e = .returned (.bool true) ∧ Below w.heap.size w w' := by
  obtain ⟨W1, hW1⟩ : ∃ W1, w.alloc (.cells #[v1, v2, v3, v4] 27) = W1 := ⟨_, rfl⟩
  have hz1 : W1.heap.size = w.heap.size + 1 := by rw [← hW1]; simp
  have B1 := hide (show Below w.heap.size w W1 from hW1 ▸ (Below.refl _ _).alloc (Nat.le_refl _) _)
  have hb1 : W1.heap[w.heap.size]? = some (.cells #[v1, v2, v3, v4] 27 (0, 0)) := hW1 ▸ heap_new _ _ rfl
  have k0 : W1.cell? ⟨w.heap.size, 0, none⟩ = some v1 := cell_of hb1 rfl
  have k1 : W1.cell? ⟨w.heap.size, 1, none⟩ = some v2 := cell_of hb1 rfl
  have k2 : W1.cell? ⟨w.heap.size, 2, none⟩ = some v3 := cell_of hb1 rfl
  have k3 : W1.cell? ⟨w.heap.size, 3, none⟩ = some v4 := cell_of hb1 rfl
  have C1 := hide (encode_any (R.keep (Nat.le_refl _) (fun j hj => B1.out.block j (Nat.lt_of_lt_of_le hj hB))) (Nat.le_trans hB B1.out.size))
  have HIN := hide (show sndP p = true → InP p from R.inP)
  have AW := hide awake_any
  have KB := hide (show ∀ W, Below w.heap.size w W → BytesAt B W vb b ∧ B ≤ W.heap.size from fun W h => ⟨RB.keep fun j hj => h.block j (by omega), by have := h.size; omega⟩)
  have KR := hide (show ∀ W, Below W1.heap.size W1 W → PgAt B W v1 v2 v3 v4 p ∧ W.heap[w.heap.size]? = some (.cells #[v1, v2, v3, v4] 27 (0, 0)) from fun W h => ⟨R.keep (Nat.le_refl _) fun j hj => (h.block j (by omega)).trans (B1.out.block j (by omega)), (h.block _ (by omega)).trans hb1⟩)
  obtain ⟨a1, n1, hv1, _⟩ := R.ty
  obtain ⟨a2, n2, hv2, _⟩ := R.fu
  obtain ⟨a3, n3, hv3, _⟩ := R.ta
  obtain ⟨a4, n4, hv4, _⟩ := R.st
  obtain ⟨ab, cb, hvb, _⟩ := id RB
  subst hv1 hv2 hv3 hv4 hvb
  clear R hB hb1 hz1 RB
  generalize hbl : b.length = bl at *
  have HBL := hide hbl
  clear hbl
  go_enter Try.func5, Try.ntmps5
  go_wp2_with fail
  refine C1.out.mono ?_
  rintro e w2 ⟨he, hb2⟩
  have G2 := hide hb2
  have HB2 := hide (B1.out.trans (hb2.mono B1.out.size))
  clear hb2 C1 hW1 k0 k1 k2 k3
  have he2 : (∃ c : Int, (c == 0) = false ∧ e = pair (.slice none 0 0) c) ∨ (sndP p = true ∧ (pgE p).length ≤ MB ∧ ∃ v, e = pair v 0 ∧ w2.ownsRow W1.heap.size 5 1 v (pgE p).length (Lib.byteCells (pgE p))) := by
    rcases he with ⟨_, h⟩ | ⟨_, _, h⟩ | h
    · exact .inl ⟨2, rfl, h⟩
    · exact .inl ⟨13, rfl, h⟩
    · exact .inr h
  clear he
  rcases he2 with ⟨c, hc, rfl⟩ | ⟨hsn, hle, v, rfl, hrow⟩
  · clear KR G2 HIN
    go_wp2_with fail
    refine (AW.out w2).mono ?_
    rintro e w3 ⟨rfl, hb3⟩
    have HB3 := hide (HB2.out.trans (hb3.mono HB2.out.size))
    clear hb3
    have C7 := hide (decode_any (KB.out w3 HB3.out).1 (KB.out w3 HB3.out).2)
    have HD := hide (show (decP b).2 = 0 → _ from dec_back)
    have HDN := hide (show (decP b).2 ≠ 0 → _ from dec_bad)
    generalize hdb : decP b = D at *
    clear hdb
    obtain ⟨q, er⟩ := D
    go_wp2_with fail
    refine C7.out.mono ?_
    rintro e w7 ⟨x1, x2, x3, x4, rfl, PA, hb7⟩
    have HB7 := hide (HB3.out.trans (hb7.mono HB3.out.size))
    have HPA := hide PA
    obtain ⟨b1, m1, hx1, _⟩ := PA.ty
    obtain ⟨b2, m2, hx2, _⟩ := PA.fu
    obtain ⟨b3, m3, hx3, _⟩ := PA.ta
    obtain ⟨b4, m4, hx4, _⟩ := PA.st
    subst hx1 hx2 hx3 hx4
    obtain ⟨W8, hW8⟩ : ∃ W8, w7.alloc (.cells #[.slice b1 q.ty.length m1, .slice b2 q.fu.length m2, .slice b3 q.ta.length m3, .slice b4 q.st.length m4] 27) = W8 := ⟨_, rfl⟩
    have hb8 : W8.heap[w7.heap.size]? = some (.cells #[.slice b1 q.ty.length m1, .slice b2 q.fu.length m2, .slice b3 q.ta.length m3, .slice b4 q.st.length m4] 27 (0, 0)) := by rw [← hW8]; exact heap_new _ _ rfl
    have c0 : W8.cell? ⟨w7.heap.size, 0, none⟩ = some (.slice b1 q.ty.length m1) := cell_of hb8 rfl
    have c1 : W8.cell? ⟨w7.heap.size, 1, none⟩ = some (.slice b2 q.fu.length m2) := cell_of hb8 rfl
    have c2 : W8.cell? ⟨w7.heap.size, 2, none⟩ = some (.slice b3 q.ta.length m3) := cell_of hb8 rfl
    have c3 : W8.cell? ⟨w7.heap.size, 3, none⟩ = some (.slice b4 q.st.length m4) := cell_of hb8 rfl
    have B8 : Below w7.heap.size w7 W8 := by rw [← hW8]; exact (Below.refl _ _).alloc (Nat.le_refl _) _
    have HB8 := hide (HB7.out.trans (B8.mono HB7.out.size))
    have PA8 := hide (HPA.out.grow B8 B8.size)
    clear PA hb7 C7 hb8 B8 HPA
    cases her : (er == 0) with
    | false =>
      have h0 : er ≠ 0 := by simpa using her
      have hq : q = pg0 := HDN.out h0
      subst hq
      have y1 : pg0.ty.length = 0 := rfl
      have y2 : pg0.fu.length = 0 := rfl
      rw [y1, y2] at *
      clear h0 HD HDN PA8
      go_wp2
      go_ret
      refine ⟨rfl, ?_⟩
      have h8 := HB8.out
      rw [← hW8] at h8
      exact h8
    | true =>
      have h0 : er = 0 := by simpa using her
      have C9 := hide (encode_any PA8.out (Nat.le_refl _))
      have HDX := hide (HD.out h0)
      subst h0
      clear her HD HDN
      go_wp2_with fail
      refine C9.out.mono ?_
      rintro e w9 ⟨he9, hb9⟩
      have HB9 := hide (HB8.out.trans (hb9.mono HB8.out.size))
      obtain ⟨hE, hS, hM, _⟩ := HDX.out
      obtain ⟨v, rfl, hrow⟩ : ∃ v, e = pair v 0 ∧ w9.ownsRow W8.heap.size 5 1 v (pgE q).length (Lib.byteCells (pgE q)) := by
        rcases he9 with ⟨h, _⟩ | ⟨_, h, _⟩ | ⟨_, _, h⟩
        · rw [hS] at h; cases h
        · rw [hE] at h; omega
        · exact h
      rw [hE] at hrow
      have C10 := hide (sameBytes_any (KB.out w9 HB9.out).1 (BytesAt.of_row hrow))
      obtain ⟨va, vc, hv⟩ := row_form hrow
      rw [HBL.out] at hv
      subst hv
      clear he9 hb9 C9 hrow hE hS hM HDX PA8 hW8 c0 c1 c2 c3
      go_wp2_with fail
      refine C10.out.mono ?_
      rintro e w10 ⟨rfl, hb10⟩
      have HB10 := hide (HB9.out.trans (hb10.mono HB9.out.size))
      clear hb10 C10
      go_wp2
      go_ret
      exact ⟨rfl, HB10.out⟩
  · have HI := hide (HIN.out hsn)
    have HROW := hide hrow
    have HDE := hide (dec_enc HI.out hsn hle)
    obtain ⟨va, vc, hv⟩ := row_form hrow
    subst hv
    clear hrow HIN hsn hle HI
    go_wp2_with fail
    refine (AW.out w2).mono ?_
    rintro e w3 ⟨rfl, hb3⟩
    have G3 := hide (G2.out.trans (hb3.mono G2.out.size))
    have HB3 := hide (HB2.out.trans (hb3.mono HB2.out.size))
    have R3 := hide (show w3.ownsRow _ 5 1 (.slice va (pgE p).length vc) (pgE p).length (Lib.byteCells (pgE p)) from ownsRow_keep HROW.out fun q hq => hb3.block q (HROW.out.lt q hq).2)
    have C4 := hide (decode_any (BytesAt.of_row R3.out) (Nat.le_refl _))
    rw [HDE.out] at C4
    clear hb3 HROW HDE R3
    generalize (pgE p).length = pl at *
    go_wp2_with fail
    refine C4.out.mono ?_
    rintro e w4 ⟨x1, x2, x3, x4, rfl, PA, hb4⟩
    have G4 := hide (G3.out.trans (hb4.mono G3.out.size))
    have HB4 := hide (HB3.out.trans (hb4.mono HB3.out.size))
    have HPA := hide PA
    obtain ⟨b1, m1, hx1, _⟩ := PA.ty
    obtain ⟨b2, m2, hx2, _⟩ := PA.fu
    obtain ⟨b3, m3, hx3, _⟩ := PA.ta
    obtain ⟨b4, m4, hx4, _⟩ := PA.st
    subst hx1 hx2 hx3 hx4
    obtain ⟨W5, hW5⟩ : ∃ W5, w4.alloc (.cells #[.slice b1 p.ty.length m1, .slice b2 p.fu.length m2, .slice b3 p.ta.length m3, .slice b4 p.st.length m4] 27) = W5 := ⟨_, rfl⟩
    have hb5 : W5.heap[w4.heap.size]? = some (.cells #[.slice b1 p.ty.length m1, .slice b2 p.fu.length m2, .slice b3 p.ta.length m3, .slice b4 p.st.length m4] 27 (0, 0)) := by rw [← hW5]; exact heap_new _ _ rfl
    have c0 : W5.cell? ⟨w4.heap.size, 0, none⟩ = some (.slice b1 p.ty.length m1) := cell_of hb5 rfl
    have c1 : W5.cell? ⟨w4.heap.size, 1, none⟩ = some (.slice b2 p.fu.length m2) := cell_of hb5 rfl
    have c2 : W5.cell? ⟨w4.heap.size, 2, none⟩ = some (.slice b3 p.ta.length m3) := cell_of hb5 rfl
    have c3 : W5.cell? ⟨w4.heap.size, 3, none⟩ = some (.slice b4 p.st.length m4) := cell_of hb5 rfl
    have B5 : Below w4.heap.size w4 W5 := by rw [← hW5]; exact (Below.refl _ _).alloc (Nat.le_refl _) _
    have HB5 := hide (HB4.out.trans (B5.mono HB4.out.size))
    obtain ⟨PR, hp5⟩ := KR.out W5 (G4.out.trans (B5.mono G4.out.size))
    have d0 : W5.cell? ⟨w.heap.size, 0, none⟩ = some (.slice a1 p.ty.length n1) := cell_of hp5 rfl
    have d1 : W5.cell? ⟨w.heap.size, 1, none⟩ = some (.slice a2 p.fu.length n2) := cell_of hp5 rfl
    have d2 : W5.cell? ⟨w.heap.size, 2, none⟩ = some (.slice a3 p.ta.length n3) := cell_of hp5 rfl
    have d3 : W5.cell? ⟨w.heap.size, 3, none⟩ = some (.slice a4 p.st.length n4) := cell_of hp5 rfl
    have C5 := hide (same_any (PR.keep (B' := W5.heap.size) (by have := (KB.out W5 HB5.out).2; exact this) (fun _ _ => rfl)) (HPA.out.grow B5 B5.size) (Nat.le_refl _))
    clear PA hb4 C4 hb5 B5 HPA PR hp5 KR G2 G3 G4
    go_wp2_with fail
    refine C5.out.mono ?_
    rintro e w6 ⟨rfl, hb6⟩
    have HB6 := hide (HB5.out.trans (hb6.mono HB5.out.size))
    clear hb6 C5 c0 c1 c2 c3 d0 d1 d2 d3 hW5 HB2 HB3 HB4 HB5
    have C7 := hide (decode_any (KB.out w6 HB6.out).1 (KB.out w6 HB6.out).2)
    have HD := hide (show (decP b).2 = 0 → _ from dec_back)
    have HDN := hide (show (decP b).2 ≠ 0 → _ from dec_bad)
    generalize hdb : decP b = D at *
    clear hdb
    obtain ⟨q, er⟩ := D
    go_wp2_with fail
    refine C7.out.mono ?_
    rintro e w7 ⟨x1, x2, x3, x4, rfl, PA, hb7⟩
    have HB7 := hide (HB6.out.trans (hb7.mono HB6.out.size))
    have HPA := hide PA
    obtain ⟨b1, m1, hx1, _⟩ := PA.ty
    obtain ⟨b2, m2, hx2, _⟩ := PA.fu
    obtain ⟨b3, m3, hx3, _⟩ := PA.ta
    obtain ⟨b4, m4, hx4, _⟩ := PA.st
    subst hx1 hx2 hx3 hx4
    obtain ⟨W8, hW8⟩ : ∃ W8, w7.alloc (.cells #[.slice b1 q.ty.length m1, .slice b2 q.fu.length m2, .slice b3 q.ta.length m3, .slice b4 q.st.length m4] 27) = W8 := ⟨_, rfl⟩
    have hb8 : W8.heap[w7.heap.size]? = some (.cells #[.slice b1 q.ty.length m1, .slice b2 q.fu.length m2, .slice b3 q.ta.length m3, .slice b4 q.st.length m4] 27 (0, 0)) := by rw [← hW8]; exact heap_new _ _ rfl
    have c0 : W8.cell? ⟨w7.heap.size, 0, none⟩ = some (.slice b1 q.ty.length m1) := cell_of hb8 rfl
    have c1 : W8.cell? ⟨w7.heap.size, 1, none⟩ = some (.slice b2 q.fu.length m2) := cell_of hb8 rfl
    have c2 : W8.cell? ⟨w7.heap.size, 2, none⟩ = some (.slice b3 q.ta.length m3) := cell_of hb8 rfl
    have c3 : W8.cell? ⟨w7.heap.size, 3, none⟩ = some (.slice b4 q.st.length m4) := cell_of hb8 rfl
    have B8 : Below w7.heap.size w7 W8 := by rw [← hW8]; exact (Below.refl _ _).alloc (Nat.le_refl _) _
    have HB8 := hide (HB7.out.trans (B8.mono HB7.out.size))
    have PA8 := hide (HPA.out.grow B8 B8.size)
    clear PA hb7 C7 hb8 B8 HPA
    cases her : (er == 0) with
    | false =>
      have h0 : er ≠ 0 := by simpa using her
      have hq : q = pg0 := HDN.out h0
      subst hq
      have y1 : pg0.ty.length = 0 := rfl
      have y2 : pg0.fu.length = 0 := rfl
      rw [y1, y2] at *
      clear h0 HD HDN PA8
      go_wp2
      go_ret
      refine ⟨rfl, ?_⟩
      have h8 := HB8.out
      rw [← hW8] at h8
      exact h8
    | true =>
      have h0 : er = 0 := by simpa using her
      have C9 := hide (encode_any PA8.out (Nat.le_refl _))
      have HDX := hide (HD.out h0)
      subst h0
      clear her HD HDN
      go_wp2_with fail
      refine C9.out.mono ?_
      rintro e w9 ⟨he9, hb9⟩
      have HB9 := hide (HB8.out.trans (hb9.mono HB8.out.size))
      obtain ⟨hE, hS, hM, _⟩ := HDX.out
      obtain ⟨v, rfl, hrow⟩ : ∃ v, e = pair v 0 ∧ w9.ownsRow W8.heap.size 5 1 v (pgE q).length (Lib.byteCells (pgE q)) := by
        rcases he9 with ⟨h, _⟩ | ⟨_, h, _⟩ | ⟨_, _, h⟩
        · rw [hS] at h; cases h
        · rw [hE] at h; omega
        · exact h
      rw [hE] at hrow
      have C10 := hide (sameBytes_any (KB.out w9 HB9.out).1 (BytesAt.of_row hrow))
      obtain ⟨va, vc, hv⟩ := row_form hrow
      rw [HBL.out] at hv
      subst hv
      clear he9 hb9 C9 hrow hE hS hM HDX PA8 hW8 c0 c1 c2 c3
      go_wp2_with fail
      refine C10.out.mono ?_
      rintro e w10 ⟨rfl, hb10⟩
      have HB10 := hide (HB9.out.trans (hb10.mono HB9.out.size))
      clear hb10 C10
      go_wp2
      go_ret
      exact ⟨rfl, HB10.out⟩
end Go.Proofs.Ytgkpfpaohibcjaa
