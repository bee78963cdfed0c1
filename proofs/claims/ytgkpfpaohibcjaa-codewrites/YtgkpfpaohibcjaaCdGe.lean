/- The document's Encode. -/
import Derived.Test.YtgkpfpaohibcjaaCdGb
import Derived.Test.YtgkpfpaohibcjaaCdE
namespace Go.Proofs.Ytgkpfpaohibcjaa
open Go.RowKit
theorem take_bound {α : Type} {E : α → By} {c m : Nat} {l : List α} (h : ∀ x ∈ l, (E x).length ≤ c) (hl : l.length ≤ m) (j : Nat) (O : By) : (O ++ (l.take j).flatMap E).length ≤ O.length + m * c := by
  rw [List.length_append]
  have h1 := flat_bound (E := E) (l := l.take j) (c := c) (fun x hx => h x (List.mem_of_mem_take hx))
  have h2 : (l.take j).length ≤ m := by rw [List.length_take]; omega
  have h3 : (l.take j).length * c ≤ m * c := Nat.mul_le_mul_right _ h2
  omega
theorem Wk.box {B : Nat} {w w' : World} (h : Wk B w w') {j : Nat} {c : Array Value} {t : TypeId} {f : Nat × Nat} (hj : w.heap[j]? = some (.cells c t f)) (ht : t ≠ 5) : w'.heap[j]? = some (.cells c t f) := (h.2 j c t f hj (by simpa using ht)).trans hj
section
variable {w : World} {B0 : Nat}
set_option maxRecDepth 100000 in
set_option maxHeartbeats 4000000 in
theorem gencode_any {p : Pg} {v1 v2 v3 v4 : Value} (R : PgAt B0 w v1 v2 v3 v4 p) (hB : B0 ≤ w.heap.size) : Calls Try.prog 8 #[.agg #[v1, v2, v3, v4]] w fun e w' => EncO w.heap.size w' p e ∧ Below w.heap.size w w' := by
  obtain ⟨W1, hW1⟩ : ∃ W1, w.alloc (.cells #[v1, v2, v3, v4] 27) = W1 := ⟨_, rfl⟩
  have hz1 : W1.heap.size = w.heap.size + 1 := by rw [← hW1]; simp
  have B1 : Below w.heap.size w W1 := by rw [← hW1]; exact (Below.refl _ _).alloc (Nat.le_refl _) _
  have e1 : W1.heap[w.heap.size]? = some (.cells #[v1, v2, v3, v4] 27 (0, 0)) := by rw [← hW1]; exact heap_new _ _ rfl
  have c0 : W1.cell? ⟨w.heap.size, 0, none⟩ = some v1 := cell_of e1 rfl
  have c1 : W1.cell? ⟨w.heap.size, 1, none⟩ = some v2 := cell_of e1 rfl
  have c2 : W1.cell? ⟨w.heap.size, 2, none⟩ = some v3 := cell_of e1 rfl
  have c3 : W1.cell? ⟨w.heap.size, 3, none⟩ = some v4 := cell_of e1 rfl
  have C1 := hide (gsound_any (R.keep (Nat.le_refl _) (fun j hj => B1.block j (by omega))) (by omega))
  have KP := hide (show ∀ wr, Below W1.heap.size W1 wr → PgAt B0 wr v1 v2 v3 v4 p ∧ wr.heap[w.heap.size]? = some (.cells #[v1, v2, v3, v4] 27 (0, 0)) ∧ Below w.heap.size w wr ∧ W1.heap.size ≤ wr.heap.size from fun wr h =>
    ⟨R.keep (Nat.le_refl _) (fun j hj => (h.block j (by omega)).trans (B1.block j (by omega))), (h.block _ (by omega)).trans e1, B1.trans (h.mono (by omega)), h.size⟩)
  have HZ1 := hide hz1
  have HBw := hide hB
  obtain ⟨a1, n1, hv1, hl1, _⟩ := R.ty
  obtain ⟨a2, n2, hv2, hl2, _⟩ := R.fu
  obtain ⟨a3, n3, hv3, hl3, _⟩ := R.ta
  obtain ⟨a4, n4, hv4, hl4, _⟩ := R.st
  subst hv1 hv2 hv3 hv4
  clear R hB B1 e1 hz1 hl1 hl2 hl3 hl4
  generalize hd : sndP p = d at *
  have HD := hide hd
  clear hd
  generalize hN1 : p.ty.length = N1 at *
  generalize hN2 : p.fu.length = N2 at *
  generalize hN3 : p.ta.length = N3 at *
  generalize hN4 : p.st.length = N4 at *
  have HN1 := hide hN1
  have HN2 := hide hN2
  have HN3 := hide hN3
  have HN4 := hide hN4
  clear hN1 hN2 hN3 hN4
  go_enter Try.func8, Try.ntmps8
  go_wp2_with fail
  refine C1.out.mono ?_
  rintro e w2 ⟨rfl, hb2⟩
  clear C1 hW1 c0 c1 c2 c3
  have G2 := hide hb2
  clear hb2
  cases d with
  | false =>
    have HBF := hide (KP.out w2 G2.out).2.2.1
    go_wp2
    go_ret2
    exact ⟨.inl ⟨HD.out, rfl⟩, HBF.out⟩
  | true =>
    obtain ⟨⟨m1, m2, m3, m4⟩, g1, g2, g3, g4⟩ := (sndP_iff p).mp HD.out
    rw [HN1.out] at m1
    rw [HN2.out] at m2
    rw [HN3.out] at m3
    rw [HN4.out] at m4
    have HG1 := hide (show ∀ x ∈ p.ty, (intsE x).length ≤ 50000 from fun x hx => by have := List.all_eq_true.mp g1 x hx; simp only [sndL, decide_eq_true_eq] at this; have := ints_bound this; omega)
    have HG2 := hide (show ∀ x ∈ p.fu, sndF x = true from fun x hx => List.all_eq_true.mp g2 x hx)
    have HG3 := hide (show ∀ x ∈ p.ta, (intsE x).length ≤ 50000 from fun x hx => by have := List.all_eq_true.mp g3 x hx; simp only [sndL, decide_eq_true_eq] at this; have := ints_bound this; omega)
    have HG4 := hide (show ∀ x ∈ p.st, x.length ≤ 1024 from fun x hx => by have := List.all_eq_true.mp g4 x hx; simpa only [sndS, decide_eq_true_eq] using this)
    have HM := hide (show N1 ≤ 1024 ∧ N2 ≤ 4096 ∧ N3 ≤ 1024 ∧ N4 ≤ 1024 from ⟨m1, m2, m3, m4⟩)
    have b1 : (N1 : Int) ≤ 1024 := by omega
    have b2 : (N2 : Int) ≤ 4096 := by omega
    have b3 : (N3 : Int) ≤ 1024 := by omega
    have b4 : (N4 : Int) ≤ 1024 := by omega
    clear g1 g2 g3 g4 m1 m2 m3 m4
    obtain ⟨W3, hW3⟩ : ∃ W3, w2.alloc (.cells #[.int .u8 72, .int .u8 89, .int .u8 49] 5) = W3 := ⟨_, rfl⟩
    have B3 : Below w2.heap.size w2 W3 := by rw [← hW3]; exact (Below.refl _ _).alloc (Nat.le_refl _) _
    have R3 := hide (show Ow w2.heap.size W3 (.slice (some ⟨w2.heap.size, 0, none⟩) 3 3) hdE from ⟨rfl, .inr ⟨w2.heap.size, 3, _, rfl, Nat.le_refl _, by rw [← hW3]; exact heap_new _ _ rfl, by decide, by decide, rfl, rfl⟩⟩)
    have S3 := hide (Wk.refl w2.heap.size W3)
    have H3 := hide B3.size
    have KW := hide (show ∀ W, Wk w2.heap.size W3 W → PgAt B0 W (.slice a1 N1 n1) (.slice a2 N2 n2) (.slice a3 N3 n3) (.slice a4 N4 n4) p ∧ W.heap[w.heap.size]? = some (.cells #[.slice a1 N1 n1, .slice a2 N2 n2, .slice a3 N3 n3, .slice a4 N4 n4] 27 (0, 0)) ∧ Below w.heap.size w W from fun W h => by
      have h1 : Below w2.heap.size w2 W := B3.trans h.1
      have h2 := KP.out W (G2.out.trans (h1.mono G2.out.size))
      exact ⟨h2.1, h2.2.1, h2.2.2.1⟩)
    have HBq := hide (show B0 ≤ w2.heap.size by have := G2.out.size; have := HZ1.out; have := HBw.out; omega)
    have HWq := hide (show w.heap.size ≤ w2.heap.size by have := G2.out.size; have := HZ1.out; omega)
    clear B3 KP G2
    have k0 : W3.cell? ⟨w.heap.size, 0, none⟩ = some (.slice a1 N1 n1) := cell_of (KW.out W3 S3.out).2.1 rfl
    have C4 := hide (gnumber_any R3.out H3.out (n := (N1 : Int)) (by omega) (by omega) (by decide))
    go_wp2_with fail
    refine C4.out.mono ?_
    rintro e w4 ⟨v4, rfl, r4, s4⟩
    have S4 := hide (S3.out.trans s4)
    have H4 := hide (Nat.le_trans H3.out s4.1.size)
    generalize hO4 : hdE ++ numE (N1 : Int) = O4 at r4
    have E4 := hide hO4
    have L4 := hide (show O4.length ≤ (hdE).length + 10 by rw [← hO4, List.length_append]; have := numE_length (N1 : Int); omega)
    have R4 := hide r4
    obtain ⟨fa4, fc4, hv4⟩ := row_form r4
    subst hv4
    clear r4 s4 hO4 C4
    have Z4 := hide (show O4.length ≤ 100 by have := L4.out; simp only [hdE, List.length_cons, List.length_nil] at this; omega)
    clear k0 R3 S3 H3 hW3
    go_wp2
    go_loopw [4, 5] (fun o a wr => GlR w2.heap.size W3 intsE p.ty O4 o a wr) (fun _ a _ => N1 - (intOf a).toNat)
    case atStart => exact ⟨0, rfl, Nat.zero_le _, by simpa using R4.out, S4.out, H4.out⟩
    case round =>
      obtain ⟨j5, rfl, hj, RY, SY, hBr⟩ := hrel
      rw [HN1.out] at hj
      have SX5 := hide SY
      have HX5 := hide hBr
      generalize hOY : O4 ++ (p.ty.take j5).flatMap intsE = OY at RY
      have EY5 := hide hOY
      have LY5 := hide (show OY.length ≤ O4.length + 1024 * 50000 by rw [← hOY]; exact take_bound HG1.out (by rw [HN1.out]; exact HM.out.1) _ _)
      have RX5 := hide RY
      obtain ⟨sa, sc, hv⟩ := row_form RY
      subst hv
      have q5 := cell_of (o := 0) (KW.out _ SY).2.1 rfl
      have PP := (KW.out _ SY).1
      clear RY SY hBr hOY
      by_cases hlt5 : j5 < N1
      · obtain ⟨x, hx⟩ : ∃ x, p.ty[j5]? = some x := ⟨p.ty[j5]'(by rw [HN1.out]; exact hlt5), by simp⟩
        have l5 : decide (j5 < N1) = true := by simpa using hlt5
        have HF := hide (flat_next (E := intsE) hx O4)
        have hmem := List.mem_of_getElem? hx
        obtain ⟨g, o, cs, rfl, hgl, hcs, y1, rfl, rr⟩ := PP.ty.get hx
        have t1 := hcs 0 y1 rfl
        rw [Nat.mul_one, Nat.add_zero] at t1
        have CX := hide (glist_any RX5.out HX5.out HBq.out rr (by have := LY5.out; have := Z4.out; have := HG1.out x hmem; omega))
        obtain ⟨f1, g1, hy1, _⟩ := rr
        subst hy1
        clear hcs hx hgl PP hmem
        go_wp2_with fail
        refine CX.out.mono ?_
        rintro e wz ⟨vz, rfl, rz, sz⟩
        have SZ := hide (SX5.out.trans sz)
        have HZ := hide (Nat.le_trans HX5.out sz.1.size)
        have RZ := hide rz
        generalize hOZ : OY ++ intsE x = OZ at rz
        have EZ := hide hOZ
        obtain ⟨za, zc, hvz⟩ := row_form rz
        subst hvz
        clear rz sz hOZ CX
        go_wp2
        go_roundw
        case rel =>
          refine ⟨j5 + 1, ?_, ?_, ?_, SZ.out, HZ.out⟩
          · go_num
          · rw [HN1.out]; exact hlt5
          · have h1 := RZ.out
            rw [HF.out, EY5.out]

            exact h1
        case measure => rw [intOf_int]; simp [intOf]; omega

      · obtain rfl : j5 = N1 := by omega
        have l5 : decide (j5 < j5) = false := by simp
        rw [List.take_of_length_le (by rw [HN1.out]; exact Nat.le_refl _)] at EY5
        clear PP
        have E5 := hide EY5.out
        have S5 := hide SX5.out
        have H5 := hide HX5.out
        have R5 := hide RX5.out
        have Z5 := hide (show OY.length ≤ 60000000 by have := LY5.out; have := Z4.out; omega)
        clear SX5 HX5 RX5 LY5 EY5
        generalize wr = WA at *
        generalize OY = O5 at *
        have k1 : WA.cell? ⟨w.heap.size, 1, none⟩ = some (.slice a2 N2 n2) := cell_of (KW.out WA S5.out).2.1 rfl
        have C7 := hide (gnumber_any R5.out H5.out (n := (N2 : Int)) (by omega) (by omega) (by have := Z5.out; omega))
        go_wp2_with fail
        refine C7.out.mono ?_
        rintro e w7 ⟨v7, rfl, r7, s7⟩
        have S7 := hide (S5.out.trans s7)
        have H7 := hide (Nat.le_trans H5.out s7.1.size)
        generalize hO7 : O5 ++ numE (N2 : Int) = O7 at r7
        have E7 := hide hO7
        have L7 := hide (show O7.length ≤ (O5).length + 10 by rw [← hO7, List.length_append]; have := numE_length (N2 : Int); omega)
        have R7 := hide r7
        obtain ⟨fa7, fc7, hv7⟩ := row_form r7
        subst hv7
        clear r7 s7 hO7 C7
        have Z7 := hide (show O7.length ≤ 70000000 by have := L7.out; have := Z5.out; omega)
        clear k1 q5
        go_wp2
        go_loopw [4, 6] (fun o a wr => GlR w2.heap.size W3 fdE p.fu O7 o a wr) (fun _ a _ => N2 - (intOf a).toNat)
        case atStart => exact ⟨0, rfl, Nat.zero_le _, by simpa using R7.out, S7.out, H7.out⟩
        case round =>
          obtain ⟨j6, rfl, hj, RY, SY, hBr⟩ := hrel
          rw [HN2.out] at hj
          have SX6 := hide SY
          have HX6 := hide hBr
          generalize hOY : O7 ++ (p.fu.take j6).flatMap fdE = OY at RY
          have EY6 := hide hOY
          have LY6 := hide (show OY.length ≤ O7.length + 4096 * 3000000 by rw [← hOY]; exact take_bound (fun x hx => fd_bound (HG2.out x hx)) (by rw [HN2.out]; exact HM.out.2.1) _ _)
          have RX6 := hide RY
          obtain ⟨sa, sc, hv⟩ := row_form RY
          subst hv
          have q6 := cell_of (o := 1) (KW.out _ SY).2.1 rfl
          have PP := (KW.out _ SY).1
          clear RY SY hBr hOY
          by_cases hlt6 : j6 < N2
          · obtain ⟨x, hx⟩ : ∃ x, p.fu[j6]? = some x := ⟨p.fu[j6]'(by rw [HN2.out]; exact hlt6), by simp⟩
            have l6 : decide (j6 < N2) = true := by simpa using hlt6
            have HF := hide (flat_next (E := fdE) hx O7)
            have hmem := List.mem_of_getElem? hx
            obtain ⟨g, o, cs, rfl, hgl, hcs, y1, y2, y3, y4, rfl, hbp, r1, r2, r3, r4⟩ := PP.fu.get hx
            have t0 := hcs 0 _ rfl
            have t1 := hcs 1 _ rfl
            have t2 := hcs 2 _ rfl
            have t3 := hcs 3 _ rfl
            have t4 := hcs 4 _ rfl
            rw [Nat.add_zero] at t0
            have hsf := HG2.out x hmem
            have HFB := hide (fd_bound hsf)
            obtain ⟨⟨i1, _, _, i4, i5, i6⟩, _⟩ := (sndF_iff x).mp hsf
            have HIL := hide (show (intsE x.lo).length ≤ 41000 ∧ (intsE x.re).length ≤ 41000 ∧ (intsE x.ar).length ≤ 41000 ∧ x.co.length ≤ 65536 by have := ints_bound i1; have := ints_bound i4; have := ints_bound i5; omega)
            have bco : (x.co.length : Int) ≤ 65536 := by omega
            have HP := hide hbp
            obtain ⟨W5, hW5⟩ : ∃ W5, wr.alloc (.cells #[.int .i64 x.pa, y1, y2, y3, y4] 58) = W5 := ⟨_, rfl⟩
            have B5 : Below wr.heap.size wr W5 := by rw [← hW5]; exact (Below.refl _ _).alloc (Nat.le_refl _) _
            have HS5 := hide (SX6.out.trans (Wk.of_below B5 HX6.out))
            have R19 := hide (RX6.out.keep B5)
            have S19 := hide (Wk.refl w2.heap.size W5)
            have H19 := hide (Nat.le_trans HX6.out B5.size)
            have hk5 : ∀ j, j < B0 → W5.heap[j]? = wr.heap[j]? := fun j hj => B5.block j (by have := HBq.out; have := HX6.out; omega)
            have HR1 := hide (ints_keep (Nat.le_refl _) hk5 r1)
            have HR2 := hide (ints_keep (Nat.le_refl _) hk5 r2)
            have HR3 := hide (ints_keep (Nat.le_refl _) hk5 r3)
            have HR4 := hide (ins_keep (Nat.le_refl _) hk5 r4)
            obtain ⟨f1, g1, hy1, _⟩ := r1
            obtain ⟨f2, g2, hy2, _⟩ := r2
            obtain ⟨f3, g3, hy3, _⟩ := r3
            obtain ⟨f4, g4, hy4, _⟩ := r4
            subst hy1 hy2 hy3 hy4
            have H5f := hide (show W5.heap[wr.heap.size]? = some (.cells #[.int .i64 x.pa, .slice f1 x.lo.length g1, .slice f2 x.re.length g2, .slice f3 x.ar.length g3, .slice f4 x.co.length g4] 58 (0, 0)) by rw [← hW5]; exact heap_new _ _ rfl)
            clear hcs hgl PP hx hsf i1 i4 i5 i6 hk5 B5 hbp
            have z0 := cell_of (o := 0) H5f.out rfl
            have z1 := cell_of (o := 1) H5f.out rfl
            have z2 := cell_of (o := 2) H5f.out rfl
            have z3 := cell_of (o := 3) H5f.out rfl
            have z4 := cell_of (o := 4) H5f.out rfl
            have C20 := hide (gnumber_any R19.out H19.out (n := x.pa) HP.out.1 HP.out.2 (by have := LY6.out; have := Z7.out; have := HIL.out;  omega))
            go_wp2_with fail
            refine C20.out.mono ?_
            rintro e w20 ⟨v20, rfl, r20, s20⟩
            have S20 := hide (S19.out.trans s20)
            have H20 := hide (Nat.le_trans H19.out s20.1.size)
            generalize hO20 : OY ++ numE x.pa = O20 at r20
            have E20 := hide hO20
            have L20 := hide (show O20.length ≤ (OY).length + 10 by rw [← hO20, List.length_append]; have := numE_length x.pa; omega)
            have R20 := hide r20
            obtain ⟨fa20, fc20, hv20⟩ := row_form r20
            subst hv20
            clear r20 s20 hO20 C20
            clear z0 z1 z2 z3 z4 t0 t1 t2 t3 t4 hW5
            have y1 := cell_of (o := 1) (S20.out.box H5f.out (by decide)) rfl
            have C21 := hide (glist_any R20.out H20.out HBq.out (ints_keep (Nat.le_refl _) (S20.out.sameB HBq.out) HR1.out) (by have := LY6.out; have := Z7.out; have := HIL.out; have := L20.out; omega))
            go_wp2_with fail
            refine C21.out.mono ?_
            rintro e w21 ⟨v21, rfl, r21, s21⟩
            have S21 := hide (S20.out.trans s21)
            have H21 := hide (Nat.le_trans H20.out s21.1.size)
            generalize hO21 : O20 ++ intsE x.lo = O21 at r21
            have E21 := hide hO21
            have L21 := hide (show O21.length ≤ O20.length + (intsE x.lo).length by rw [← hO21, List.length_append]; exact Nat.le_refl _)
            have R21 := hide r21
            obtain ⟨fa21, fc21, hv21⟩ := row_form r21
            subst hv21
            clear r21 s21 hO21 C21
            clear y1
            have y2 := cell_of (o := 2) (S21.out.box H5f.out (by decide)) rfl
            have C22 := hide (glist_any R21.out H21.out HBq.out (ints_keep (Nat.le_refl _) (S21.out.sameB HBq.out) HR2.out) (by have := LY6.out; have := Z7.out; have := HIL.out; have := L20.out; have := L21.out; omega))
            go_wp2_with fail
            refine C22.out.mono ?_
            rintro e w22 ⟨v22, rfl, r22, s22⟩
            have S22 := hide (S21.out.trans s22)
            have H22 := hide (Nat.le_trans H21.out s22.1.size)
            generalize hO22 : O21 ++ intsE x.re = O22 at r22
            have E22 := hide hO22
            have L22 := hide (show O22.length ≤ O21.length + (intsE x.re).length by rw [← hO22, List.length_append]; exact Nat.le_refl _)
            have R22 := hide r22
            obtain ⟨fa22, fc22, hv22⟩ := row_form r22
            subst hv22
            clear r22 s22 hO22 C22
            clear y2
            have y3 := cell_of (o := 3) (S22.out.box H5f.out (by decide)) rfl
            have C23 := hide (glist_any R22.out H22.out HBq.out (ints_keep (Nat.le_refl _) (S22.out.sameB HBq.out) HR3.out) (by have := LY6.out; have := Z7.out; have := HIL.out; have := L20.out; have := L21.out; have := L22.out; omega))
            go_wp2_with fail
            refine C23.out.mono ?_
            rintro e w23 ⟨v23, rfl, r23, s23⟩
            have S23 := hide (S22.out.trans s23)
            have H23 := hide (Nat.le_trans H22.out s23.1.size)
            generalize hO23 : O22 ++ intsE x.ar = O23 at r23
            have E23 := hide hO23
            have L23 := hide (show O23.length ≤ O22.length + (intsE x.ar).length by rw [← hO23, List.length_append]; exact Nat.le_refl _)
            have R23 := hide r23
            obtain ⟨fa23, fc23, hv23⟩ := row_form r23
            subst hv23
            clear r23 s23 hO23 C23
            clear y3
            have y4 := cell_of (o := 4) (S23.out.box H5f.out (by decide)) rfl
            have C24 := hide (gnumber_any R23.out H23.out (n := (x.co.length : Int)) (by omega) (by omega) (by have := LY6.out; have := Z7.out; have := HIL.out; have := L20.out; have := L21.out; have := L22.out; have := L23.out; omega))
            go_wp2_with fail
            refine C24.out.mono ?_
            rintro e w24 ⟨v24, rfl, r24, s24⟩
            have S24 := hide (S23.out.trans s24)
            have H24 := hide (Nat.le_trans H23.out s24.1.size)
            generalize hO24 : O23 ++ numE (x.co.length : Int) = O24 at r24
            have E24 := hide hO24
            have L24 := hide (show O24.length ≤ (O23).length + 10 by rw [← hO24, List.length_append]; have := numE_length (x.co.length : Int); omega)
            have R24 := hide r24
            obtain ⟨fa24, fc24, hv24⟩ := row_form r24
            subst hv24
            clear r24 s24 hO24 C24
            clear y4
            have Z24 := hide (show O24.length ≤ 30000000000 by have := LY6.out; have := Z7.out; have := HIL.out; have := L20.out; have := L21.out; have := L22.out; have := L23.out; have := L24.out; omega)
            have HFE := hide (show fdE x = numE x.pa ++ intsE x.lo ++ intsE x.re ++ intsE x.ar ++ (numE x.co.length ++ x.co.flatMap insE) from rfl)
            go_wp2
            go_loopw [4, 8] (fun o a wr => GlR w2.heap.size W5 insE x.co O24 o a wr) (fun _ a _ => x.co.length - (intOf a).toNat)
            case atStart => exact ⟨0, rfl, Nat.zero_le _, by simpa using R24.out, S24.out, H24.out⟩
            case round =>
              obtain ⟨k, rfl, hk, RY, SY, hBr⟩ := hrel
              have SX8 := hide SY
              have HX8 := hide hBr
              generalize hOY : O24 ++ (x.co.take k).flatMap insE = OK at RY
              have EK := hide hOY
              have LK := hide (show OK.length ≤ O24.length + 65536 * 30 by rw [← hOY]; exact take_bound (fun i _ => ins_bound i) HIL.out.2.2.2 _ _)
              have RX8 := hide RY
              obtain ⟨sa8, sc8, hv8⟩ := row_form RY
              subst hv8
              have y4 := cell_of (o := 4) (SX8.out.box H5f.out (by decide)) rfl
              clear RY SY hBr hOY
              by_cases hkl : k < x.co.length
              · obtain ⟨y, hy⟩ : ∃ y, x.co[k]? = some y := ⟨x.co[k], by simp [hkl]⟩
                have l8 : decide (k < x.co.length) = true := by simpa using hkl
                have HF8 := hide (flat_next (E := insE) hy O24)
                have HRW := hide (show ∀ W, Wk w2.heap.size W5 W → _ from fun W h => (ins_keep (Nat.le_refl _) (h.sameB HBq.out) HR4.out).get hy)
                obtain ⟨gg, oo, es, hf4, _, hes, rfl, bo, ba, bb⟩ := HRW.out _ SX8.out
                subst hf4
                have hy0 := hes 0 (.int .i64 y.o) rfl
                rw [Nat.add_zero] at hy0
                have HBO := hide bo
                have HBA := hide ba
                have HBB2 := hide bb
                clear hes hy bo ba bb
                have C30 := hide (gnumber_any RX8.out HX8.out (n := y.o) HBO.out.1 HBO.out.2 (by have := LK.out; have := Z24.out;  omega))
                go_wp2_with fail
                refine C30.out.mono ?_
                rintro e w30 ⟨v30, rfl, r30, s30⟩
                have S30 := hide (SX8.out.trans s30)
                have H30 := hide (Nat.le_trans HX8.out s30.1.size)
                generalize hO30 : OK ++ numE y.o = O30 at r30
                have E30 := hide hO30
                have L30 := hide (show O30.length ≤ (OK).length + 10 by rw [← hO30, List.length_append]; have := numE_length y.o; omega)
                have R30 := hide r30
                obtain ⟨fa30, fc30, hv30⟩ := row_form r30
                subst hv30
                clear r30 s30 hO30 C30
                clear hy0 y4
                obtain ⟨gg30, oo30, es30, hg30, _, hes30, he30, _⟩ := HRW.out _ S30.out
                cases hg30
                subst he30
                have hy1 := hes30 1 (.int .i64 y.a) rfl
                have yy1 := cell_of (o := 4) (S30.out.box H5f.out (by decide)) rfl
                clear hes30
                have C31 := hide (gnumber_any R30.out H30.out (n := y.a) HBA.out.1 HBA.out.2 (by have := LK.out; have := Z24.out; have := L30.out; omega))
                go_wp2_with fail
                refine C31.out.mono ?_
                rintro e w31 ⟨v31, rfl, r31, s31⟩
                have S31 := hide (S30.out.trans s31)
                have H31 := hide (Nat.le_trans H30.out s31.1.size)
                generalize hO31 : O30 ++ numE y.a = O31 at r31
                have E31 := hide hO31
                have L31 := hide (show O31.length ≤ (O30).length + 10 by rw [← hO31, List.length_append]; have := numE_length y.a; omega)
                have R31 := hide r31
                obtain ⟨fa31, fc31, hv31⟩ := row_form r31
                subst hv31
                clear r31 s31 hO31 C31
                clear hy1 yy1
                obtain ⟨gg31, oo31, es31, hg31, _, hes31, he31, _⟩ := HRW.out _ S31.out
                cases hg31
                subst he31
                have hy2 := hes31 2 (.int .i64 y.b) rfl
                have yy2 := cell_of (o := 4) (S31.out.box H5f.out (by decide)) rfl
                clear hes31
                have C32 := hide (gnumber_any R31.out H31.out (n := y.b) HBB2.out.1 HBB2.out.2 (by have := LK.out; have := Z24.out; have := L30.out; have := L31.out; omega))
                go_wp2_with fail
                refine C32.out.mono ?_
                rintro e w32 ⟨v32, rfl, r32, s32⟩
                have S32 := hide (S31.out.trans s32)
                have H32 := hide (Nat.le_trans H31.out s32.1.size)
                generalize hO32 : O31 ++ numE y.b = O32 at r32
                have E32 := hide hO32
                have L32 := hide (show O32.length ≤ (O31).length + 10 by rw [← hO32, List.length_append]; have := numE_length y.b; omega)
                have R32 := hide r32
                obtain ⟨fa32, fc32, hv32⟩ := row_form r32
                subst hv32
                clear r32 s32 hO32 C32
                clear hy2 yy2
                have HIE := hide (show insE y = numE y.o ++ numE y.a ++ numE y.b from rfl)
                go_wp2
                go_roundw
                case rel =>
                  refine ⟨k + 1, ?_, hkl, ?_, S32.out, H32.out⟩
                  · go_num
                  · have h1 := R32.out
                    rw [HF8.out, EK.out, HIE.out, ← List.append_assoc, ← List.append_assoc, E30.out, E31.out, E32.out]
                    exact h1
                case measure => rw [intOf_int]; simp [intOf]; omega
              · obtain rfl : k = x.co.length := by omega
                have l8 : decide (x.co.length < x.co.length) = false := by simp
                rw [List.take_length] at EK
                go_wp2
                go_roundw
                case rel =>
                  refine ⟨j6 + 1, ?_, ?_, ?_, HS5.out.trans SX8.out, HX8.out⟩
                  · go_num
                  · rw [HN2.out]; exact hlt6
                  · have h1 := RX8.out
                    rw [HF.out, EY6.out, HFE.out]
                    rw [← List.append_assoc, ← List.append_assoc, ← List.append_assoc, ← List.append_assoc, ← List.append_assoc, E20.out, E21.out, E22.out, E23.out, E24.out, EK.out]
                    exact h1
                case measure => rw [intOf_int]; simp [intOf]; omega

          · obtain rfl : j6 = N2 := by omega
            have l6 : decide (j6 < j6) = false := by simp
            rw [List.take_of_length_le (by rw [HN2.out]; exact Nat.le_refl _)] at EY6
            clear PP
            have E6 := hide EY6.out
            have S6 := hide SX6.out
            have H6 := hide HX6.out
            have R6 := hide RX6.out
            have Z6 := hide (show OY.length ≤ 13000000000 by have := LY6.out; have := Z7.out; omega)
            clear SX6 HX6 RX6 LY6 EY6
            generalize wr = WB at *
            generalize OY = O6 at *
            have k2 : WB.cell? ⟨w.heap.size, 2, none⟩ = some (.slice a3 N3 n3) := cell_of (KW.out WB S6.out).2.1 rfl
            have C8 := hide (gnumber_any R6.out H6.out (n := (N3 : Int)) (by omega) (by omega) (by have := Z6.out; omega))
            go_wp2_with fail
            refine C8.out.mono ?_
            rintro e w8 ⟨v8, rfl, r8, s8⟩
            have S8 := hide (S6.out.trans s8)
            have H8 := hide (Nat.le_trans H6.out s8.1.size)
            generalize hO8 : O6 ++ numE (N3 : Int) = O8 at r8
            have E8 := hide hO8
            have L8 := hide (show O8.length ≤ (O6).length + 10 by rw [← hO8, List.length_append]; have := numE_length (N3 : Int); omega)
            have R8 := hide r8
            obtain ⟨fa8, fc8, hv8⟩ := row_form r8
            subst hv8
            clear r8 s8 hO8 C8
            have Z8 := hide (show O8.length ≤ 14000000000 by have := L8.out; have := Z6.out; omega)
            clear k2 q6
            go_wp2
            go_loopw [4, 9] (fun o a wr => GlR w2.heap.size W3 intsE p.ta O8 o a wr) (fun _ a _ => N3 - (intOf a).toNat)
            case atStart => exact ⟨0, rfl, Nat.zero_le _, by simpa using R8.out, S8.out, H8.out⟩
            case round =>
              obtain ⟨j9, rfl, hj, RY, SY, hBr⟩ := hrel
              rw [HN3.out] at hj
              have SX9 := hide SY
              have HX9 := hide hBr
              generalize hOY : O8 ++ (p.ta.take j9).flatMap intsE = OY at RY
              have EY9 := hide hOY
              have LY9 := hide (show OY.length ≤ O8.length + 1024 * 50000 by rw [← hOY]; exact take_bound HG3.out (by rw [HN3.out]; exact HM.out.2.2.1) _ _)
              have RX9 := hide RY
              obtain ⟨sa, sc, hv⟩ := row_form RY
              subst hv
              have q9 := cell_of (o := 2) (KW.out _ SY).2.1 rfl
              have PP := (KW.out _ SY).1
              clear RY SY hBr hOY
              by_cases hlt9 : j9 < N3
              · obtain ⟨x, hx⟩ : ∃ x, p.ta[j9]? = some x := ⟨p.ta[j9]'(by rw [HN3.out]; exact hlt9), by simp⟩
                have l9 : decide (j9 < N3) = true := by simpa using hlt9
                have HF := hide (flat_next (E := intsE) hx O8)
                have hmem := List.mem_of_getElem? hx
                obtain ⟨g, o, cs, rfl, hgl, hcs, y1, rfl, rr⟩ := PP.ta.get hx
                have t1 := hcs 0 y1 rfl
                rw [Nat.mul_one, Nat.add_zero] at t1
                have CX := hide (glist_any RX9.out HX9.out HBq.out rr (by have := LY9.out; have := Z8.out; have := HG3.out x hmem; omega))
                obtain ⟨f1, g1, hy1, _⟩ := rr
                subst hy1
                clear hcs hx hgl PP hmem
                go_wp2_with fail
                refine CX.out.mono ?_
                rintro e wz ⟨vz, rfl, rz, sz⟩
                have SZ := hide (SX9.out.trans sz)
                have HZ := hide (Nat.le_trans HX9.out sz.1.size)
                have RZ := hide rz
                generalize hOZ : OY ++ intsE x = OZ at rz
                have EZ := hide hOZ
                obtain ⟨za, zc, hvz⟩ := row_form rz
                subst hvz
                clear rz sz hOZ CX
                go_wp2
                go_roundw
                case rel =>
                  refine ⟨j9 + 1, ?_, ?_, ?_, SZ.out, HZ.out⟩
                  · go_num
                  · rw [HN3.out]; exact hlt9
                  · have h1 := RZ.out
                    rw [HF.out, EY9.out]

                    exact h1
                case measure => rw [intOf_int]; simp [intOf]; omega

              · obtain rfl : j9 = N3 := by omega
                have l9 : decide (j9 < j9) = false := by simp
                rw [List.take_of_length_le (by rw [HN3.out]; exact Nat.le_refl _)] at EY9
                clear PP
                have E9 := hide EY9.out
                have S9 := hide SX9.out
                have H9 := hide HX9.out
                have R9 := hide RX9.out
                have Z9 := hide (show OY.length ≤ 15000000000 by have := LY9.out; have := Z8.out; omega)
                clear SX9 HX9 RX9 LY9 EY9
                generalize wr = WC at *
                generalize OY = O9 at *
                have k3 : WC.cell? ⟨w.heap.size, 3, none⟩ = some (.slice a4 N4 n4) := cell_of (KW.out WC S9.out).2.1 rfl
                have C11 := hide (gnumber_any R9.out H9.out (n := (N4 : Int)) (by omega) (by omega) (by have := Z9.out; omega))
                go_wp2_with fail
                refine C11.out.mono ?_
                rintro e w11 ⟨v11, rfl, r11, s11⟩
                have S11 := hide (S9.out.trans s11)
                have H11 := hide (Nat.le_trans H9.out s11.1.size)
                generalize hO11 : O9 ++ numE (N4 : Int) = O11 at r11
                have E11 := hide hO11
                have L11 := hide (show O11.length ≤ (O9).length + 10 by rw [← hO11, List.length_append]; have := numE_length (N4 : Int); omega)
                have R11 := hide r11
                obtain ⟨fa11, fc11, hv11⟩ := row_form r11
                subst hv11
                clear r11 s11 hO11 C11
                have Z11 := hide (show O11.length ≤ 16000000000 by have := L11.out; have := Z9.out; omega)
                clear k3 q9
                go_wp2
                go_loopw [4, 10] (fun o a wr => GlR w2.heap.size W3 strE p.st O11 o a wr) (fun _ a _ => N4 - (intOf a).toNat)
                case atStart => exact ⟨0, rfl, Nat.zero_le _, by simpa using R11.out, S11.out, H11.out⟩
                case round =>
                  obtain ⟨j10, rfl, hj, RY, SY, hBr⟩ := hrel
                  rw [HN4.out] at hj
                  have SX10 := hide SY
                  have HX10 := hide hBr
                  generalize hOY : O11 ++ (p.st.take j10).flatMap strE = OY at RY
                  have EY10 := hide hOY
                  have LY10 := hide (show OY.length ≤ O11.length + 1024 * 2000 by rw [← hOY]; exact take_bound (E := strE) (c := 2000) (fun x hx => by have := HG4.out x hx; have := numE_length x.length; unfold strE; rw [List.length_append]; omega) (by rw [HN4.out]; exact HM.out.2.2.2) _ _)
                  have RX10 := hide RY
                  obtain ⟨sa, sc, hv⟩ := row_form RY
                  subst hv
                  have q10 := cell_of (o := 3) (KW.out _ SY).2.1 rfl
                  have PP := (KW.out _ SY).1
                  clear RY SY hBr hOY
                  by_cases hlt10 : j10 < N4
                  · obtain ⟨x, hx⟩ : ∃ x, p.st[j10]? = some x := ⟨p.st[j10]'(by rw [HN4.out]; exact hlt10), by simp⟩
                    have l10 : decide (j10 < N4) = true := by simpa using hlt10
                    have HF := hide (flat_next (E := strE) hx O11)
                    have hmem := List.mem_of_getElem? hx
                    obtain ⟨g, o, cs, rfl, hgl, hcs, rfl⟩ := PP.st.get hx
                    have t1 := hcs 0 _ rfl
                    rw [Nat.mul_one, Nat.add_zero] at t1
                    have hxl := HG4.out x hmem
                    have HXL := hide hxl
                    have bxl : (x.length : Int) ≤ 1024 := by omega
                    have hsz : (⟨x.toArray⟩ : ByteArray).size = x.length := by simp [ByteArray.size]
                    have HX0 := hide hx
                    clear hcs hx hgl PP hmem hxl
                    have C40 := hide (gnumber_any RX10.out HX10.out (n := (x.length : Int)) (by omega) (by omega) (by have := LY10.out; have := Z11.out; omega))
                    go_wp2_with fail
                    refine C40.out.mono ?_
                    rintro e w40 ⟨v40, rfl, r40, s40⟩
                    have S40 := hide (SX10.out.trans s40)
                    have H40 := hide (Nat.le_trans HX10.out s40.1.size)
                    generalize hO40 : OY ++ numE (x.length : Int) = O40 at r40
                    have E40 := hide hO40
                    have L40 := hide (show O40.length ≤ (OY).length + 10 by rw [← hO40, List.length_append]; have := numE_length (x.length : Int); omega)
                    have R40 := hide r40
                    obtain ⟨fa40, fc40, hv40⟩ := row_form r40
                    subst hv40
                    clear r40 s40 hO40 C40
                    clear t1 q10
                    have q40 := cell_of (o := 3) (KW.out _ S40.out).2.1 rfl
                    obtain ⟨g40, o40, cs40, hg40, _, hcs40, he40⟩ := (KW.out _ S40.out).1.st.get HX0.out
                    cases hg40
                    subst he40
                    have t40 := hcs40 0 _ rfl
                    rw [Nat.mul_one, Nat.add_zero] at t40
                    have h0 : 0 < O40.length := by rw [← E40.out, List.length_append]; have := numE_pos x.length; omega
                    obtain ⟨gs, cps, ws, hrun, r41, s41⟩ := R40.out.apps x h0 (by have := LY10.out; have := Z11.out; have := L40.out; have := HXL.out; omega) H40.out
                    have HRUN := hide hrun
                    have R41 := hide r41
                    have S41 := hide (S40.out.trans s41)
                    have H41 := hide (Nat.le_trans H40.out s41.1.size)
                    have HSE := hide (show strE x = numE x.length ++ x from rfl)
                    clear hcs40 hrun r41 s41 h0
                    generalize hol : O40.length = ol40 at *
                    clear hol
                    go_wp2_with (at_builtin; refine wpList_append_eq rfl _ _ 28 9 rfl rfl rfl HRUN.out ?_)
                    go_wp2
                    go_roundw
                    case rel =>
                      refine ⟨j10 + 1, ?_, ?_, ?_, S41.out, H41.out⟩
                      · go_num
                      · rw [HN4.out]; exact hlt10
                      · have h1 := R41.out
                        rw [HF.out, EY10.out, HSE.out, ← List.append_assoc, E40.out]
                        exact h1
                    case measure => rw [intOf_int]; simp [intOf]; omega

                  · obtain rfl : j10 = N4 := by omega
                    have l10 : decide (j10 < j10) = false := by simp
                    rw [List.take_of_length_le (by rw [HN4.out]; exact Nat.le_refl _)] at EY10
                    clear PP
                    have HFULL := hide (show OY = pgE p by
                      rw [← EY10.out, ← E11.out, ← E9.out, ← E8.out, ← E6.out, ← E7.out, ← E5.out, ← E4.out]
                      simp only [pgE, lstE, HN1.out, HN2.out, HN3.out, HN4.out, List.append_assoc])
                    have HBF := hide (KW.out _ SX10.out).2.2
                    have HRow := hide RX10.out
                    by_cases hlong : 4194304 < OY.length
                    · have dl : decide ((4194304 : Int) < (OY.length : Int)) = true := by simp; omega
                      have HLong := hide hlong
                      clear hlong
                      go_wp2
                      go_ret2
                      refine ⟨.inr (.inl ⟨HD.out, ?_, rfl⟩), HBF.out⟩
                      rw [← HFULL.out]
                      exact HLong.out
                    · have dl : decide ((4194304 : Int) < (OY.length : Int)) = false := by simp; omega
                      have HLong := hide (show OY.length ≤ MB by simp only [MB]; omega)
                      clear hlong
                      go_wp2
                      go_ret2
                      refine ⟨.inr (.inr ⟨HD.out, ?_, _, rfl, ?_⟩), HBF.out⟩
                      · rw [← HFULL.out]; exact HLong.out
                      · have h1 := HRow.out
                        have h2 : w.heap.size ≤ w2.heap.size := HWq.out
                        rw [← HFULL.out]
                        refine ⟨h1.1, ?_⟩
                        rcases h1.2 with h | ⟨g, cap, cur, e1, e2, e3⟩
                        · exact .inl h
                        · exact .inr ⟨g, cap, cur, e1, Nat.le_trans h2 e2, e3⟩
end
end Go.Proofs.Ytgkpfpaohibcjaa
