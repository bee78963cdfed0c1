/- The law ArenaApart. -/
import Derived.Test.YteeadmkljcjjkaaArV
namespace Go.Proofs.Yteeadmkljcjjkaa
open Go.RowKit Go.Maps

/-- What holds at the head of the first loop. -/
structure R1 (w0 w : World) (A0 n0 : Nat) (va vs vh i : Value) : Prop where
  ex : ∃ (ats szs : List Nat) (hel : List Bool) (X : Wh) (s : As) (k : Nat), i = .int .i64 ats.length ∧ ats.length ≤ 40 ∧ ats.length ≤ n0 ∧ Held s ats szs hel ∧ Lies X w s k ∧ k ≤ 2 * ats.length ∧ X.A = A0 ∧ X.B = w0.heap.size ∧ Ap w0.heap.size w X va vs vh ats szs hel ∧ Below w0.heap.size w0 w
theorem owns_empty (w : World) (e : TypeId) (o : Nat) (ho : o ≤ w.heap.size) : (w.alloc (.cells #[] e)).ownsRow o e 1 (.slice (some ⟨w.heap.size, 0, none⟩) 0 0) 0 [] :=
  ⟨rfl, .inr ⟨w.heap.size, 0, #[], rfl, ho, heap_new _ _ rfl, Nat.le_refl _, by decide, rfl, rfl⟩⟩
theorem set_same {α : Type} {l : List α} {j : Nat} {b : α} (h : l[j]? = some b) : l.set j b = l := by
  apply List.ext_getElem?
  intro i
  rw [List.getElem?_set]
  by_cases hi : j = i
  · subst hi; rw [if_pos rfl, if_pos (get_lt h), h]
  · rw [if_neg hi]
set_option maxRecDepth 100000 in
set_option maxHeartbeats 20000000 in
theorem apart_law (v0 v1 : Value) (la lb : List Nat) (w : World) (hs0 : Bts w v0 la) (hs1 : Bts w v1 lb) : Calls Try.prog 5 #[v0, v1] w fun e w' => e = .returned (.bool true) ∧ Below w.heap.size w w' := by
  have n1 := new_any 4000 w (by decide) w.heap.size (Nat.le_refl _)
  obtain ⟨a0, c0, rfl, hb0⟩ := hs0
  obtain ⟨a1, c1, rfl, hb1⟩ := hs1
  have HB0 := hide hb0
  have HB1 := hide hb1
  clear hb0 hb1
  generalize hn0 : la.length = n0 at *
  generalize hn1 : lb.length = n1' at *
  have HN0 := hide hn0
  have HN1 := hide hn1
  clear hn0 hn1
  go_enter Try.func5, Try.ntmps5
  go_wp2_with fail
  refine n1.mono ?_
  rintro e w1 ⟨rfl, L1, b1⟩
  clear n1
  go_wp2_with fail
  refine (awake_any w1).mono ?_
  rintro e w2 ⟨rfl, b2⟩
  have L2 := hide (L1.below b2)
  have B2 := hide (b1.trans (b2.mono b1.size))
  clear L1 b1 b2
  go_wp2
  go_loopw [7, 8, 9, 10] (fun va vs vh i wr => R1 w wr (newX w.heap.size w).A n0 va vs vh i) (fun _ _ _ i _ => 40 - (intOf i).toNat)
  case atStart =>
    have bz := B2.out.size
    refine ⟨[], [], [], newX w.heap.size w, newS 4000, 0, rfl, by decide, Nat.zero_le _, held_new, ((L2.out.alloc _).alloc _).alloc _, Nat.le_refl _, rfl, rfl, ?_, (((B2.out.alloc bz _).alloc (by simp; omega) _).alloc (by simp; omega) _)⟩
    have hno : ∀ g, w2.heap.size ≤ g → ¬ (newX w.heap.size w).own g := fun g hg hx => by have := (L2.out.own_lt hx).2; omega
    refine ⟨((owns_empty w2 3 w.heap.size bz).alloc _).alloc _, ?_, ?_, ?_, ?_, ?_, ?_⟩
    · have := (owns_empty (w2.alloc (.cells #[] 3)) 3 w.heap.size (by simp; omega)).alloc (.cells #[] 4)
      simpa [addrs] using this
    · have := owns_empty ((w2.alloc (.cells #[] 3)).alloc (.cells #[] 3)) 4 w.heap.size (by simp; omega)
      simpa [bools] using this
    · intro g hg; simp [Value.ownBlock] at hg; exact hno g (by omega)
    · intro g hg; simp [Value.ownBlock] at hg; exact hno g (by omega)
    · intro g hg; simp [Value.ownBlock] at hg; exact hno g (by omega)
    · right; simp [Value.ownBlock]
  case round =>
    obtain ⟨ats, szs, hel, X, s, k, rfl, hl40, hln, HH, LL, hk, hXA, hXB, AP, BB⟩ := hrel.ex
    clear hrel L2 B2
    have hHH := hide HH
    have hLL := hide LL
    have hAP := hide AP
    have hBB := hide BB
    have hXA' := hide hXA
    have hXB' := hide hXB
    obtain ⟨aa, ca, rfl⟩ := row_form AP.ra
    obtain ⟨as_, cs, hvs⟩ := row_form AP.rs
    rw [HH.l1] at hvs
    subst hvs
    obtain ⟨ah, ch, hvh⟩ := row_form AP.rh
    rw [HH.l2] at hvh
    subst hvh
    clear hXA hXB HH LL AP BB
    by_cases hrun : ats.length < n0 ∧ ats.length < 40
    · obtain ⟨hr1, hr2⟩ := hrun
      have d1 : decide ((ats.length : Int) < (n0 : Int)) = true := by simp; omega
      have d2 : decide ((ats.length : Int) < 40) = true := by simp; omega
      obtain ⟨u, hu⟩ : ∃ u, la[ats.length]? = some u := ⟨la[ats.length]'(by rw [HN0.out]; exact hr1), by simp⟩
      obtain ⟨hu1, g0, o0, rfl, hg0, hcu⟩ := HB0.out _ u hu
      have cu : wr.cell? ⟨g0, o0 + ats.length, none⟩ = some (.int .u8 (u : Int)) := by rw [hBB.out.cell (p := ⟨g0, o0 + ats.length, none⟩) hg0]; exact hcu
      have hu2 : (u : Int) ≤ 255 := by omega
      obtain ⟨n, hn⟩ : ∃ n, n = u % 20 + 1 := ⟨_, rfl⟩
      have hnv := hide (show (u : Int) % 20 + 1 = (n : Int) by omega)
      have hn1 : 1 ≤ n := by omega
      have hn2 : n ≤ 20 := by omega
      obtain ⟨x, s', hal, F⟩ := hHH.out.alloc hr2 hn1 hn2
      have ha := alloc_any hLL.out hHH.out.inv (n : Int) (by omega)
      rw [Int.toNat_natCast, show X.p = (newX w.heap.size w).p by simp [Wh.p, hXA'.out]] at ha
      have hFx := F.given.within
      have hFf := F.given.inv.fits
      have hFl := F.given.len
      rw [hHH.out.len] at hFl
      have hcl := cls_20 hn1 hn2
      have hF := hide F
      have hAl := hide hal
      clear hu hcu hn F hal
      go_wp2_with fail
      rw [hnv.out]
      refine ha.mono ?_
      rintro e w3 ⟨X3, S3, hcase⟩
      obtain ⟨rfl, L3⟩ : e = two ((x : Int), 0) ∧ Lies X3 w3 s' (k + 1) := by
        rcases hcase with ⟨h, _⟩ | ⟨_, h, _⟩ | ⟨q, t, _, h, he, hl⟩
        · omega
        · rw [hAl.out] at h; cases h
        · rw [hAl.out] at h; cases h; exact ⟨he, hl⟩
      have P3 := hide (hAP.out.step S3)
      have B3 := hide (show Below w.heap.size w w3 by have := S3.below hLL.out (w0 := w) (by rw [hXB'.out]; exact hBB.out); rwa [hXB'.out] at this)
      have A3 := hide (S3.A.trans hXA'.out)
      have BX3 := hide (S3.B.trans hXB'.out)
      have L3' := hide L3
      have bx1 : 1 ≤ (x : Int) := by omega
      have hcle := (cls_le hn1 (by omega)).1
      have bx2 : (x : Int) + n ≤ 4001 := by omega
      have d3 : decide ((x : Int) < 1) = false := by simp; omega
      have d4 : decide (4000 < (x : Int) + n - 1) = false := by simp; omega
      have bn1 : 1 ≤ (n : Int) := by omega
      have bn2 : (n : Int) ≤ 20 := by omega
      clear ha hcase S3 L3 hAP hLL hXA' hXB' hBB cu hAl
      go_wp2
      go_loopw [14] (fun kv wr2 => ∃ (j q : Nat), j ≤ ats.length ∧ kv = .int .i64 j ∧ wr2 = w3.drewN q) (fun kv _ => ats.length - (intOf kv).toNat)
      case atStart => exact ⟨0, 0, Nat.zero_le _, rfl, rfl⟩
      case round =>
        obtain ⟨j, q, hj, rfl, rfl⟩ := hrel
        by_cases hjl : j < ats.length
        · as_aux_lemma =>
          have e1 : decide ((j : Int) < (ats.length : Int)) = true := by simp; omega
          have bj : (j : Int) < (ats.length : Int) := by omega
          obtain ⟨b, hb⟩ : ∃ b, hel[j]? = some b := ⟨hel[j]'(by rw [hHH.out.l2]; exact hjl), by simp⟩
          obtain ⟨gh, caph, hvh, chh, _, _⟩ := row_cell P3.out.rh (bools_get hb)
          obtain rfl : ah = some ⟨gh, 0, none⟩ := (Value.slice.inj hvh).1
          clear hvh
          cases b with
          | false =>
            clear hb
            go_wp2
            go_quiet (fail)
            go_wp2
            go_roundw
            case rel => exact ⟨j + 1, q + nq, by omega, by go_num, rfl⟩
            case measure => simp [intOf]; omega
          | true =>
            obtain ⟨_, a, z, ea, ez, hpa, hapt, _, _⟩ := hF.out.pc j hb
            have hra := hF.out.given.inv.row.at hpa
            obtain ⟨hz1, hz2⟩ := hHH.out.sz j z ez
            have hz3 := (cls_le hz1 (by omega)).1
            simp only at hra
            obtain ⟨ga, capa, hva, caa, _, _⟩ := row_cell P3.out.ra (addrs_get ea)
            obtain rfl : aa = some ⟨ga, 0, none⟩ := (Value.slice.inj hva).1
            obtain ⟨gs, caps, hvs, css, _, _⟩ := row_cell P3.out.rs (addrs_get ez)
            obtain rfl : as_ = some ⟨gs, 0, none⟩ := (Value.slice.inj hvs).1
            have ba1 : (a : Int) ≤ 4001 := by omega
            have bz1 : (z : Int) ≤ 20 := by omega
            have ba0 : 0 ≤ (a : Int) := by omega
            have bz0 : 0 ≤ (z : Int) := by omega
            clear hva hvs hb ea ez hpa hra
            by_cases hab : a + z ≤ x
            · have e2 : decide ((x : Int) < (a : Int) + z) = false := by simp; omega
              go_wp2
              go_quiet (fail)
              go_wp2
              go_roundw
              case rel => exact ⟨j + 1, q + nq, by omega, by go_num, rfl⟩
              case measure => simp [intOf]; omega
            · have e2 : decide ((x : Int) < (a : Int) + z) = true := by simp; omega
              have e3 : decide ((a : Int) < (x : Int) + n) = false := by simp; omega
              go_wp2
              go_quiet (fail)
              go_wp2
              go_roundw
              case rel => exact ⟨j + 1, q + nq, by omega, by go_num, rfl⟩
              case measure => simp [intOf]; omega
        · obtain rfl : j = ats.length := by omega
          have P4 := hide (P3.out.drewN q)
          have B4 := hide (below_drewN B3.out q)
          have L4 := hide (L3'.out.drewN q)
          clear P3 B3 L3' hj
          revert P4 B4 L4
          generalize w3.drewN q = w4
          intro P4 B4 L4
          have bi : (ats.length : Int) < 40 := by omega
          go_wp2
          go_loopw [15] (fun tv wr3 => ∃ t : Nat, t ≤ n ∧ tv = .int .i64 t ∧ Hid (Lies X3 wr3 (fillS s' x (1000 * (ats.length : Int)) t) (k + 1)) ∧ Hid (Ap w.heap.size wr3 X3 (.slice aa ats.length ca) (.slice as_ ats.length cs) (.slice ah ats.length ch) ats szs hel) ∧ Hid (Below w.heap.size w wr3)) (fun tv _ => n - (intOf tv).toNat)
          case atStart => exact ⟨0, Nat.zero_le _, rfl, L4.out, P4.out, B4.out⟩
          case round =>
            obtain ⟨t, ht, rfl, LT, PT, BT⟩ := hrel
            clear P4 B4 L4
            by_cases htn : t < n
            · as_aux_lemma =>
              have e1 : decide ((t : Int) < (n : Int)) = true := by simp; omega
              have bt : (t : Int) < 20 := by omega
              obtain ⟨hz1, hz2⟩ := hF.out.zero (1000 * (ats.length : Int)) htn
              have IT := fillS_inv hF.out.given.inv x (1000 * (ats.length : Int)) t
              have gt := get_any ((x + t : Nat) : Int) _ LT.out IT (by omega)
              rw [hz1, show X3.p = (newX w.heap.size w).p by simp [Wh.p, A3.out], show (((x + t : Nat)) : Int) = (x : Int) + t from by omega] at gt
              have ITh := hide IT
              have hz2' := hide hz2
              clear hz1 hz2 IT
              go_wp2_with fail
              refine gt.mono ?_
              rintro e w5 ⟨rfl, b5⟩
              have L5 := LT.out.below b5
              have st := set_any ((x + t : Nat) : Int) (1000 * (ats.length : Int) + t) w5 L5 ITh.out (by omega)
              rw [hz2'.out, show X3.p = (newX w.heap.size w).p by simp [Wh.p, A3.out], show (((x + t : Nat)) : Int) = (x : Int) + t from by omega] at st
              have S5 := hide (Step.of_below (X := X3) b5)
              clear gt L5 b5
              go_wp2_with fail
              refine st.mono ?_
              rintro e w6 ⟨rfl, L6, S6⟩
              have SS := hide (S5.out.trans S6)
              have L6' := hide L6
              clear st L6 S6
              go_wp2
              go_roundw
              case rel =>
                refine ⟨t + 1, by omega, by go_num, L6'.out, PT.out.step SS.out, ?_⟩
                have := SS.out.below LT.out (w0 := w) (by rw [BX3.out]; exact BT.out)
                rwa [BX3.out] at this
              case measure => simp [intOf]; omega
            · obtain rfl : t = n := by omega
              have HN := hide (hF.out.fill hHH.out hn1 hn2)
              obtain ⟨va', vs', vh', w7, w8, w9, r1, r2, r3, P9, L9, B9, z9⟩ := PT.out.push LT.out BT.out.size (by omega) hHH.out.l1 hHH.out.l2 x t
              have hl1 : (szs ++ [t]).length = ats.length + 1 := by rw [List.length_append, hHH.out.l1]; rfl
              have hl2 : (hel ++ [true]).length = ats.length + 1 := by rw [List.length_append, hHH.out.l2]; rfl
              have hl3 : (ats ++ [x]).length = ats.length + 1 := by rw [List.length_append]; rfl
              obtain ⟨aa', ca', rfl⟩ := row_form P9.ra
              obtain ⟨as', cs', rfl⟩ := row_form P9.rs
              obtain ⟨ah', ch', rfl⟩ := row_form P9.rh
              have P9h := hide P9
              rw [hl1] at r2 P9h
              rw [hl2] at r3 P9h
              rw [hl3] at r1 P9h
              have L9h := hide L9
              have B9h := hide (B9 BT.out)
              have HL := hide (And.intro hl1 (And.intro hl2 hl3))
              clear hHH hF P9 L9 B9 LT PT BT hl1 hl2 hl3
              by_cases hfr : ats.length < n1'
              · have f1 : decide ((ats.length : Int) < (n1' : Int)) = true := by simp; omega
                obtain ⟨f, hf⟩ : ∃ f, lb[ats.length]? = some f := ⟨lb[ats.length]'(by rw [HN1.out]; exact hfr), by simp⟩
                obtain ⟨hf1, gf, of_, rfl, hgf, hcf⟩ := HB1.out _ f hf
                have cf : w9.cell? ⟨gf, of_ + ats.length, none⟩ = some (.int .u8 (f : Int)) := by rw [B9h.out.cell (p := ⟨gf, of_ + ats.length, none⟩) hgf]; exact hcf
                have hf2 : (f : Int) ≤ 255 := by omega
                clear hf hcf
                by_cases hbig : 128 ≤ f
                · as_aux_lemma =>
                  have f2 : decide (128 ≤ (f : Int)) = true := by simp; omega
                  obtain ⟨r, hr⟩ : ∃ r, r = f % (ats.length + 1) := ⟨_, rfl⟩
                  have hrl : r < ats.length + 1 := by rw [hr]; exact Nat.mod_lt _ (by omega)
                  have hrv : (f : Int) % ((ats.length : Int) + 1) = (r : Int) := by rw [hr, Int.natCast_emod]; rfl
                  have br : (r : Int) < (ats.length : Int) + 1 := by omega
                  obtain ⟨hb, hhb⟩ : ∃ b, (hel ++ [true])[r]? = some b := ⟨(hel ++ [true])[r]'(by rw [HL.out.2.1]; exact hrl), by simp⟩
                  obtain ⟨gh, caph, hvh, chh, fhh, _⟩ := row_cell P9h.out.rh (bools_get hhb)
                  obtain rfl : ah' = some ⟨gh, 0, none⟩ := (Value.slice.inj hvh).1
                  have bl : (0 : Int) < (ats.length : Int) + 1 := by omega
                  clear hvh hr
                  have hfm : (f : Int).tmod ((ats.length : Int) + 1) = (f : Int) % ((ats.length : Int) + 1) := Int.tmod_eq_emod_of_nonneg (by omega)
                  cases hb with
                  | false =>
                    have HHB := hide hhb
                    clear hhb
                    go_wp2_with (first | (at_builtin; first | (refine wpList_append_eq rfl _ _ 29 rfl rfl rfl r1 ?_; clear r1) | (refine wpList_append_eq rfl _ _ 29 rfl rfl rfl r2 ?_; clear r2) | (refine wpList_append_eq rfl _ _ 52 rfl rfl rfl r3 ?_; clear r3)) | fail)
                    have hun := P9h.out.unhold L9h.out (g := gh) (cap := ch') (j := r) (by rw [HL.out.2.1])
                    rw [set_same HHB.out] at hun
                    exact ⟨⟨ats ++ [x], szs ++ [t], hel ++ [true], X3, _, k + 1, by rw [HL.out.2.2]; go_num, by rw [HL.out.2.2]; omega, by rw [HL.out.2.2]; omega, HN.out, hun.2.1, by rw [HL.out.2.2]; omega, A3.out, BX3.out, hun.1, hun.2.2 B9h.out⟩, by simp [intOf]; omega⟩
                  | true =>
                    have HHB := hide hhb
                    obtain ⟨jj, aj, pj, eaj, epj, hpj, hnj, HN2⟩ := HN.out.free hhb
                    obtain ⟨ga, capa, hva, caa, _, _⟩ := row_cell P9h.out.ra (addrs_get eaj)
                    obtain rfl : aa' = some ⟨ga, 0, none⟩ := (Value.slice.inj hva).1
                    have fr := free_some L9h.out HN.out.inv hpj hnj (by omega)
                    rw [show X3.p = (newX w.heap.size w).p by simp [Wh.p, A3.out], epj] at fr
                    have HN2h := hide HN2
                    clear hva HN2 hpj hnj hhb eaj epj
                    go_wp2_with (first | (at_builtin; first | (refine wpList_append_eq rfl _ _ 29 rfl rfl rfl r1 ?_; clear r1) | (refine wpList_append_eq rfl _ _ 29 rfl rfl rfl r2 ?_; clear r2) | (refine wpList_append_eq rfl _ _ 52 rfl rfl rfl r3 ?_; clear r3)) | fail)
                    refine fr.mono ?_
                    rintro e w10 ⟨rfl, X10, L10, S10⟩
                    have P10 := hide (P9h.out.step S10)
                    have L10h := hide L10
                    have A10 := hide (S10.A.trans A3.out)
                    have BX10 := hide (S10.B.trans BX3.out)
                    have B10 := hide (show Below w.heap.size w w10 by have := S10.below L9h.out (w0 := w) (by rw [BX3.out]; exact B9h.out); rwa [BX3.out] at this)
                    obtain ⟨gh2, caph2, hvh2, chh2, fhh2, _⟩ := row_cell (j := r) (u := .bool true) P10.out.rh (bools_get HHB.out)
                    obtain rfl : gh = gh2 := by have := (Value.slice.inj hvh2).1; cases this; rfl
                    clear fr L10 S10 hvh2
                    go_wp2
                    have hun := P10.out.unhold L10h.out (g := gh) (cap := ch') (j := r) (by rw [HL.out.2.1])
                    exact ⟨⟨ats ++ [x], szs ++ [t], (hel ++ [true]).set r false, X10, _, k + 1 + 1, by rw [HL.out.2.2]; go_num, by rw [HL.out.2.2]; omega, by rw [HL.out.2.2]; omega, HN2h.out, hun.2.1, by rw [HL.out.2.2]; omega, A10.out, BX10.out, hun.1, hun.2.2 B10.out⟩, by simp [intOf]; omega⟩
                · as_aux_lemma =>
                  have f2 : decide (128 ≤ (f : Int)) = false := by simp; omega
                  go_wp2_with (at_builtin; first | (refine wpList_append_eq rfl _ _ 29 rfl rfl rfl r1 ?_; clear r1) | (refine wpList_append_eq rfl _ _ 29 rfl rfl rfl r2 ?_; clear r2) | (refine wpList_append_eq rfl _ _ 52 rfl rfl rfl r3 ?_; clear r3))
                  exact ⟨⟨ats ++ [x], szs ++ [t], hel ++ [true], X3, _, k + 1, by rw [HL.out.2.2]; go_num, by rw [HL.out.2.2]; omega, by rw [HL.out.2.2]; omega, HN.out, L9h.out, by rw [HL.out.2.2]; omega, A3.out, BX3.out, P9h.out, B9h.out⟩, by simp [intOf]; omega⟩
              · as_aux_lemma =>
                have f1 : decide ((ats.length : Int) < (n1' : Int)) = false := by simp; omega
                go_wp2_with (at_builtin; first | (refine wpList_append_eq rfl _ _ 29 rfl rfl rfl r1 ?_; clear r1) | (refine wpList_append_eq rfl _ _ 29 rfl rfl rfl r2 ?_; clear r2) | (refine wpList_append_eq rfl _ _ 52 rfl rfl rfl r3 ?_; clear r3))
                go_wp2
                go_roundw
                case rel => exact ⟨ats ++ [x], szs ++ [t], hel ++ [true], X3, _, k + 1, by rw [HL.out.2.2]; go_num, by rw [HL.out.2.2]; omega, by rw [HL.out.2.2]; omega, HN.out, L9h.out, by rw [HL.out.2.2]; omega, A3.out, BX3.out, P9h.out, B9h.out⟩
                case measure => simp [intOf]; omega
    · have hex : ∃ (b1 b2 : Bool), decide ((ats.length : Int) < (n0 : Int)) = b1 ∧ decide ((ats.length : Int) < 40) = b2 ∧ (b1 && b2) = false := ⟨_, _, rfl, rfl, by simp; omega⟩
      obtain ⟨g1, g2, e1, e2, e3⟩ := hex
      have bi : (ats.length : Int) ≤ 40 := by omega
      cases g1 with
      | false =>
        have e1' : decide (ats.length < n0) = false := by simp at e1 ⊢; omega
        clear e2 e3 g2
        go_wp2
        go_loopw [19, 20] (fun cv iv wr4 => ∃ j : Nat, j ≤ ats.length ∧ iv = .int .i64 j ∧ cv = .int .i64 ((hel.take j).count true : Nat) ∧ Hid (Lies X wr4 s k) ∧ Hid (Ap w.heap.size wr4 X (.slice aa ats.length ca) (.slice as_ ats.length cs) (.slice ah ats.length ch) ats szs hel) ∧ Hid (Below w.heap.size w wr4)) (fun _ iv _ => ats.length - (intOf iv).toNat)
        case atStart => exact ⟨0, Nat.zero_le _, rfl, rfl, hLL.out, hAP.out, hBB.out⟩
        case round =>
          obtain ⟨j, hj, rfl, rfl, LL, PP, BB⟩ := hrel
          clear hLL hAP hBB
          by_cases hjl : j < ats.length
          · as_aux_lemma =>
            have q1 : decide ((j : Int) < (ats.length : Int)) = true := by simp; omega
            have bj : (j : Int) < (ats.length : Int) := by omega
            obtain ⟨b, hb⟩ : ∃ b, hel[j]? = some b := ⟨hel[j]'(by rw [hHH.out.l2]; exact hjl), by simp⟩
            obtain ⟨gh, caph, hvh, chh, _, _⟩ := row_cell PP.out.rh (bools_get hb)
            obtain rfl : ah = some ⟨gh, 0, none⟩ := (Value.slice.inj hvh).1
            have hct : (hel.take j).count true ≤ j := Nat.le_trans List.count_le_length (by simp; omega)
            have hcs := hide (show (hel.take (j + 1)).count true = (hel.take j).count true + if b then 1 else 0 by
              rw [List.take_add_one, hb, List.count_append]
              cases b <;> rfl)
            clear hvh
            generalize (hel.take j).count true = c at *
            cases b with
            | false =>
              clear hb
              go_wp2
              go_loopw [21] (fun kv wr5 => kv = .int .i64 0 ∧ Hid (wr5 = wr5) ∧ Hid (Lies X wr5 s k) ∧ Hid (Ap w.heap.size wr5 X (.slice aa ats.length ca) (.slice as_ ats.length cs) (.slice (some ⟨gh, 0, none⟩) ats.length ch) ats szs hel) ∧ Hid (Below w.heap.size w wr5) ∧ wr5.cell? ⟨gh, j, none⟩ = some (.bool false)) (fun _ _ => 0)
              case atStart => exact ⟨rfl, rfl, LL, PP, BB, chh⟩
              case round =>
                obtain ⟨rfl, _, LL, PP, BB, chh⟩ := hrel
                go_wp2
                go_roundw
                case rel => exact ⟨j + 1, by omega, by go_num, by rw [hcs.out]; rfl, LL, PP, BB⟩
                case measure => simp [intOf]; omega
            | true =>
              obtain ⟨_, a, z, ea, ez, _, _⟩ := hHH.out.pc j hb
              obtain ⟨hz1, hz2⟩ := hHH.out.sz j z ez
              have HB := hide hb
              have EA := hide ea
              have EZ := hide ez
              obtain ⟨ga, capa, hva, caa, _, _⟩ := row_cell PP.out.ra (addrs_get ea)
              obtain rfl : aa = some ⟨ga, 0, none⟩ := (Value.slice.inj hva).1
              obtain ⟨gs, caps, hvs, css, _, _⟩ := row_cell PP.out.rs (addrs_get ez)
              obtain rfl : as_ = some ⟨gs, 0, none⟩ := (Value.slice.inj hvs).1
              have bz1 : (z : Int) ≤ 20 := by omega
              have ba := (hHH.out.word (t := 0) hb ea ez (by omega)).2.2
              have ba1 : (a : Int) ≤ 4001 := by omega
              have ba0 : 1 ≤ (a : Int) := by omega
              clear hb ea ez hva hvs ba
              go_wp2
              go_loopw [21] (fun kv wr5 => ∃ t : Nat, t ≤ z ∧ kv = .int .i64 t ∧ Hid (Lies X wr5 s k) ∧ Hid (Ap w.heap.size wr5 X (.slice (some ⟨ga, 0, none⟩) ats.length ca) (.slice (some ⟨gs, 0, none⟩) ats.length cs) (.slice (some ⟨gh, 0, none⟩) ats.length ch) ats szs hel) ∧ Hid (Below w.heap.size w wr5) ∧ wr5.cell? ⟨gh, j, none⟩ = some (.bool true) ∧ wr5.cell? ⟨ga, j, none⟩ = some (.int .i64 (a : Int)) ∧ wr5.cell? ⟨gs, j, none⟩ = some (.int .i64 (z : Int))) (fun kv _ => z - (intOf kv).toNat)
              case atStart => exact ⟨0, Nat.zero_le _, rfl, LL, PP, BB, chh, caa, css⟩
              case round =>
                clear LL PP BB chh caa css
                obtain ⟨t, ht, rfl, LL, PP, BB, chh, caa, css⟩ := hrel
                by_cases htz : t < z
                · have q2 : decide ((t : Int) < (z : Int)) = true := by simp; omega
                  have bt : (t : Int) < 20 := by omega
                  obtain ⟨wg, wf, _, _⟩ := hHH.out.word HB.out EA.out EZ.out htz
                  have gt := get_any ((a + t : Nat) : Int) _ LL.out hHH.out.inv (by omega)
                  rw [wg, show X.p = (newX w.heap.size w).p by simp [Wh.p, hXA'.out], show (((a + t : Nat)) : Int) = (a : Int) + t from by omega] at gt
                  go_wp2_with fail
                  refine gt.mono ?_
                  rintro e w6 ⟨rfl, b6⟩
                  have L6 := hide (LL.out.below b6)
                  have P6 := hide (PP.out.step (Step.of_below b6))
                  have B6 := hide (BB.out.trans (b6.mono BB.out.size))
                  have hll := hide (And.intro (PP.out.ra.lt ga rfl).2 (And.intro (PP.out.rs.lt gs rfl).2 (PP.out.rh.lt gh rfl).2))
                  have chh6 : w6.cell? ⟨gh, j, none⟩ = some (.bool true) := by rw [b6.cell (p := ⟨gh, j, none⟩) hll.out.2.2]; exact chh
                  have caa6 : w6.cell? ⟨ga, j, none⟩ = some (.int .i64 (a : Int)) := by rw [b6.cell (p := ⟨ga, j, none⟩) hll.out.1]; exact caa
                  have css6 : w6.cell? ⟨gs, j, none⟩ = some (.int .i64 (z : Int)) := by rw [b6.cell (p := ⟨gs, j, none⟩) hll.out.2.1]; exact css
                  have ft := find_any ((a + t : Nat) : Int) _ L6.out hHH.out.inv (by omega)
                  rw [wf, show X.p = (newX w.heap.size w).p by simp [Wh.p, hXA'.out], show (((a + t : Nat)) : Int) = (a : Int) + t from by omega] at ft
                  clear gt LL PP BB chh caa css b6 hll wg wf
                  go_wp2_with fail
                  refine ft.mono ?_
                  rintro e w7 ⟨rfl, b7⟩
                  have hll := hide (And.intro (P6.out.ra.lt ga rfl).2 (And.intro (P6.out.rs.lt gs rfl).2 (P6.out.rh.lt gh rfl).2))
                  have chh7 : w7.cell? ⟨gh, j, none⟩ = some (.bool true) := by rw [b7.cell (p := ⟨gh, j, none⟩) hll.out.2.2]; exact chh6
                  have caa7 : w7.cell? ⟨ga, j, none⟩ = some (.int .i64 (a : Int)) := by rw [b7.cell (p := ⟨ga, j, none⟩) hll.out.1]; exact caa6
                  have css7 : w7.cell? ⟨gs, j, none⟩ = some (.int .i64 (z : Int)) := by rw [b7.cell (p := ⟨gs, j, none⟩) hll.out.2.1]; exact css6
                  have L7 := hide (L6.out.below b7)
                  have P7 := hide (P6.out.step (Step.of_below b7))
                  have B7 := hide (B6.out.trans (b7.mono B6.out.size))
                  clear ft L6 P6 B6 chh6 caa6 css6 b7 hll
                  go_wp2
                  go_roundw
                  case rel => exact ⟨t + 1, by omega, by go_num, L7, P7, B7, chh7, caa7, css7⟩
                  case measure => simp [intOf]; omega
                · have q2 : decide ((t : Int) < (z : Int)) = false := by simp; omega
                  have q2' : decide (t < z) = false := by simp; omega
                  have bc : (c : Int) ≤ 40 := by omega
                  go_wp2
                  go_roundw
                  case rel => exact ⟨j + 1, by omega, by go_num, by rw [hcs.out]; go_num, LL, PP, BB⟩
                  case measure => simp [intOf]; omega
          · obtain rfl : j = ats.length := by omega
            rw [show hel.take ats.length = hel by rw [← hHH.out.l2]; exact List.take_length]
            have lv := live_any LL.out hHH.out.inv
            rw [show X.p = (newX w.heap.size w).p by simp [Wh.p, hXA'.out], hHH.out.cnt] at lv
            have hc40 : hel.count true ≤ 40 := by have := List.count_le_length (a := true) (l := hel); rw [hHH.out.l2] at this; omega
            generalize hel.count true = c at *
            go_wp2_with fail
            refine lv.mono ?_
            rintro e w8 ⟨v, rfl, hv, b8⟩
            obtain ⟨ao, cp, rfl⟩ := row_form hv
            have B8 := BB.out.trans (b8.mono BB.out.size)
            clear lv hv b8
            go_wp2
            go_ret
            exact ⟨rfl, B8⟩
      | true =>
        cases g2 with
        | true => cases e3
        | false =>
          have e1' : decide (ats.length < n0) = true := by simp at e1 ⊢; omega
          have e2' : decide (ats.length < 40) = false := by simp at e2 ⊢; omega
          clear e3
          go_wp2
          go_loopw [19, 20] (fun cv iv wr4 => ∃ j : Nat, j ≤ ats.length ∧ iv = .int .i64 j ∧ cv = .int .i64 ((hel.take j).count true : Nat) ∧ Hid (Lies X wr4 s k) ∧ Hid (Ap w.heap.size wr4 X (.slice aa ats.length ca) (.slice as_ ats.length cs) (.slice ah ats.length ch) ats szs hel) ∧ Hid (Below w.heap.size w wr4)) (fun _ iv _ => ats.length - (intOf iv).toNat)
          case atStart => exact ⟨0, Nat.zero_le _, rfl, rfl, hLL.out, hAP.out, hBB.out⟩
          case round =>
            obtain ⟨j, hj, rfl, rfl, LL, PP, BB⟩ := hrel
            clear hLL hAP hBB
            by_cases hjl : j < ats.length
            · as_aux_lemma =>
              have q1 : decide ((j : Int) < (ats.length : Int)) = true := by simp; omega
              have bj : (j : Int) < (ats.length : Int) := by omega
              obtain ⟨b, hb⟩ : ∃ b, hel[j]? = some b := ⟨hel[j]'(by rw [hHH.out.l2]; exact hjl), by simp⟩
              obtain ⟨gh, caph, hvh, chh, _, _⟩ := row_cell PP.out.rh (bools_get hb)
              obtain rfl : ah = some ⟨gh, 0, none⟩ := (Value.slice.inj hvh).1
              have hct : (hel.take j).count true ≤ j := Nat.le_trans List.count_le_length (by simp; omega)
              have hcs := hide (show (hel.take (j + 1)).count true = (hel.take j).count true + if b then 1 else 0 by
                rw [List.take_add_one, hb, List.count_append]
                cases b <;> rfl)
              clear hvh
              generalize (hel.take j).count true = c at *
              cases b with
              | false =>
                clear hb
                go_wp2
                go_loopw [21] (fun kv wr5 => kv = .int .i64 0 ∧ Hid (wr5 = wr5) ∧ Hid (Lies X wr5 s k) ∧ Hid (Ap w.heap.size wr5 X (.slice aa ats.length ca) (.slice as_ ats.length cs) (.slice (some ⟨gh, 0, none⟩) ats.length ch) ats szs hel) ∧ Hid (Below w.heap.size w wr5) ∧ wr5.cell? ⟨gh, j, none⟩ = some (.bool false)) (fun _ _ => 0)
                case atStart => exact ⟨rfl, rfl, LL, PP, BB, chh⟩
                case round =>
                  obtain ⟨rfl, _, LL, PP, BB, chh⟩ := hrel
                  go_wp2
                  go_roundw
                  case rel => exact ⟨j + 1, by omega, by go_num, by rw [hcs.out]; rfl, LL, PP, BB⟩
                  case measure => simp [intOf]; omega
              | true =>
                obtain ⟨_, a, z, ea, ez, _, _⟩ := hHH.out.pc j hb
                obtain ⟨hz1, hz2⟩ := hHH.out.sz j z ez
                have HB := hide hb
                have EA := hide ea
                have EZ := hide ez
                obtain ⟨ga, capa, hva, caa, _, _⟩ := row_cell PP.out.ra (addrs_get ea)
                obtain rfl : aa = some ⟨ga, 0, none⟩ := (Value.slice.inj hva).1
                obtain ⟨gs, caps, hvs, css, _, _⟩ := row_cell PP.out.rs (addrs_get ez)
                obtain rfl : as_ = some ⟨gs, 0, none⟩ := (Value.slice.inj hvs).1
                have bz1 : (z : Int) ≤ 20 := by omega
                have ba := (hHH.out.word (t := 0) hb ea ez (by omega)).2.2
                have ba1 : (a : Int) ≤ 4001 := by omega
                have ba0 : 1 ≤ (a : Int) := by omega
                clear hb ea ez hva hvs ba
                go_wp2
                go_loopw [21] (fun kv wr5 => ∃ t : Nat, t ≤ z ∧ kv = .int .i64 t ∧ Hid (Lies X wr5 s k) ∧ Hid (Ap w.heap.size wr5 X (.slice (some ⟨ga, 0, none⟩) ats.length ca) (.slice (some ⟨gs, 0, none⟩) ats.length cs) (.slice (some ⟨gh, 0, none⟩) ats.length ch) ats szs hel) ∧ Hid (Below w.heap.size w wr5) ∧ wr5.cell? ⟨gh, j, none⟩ = some (.bool true) ∧ wr5.cell? ⟨ga, j, none⟩ = some (.int .i64 (a : Int)) ∧ wr5.cell? ⟨gs, j, none⟩ = some (.int .i64 (z : Int))) (fun kv _ => z - (intOf kv).toNat)
                case atStart => exact ⟨0, Nat.zero_le _, rfl, LL, PP, BB, chh, caa, css⟩
                case round =>
                  clear LL PP BB chh caa css
                  obtain ⟨t, ht, rfl, LL, PP, BB, chh, caa, css⟩ := hrel
                  by_cases htz : t < z
                  · have q2 : decide ((t : Int) < (z : Int)) = true := by simp; omega
                    have bt : (t : Int) < 20 := by omega
                    obtain ⟨wg, wf, _, _⟩ := hHH.out.word HB.out EA.out EZ.out htz
                    have gt := get_any ((a + t : Nat) : Int) _ LL.out hHH.out.inv (by omega)
                    rw [wg, show X.p = (newX w.heap.size w).p by simp [Wh.p, hXA'.out], show (((a + t : Nat)) : Int) = (a : Int) + t from by omega] at gt
                    go_wp2_with fail
                    refine gt.mono ?_
                    rintro e w6 ⟨rfl, b6⟩
                    have L6 := hide (LL.out.below b6)
                    have P6 := hide (PP.out.step (Step.of_below b6))
                    have B6 := hide (BB.out.trans (b6.mono BB.out.size))
                    have hll := hide (And.intro (PP.out.ra.lt ga rfl).2 (And.intro (PP.out.rs.lt gs rfl).2 (PP.out.rh.lt gh rfl).2))
                    have chh6 : w6.cell? ⟨gh, j, none⟩ = some (.bool true) := by rw [b6.cell (p := ⟨gh, j, none⟩) hll.out.2.2]; exact chh
                    have caa6 : w6.cell? ⟨ga, j, none⟩ = some (.int .i64 (a : Int)) := by rw [b6.cell (p := ⟨ga, j, none⟩) hll.out.1]; exact caa
                    have css6 : w6.cell? ⟨gs, j, none⟩ = some (.int .i64 (z : Int)) := by rw [b6.cell (p := ⟨gs, j, none⟩) hll.out.2.1]; exact css
                    have ft := find_any ((a + t : Nat) : Int) _ L6.out hHH.out.inv (by omega)
                    rw [wf, show X.p = (newX w.heap.size w).p by simp [Wh.p, hXA'.out], show (((a + t : Nat)) : Int) = (a : Int) + t from by omega] at ft
                    clear gt LL PP BB chh caa css b6 hll wg wf
                    go_wp2_with fail
                    refine ft.mono ?_
                    rintro e w7 ⟨rfl, b7⟩
                    have hll := hide (And.intro (P6.out.ra.lt ga rfl).2 (And.intro (P6.out.rs.lt gs rfl).2 (P6.out.rh.lt gh rfl).2))
                    have chh7 : w7.cell? ⟨gh, j, none⟩ = some (.bool true) := by rw [b7.cell (p := ⟨gh, j, none⟩) hll.out.2.2]; exact chh6
                    have caa7 : w7.cell? ⟨ga, j, none⟩ = some (.int .i64 (a : Int)) := by rw [b7.cell (p := ⟨ga, j, none⟩) hll.out.1]; exact caa6
                    have css7 : w7.cell? ⟨gs, j, none⟩ = some (.int .i64 (z : Int)) := by rw [b7.cell (p := ⟨gs, j, none⟩) hll.out.2.1]; exact css6
                    have L7 := hide (L6.out.below b7)
                    have P7 := hide (P6.out.step (Step.of_below b7))
                    have B7 := hide (B6.out.trans (b7.mono B6.out.size))
                    clear ft L6 P6 B6 chh6 caa6 css6 b7 hll
                    go_wp2
                    go_roundw
                    case rel => exact ⟨t + 1, by omega, by go_num, L7, P7, B7, chh7, caa7, css7⟩
                    case measure => simp [intOf]; omega
                  · have q2 : decide ((t : Int) < (z : Int)) = false := by simp; omega
                    have q2' : decide (t < z) = false := by simp; omega
                    have bc : (c : Int) ≤ 40 := by omega
                    go_wp2
                    go_roundw
                    case rel => exact ⟨j + 1, by omega, by go_num, by rw [hcs.out]; go_num, LL, PP, BB⟩
                    case measure => simp [intOf]; omega
            · obtain rfl : j = ats.length := by omega
              rw [show hel.take ats.length = hel by rw [← hHH.out.l2]; exact List.take_length]
              have lv := live_any LL.out hHH.out.inv
              rw [show X.p = (newX w.heap.size w).p by simp [Wh.p, hXA'.out], hHH.out.cnt] at lv
              have hc40 : hel.count true ≤ 40 := by have := List.count_le_length (a := true) (l := hel); rw [hHH.out.l2] at this; omega
              generalize hel.count true = c at *
              go_wp2_with fail
              refine lv.mono ?_
              rintro e w8 ⟨v, rfl, hv, b8⟩
              obtain ⟨ao, cp, rfl⟩ := row_form hv
              have B8 := BB.out.trans (b8.mono BB.out.size)
              clear lv hv b8
              go_wp2
              go_ret
              exact ⟨rfl, B8⟩
end Go.Proofs.Yteeadmkljcjjkaa
