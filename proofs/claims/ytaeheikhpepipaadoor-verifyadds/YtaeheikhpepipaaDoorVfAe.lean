/- VerifyAdds: the law. -/
import Derived.Test.YtaeheikhpepipaaDoorVfAgJt
namespace Go.Proofs.YtaeheikhpepipaaDoor
open Go.RowKit
section
variable {B : Nat} {w : World} {p : Pg}
set_option maxRecDepth 100000 in
set_option maxHeartbeats 1000000 in
theorem adds_main {v1 v2 v3 v4 : Value} (P : PgAt B w v1 v2 v3 v4 p) (hB : B ≤ w.heap.size) (hT : Tb w) (hb0 : 0 < B) (hc : (checkP p).2.2 = 0) (h1 : p.ty.length ≤ 900) (h2 : p.fu.length ≤ 900) (h3 : p.st.length ≤ 900) (h4 : p.ta.length ≤ 900) : Calls Tryd.prog 6 #[.agg #[v1, v2, v3, v4]] w fun e w' => e = .returned (.bool true) ∧ Below w.heap.size w w' := by
  obtain ⟨ck, cq⟩ := add_check hc h1 h2 h3 h4
  obtain ⟨a1, d1, hv1⟩ := sl_form P.ty
  obtain ⟨a2, d2, hv2⟩ := sl_form P.fu
  obtain ⟨a3, d3, hv3⟩ := sl_form P.ta
  obtain ⟨a4, d4, hv4⟩ := sl_form P.st
  subst hv1 hv2 hv3 hv4
  obtain ⟨W1, hW1⟩ : ∃ W1, w.alloc (.cells #[.slice a1 p.ty.length d1, .slice a2 p.fu.length d2, .slice a3 p.ta.length d3, .slice a4 p.st.length d4] 27) = W1 := ⟨_, rfl⟩
  have b1 : Below w.heap.size w W1 := by rw [← hW1]; exact (Below.refl _ _).alloc (Nat.le_refl _) _
  have e1 : W1.heap[w.heap.size]? = some (.cells #[.slice a1 p.ty.length d1, .slice a2 p.fu.length d2, .slice a3 p.ta.length d3, .slice a4 p.st.length d4] 27 (0, 0)) := by rw [← hW1]; exact heap_new _ _ rfl
  have HBX := hide (show ∀ W : World, Below W1.heap.size W1 W → W.cell? ⟨w.heap.size, 0, none⟩ = some (.slice a1 p.ty.length d1) ∧ W.cell? ⟨w.heap.size, 1, none⟩ = some (.slice a2 p.fu.length d2) ∧ W.cell? ⟨w.heap.size, 2, none⟩ = some (.slice a3 p.ta.length d3) ∧ W.cell? ⟨w.heap.size, 3, none⟩ = some (.slice a4 p.st.length d4) from fun W h => by
    have h1 := (h.block _ (lt_of_block e1)).trans e1
    exact ⟨cell_of h1 rfl, cell_of h1 rfl, cell_of h1 rfl, cell_of h1 rfl⟩)
  have HPG := hide (show ∀ W : World, Below W1.heap.size W1 W → PgAt B W (.slice a1 p.ty.length d1) (.slice a2 p.fu.length d2) (.slice a3 p.ta.length d3) (.slice a4 p.st.length d4) p ∧ B ≤ W.heap.size ∧ Tb W from fun W h => ⟨P.keep (Nat.le_refl _) (fun j hj => (bel_tr b1 h).block j (Nat.lt_of_lt_of_le hj hB)), Nat.le_trans hB (bel_tr b1 h).size, hT.keep ((bel_tr b1 h).block 0 (Nat.lt_of_lt_of_le hb0 hB))⟩)
  have HB1 := hide b1
  obtain ⟨k0, k1, k2, k3⟩ := HBX.out W1 (Below.refl _ _)
  have hl0 := lt_of_block e1
  have HCK := hide (check_any (HPG.out W1 (Below.refl _ _)).1 (HPG.out W1 (Below.refl _ _)).2.1 (HPG.out W1 (Below.refl _ _)).2.2 hb0)
  unfold CkO at HCK
  rw [ck] at HCK
  have HCQ := hide cq
  have HB0 := hide hb0
  have t1 : decide ((900 : Int) < (p.ty.length : Int)) = false := by simp; omega
  have t2 : decide ((900 : Int) < (p.fu.length : Int)) = false := by simp; omega
  have t3 : decide ((900 : Int) < (p.ta.length : Int)) = false := by simp; omega
  have t4 : decide ((900 : Int) < (p.st.length : Int)) = false := by simp; omega
  have s1 : decide (900 < p.ty.length) = false := by simp; omega
  have s2 : decide (900 < p.fu.length) = false := by simp; omega
  have s3 : decide (900 < p.ta.length) = false := by simp; omega
  have s4 : decide (900 < p.st.length) = false := by simp; omega
  clear P hB hT hb0 b1 e1 hc ck cq
  go_enter Tryd.func6, Tryd.ntmps6
  go_wp2_with fail
  refine HCK.out.mono ?_
  rintro e w2 ⟨rfl, hb2⟩
  have HB2 := hide hb2
  clear hb2 k0 k1 k2 k3 hW1
  have HAW := hide (awake_any w2 (HPG.out w2 HB2.out).2.2)
  go_wp2_with fail
  refine HAW.out.mono ?_
  rintro e w3 ⟨rfl, hb3⟩
  have HB3 := hide (bel_tr HB2.out hb3)
  clear hb3
  obtain ⟨k0, k1, k2, k3⟩ := HBX.out w3 HB3.out
  have hl3 : w.heap.size < w3.heap.size := Nat.lt_of_lt_of_le hl0 HB3.out.size
  go_upto_region 5 with (fail)
  clear HCK HAW k0 k1 k2 k3 t1 t2 t3 t4 s1 s2 s3 s4
  generalize hW4 : w3.alloc (.cells #[.slice a1 p.ty.length d1, .slice a2 p.fu.length d2, .slice a3 p.ta.length d3, .slice a4 p.st.length d4] 27) = W4
  have e4 : W4.heap[w3.heap.size]? = some (.cells #[.slice a1 p.ty.length d1, .slice a2 p.fu.length d2, .slice a3 p.ta.length d3, .slice a4 p.st.length d4] 27 (0, 0)) := by rw [← hW4]; exact heap_new _ _ rfl
  have HB4 := hide (show Below W1.heap.size W1 W4 by rw [← hW4]; exact HB3.out.alloc HB3.out.size _)
  have HE4 := hide e4
  have hW1b : W1.heap.size ≤ w3.heap.size := HB3.out.size
  have hBw3 : B ≤ w3.heap.size := (HPG.out w3 HB3.out).2.1
  clear hW4
  generalize w3.heap.size = b at *
  obtain ⟨k0, k1, k2, k3⟩ := HBX.out W4 HB4.out
  have hl4 : w.heap.size < W4.heap.size := Nat.lt_of_lt_of_le hl0 HB4.out.size
  have hb4 := lt_of_block e4
  obtain ⟨v5, W6, a8, c8, W8, r1, hs, r2, q1, q2⟩ := two_ty (b := b) (HPG.out W4 HB4.out).1.ty h1 hBw3 hb4
  have e8 := (q1.block _ hb4).trans e4
  have k8 : W8.cell? ⟨b, 0, none⟩ = some (.slice a1 p.ty.length d1) := cell_of e8 rfl
  have z8 : W8.frozen? ⟨b, 0, none⟩ = false := by simp [World.frozen?, e8]
  have HQ1 := hide q1
  have HQ2 := hide q2
  clear q1 q2 e4
  go_upto_region 6 with (at_builtin; first | (refine wpList_append_eq rfl _ _ 22 22 rfl rfl rfl r1 ?_; clear r1) | (refine wpList_append_eq rfl _ _ 22 22 rfl rfl rfl r2 ?_; clear r2))
  clear k0 k1 k2 k3 k8 z8 e8 hl4
  obtain ⟨m1, m2, m3, m4, m5, m6⟩ := box_step (o := 0) (u := .slice a8 (p.ty.length + 1) c8) HQ1.out HE4.out
  generalize hW5 : W8.setCell ⟨b, 0, none⟩ (.slice a8 (p.ty.length + 1) c8) = W5 at *
  have HB5 := hide (show Below W1.heap.size W1 W5 from HB4.out.trans ⟨m6.1, m6.2.1, m6.2.2, m2, fun j hj => m5 j (by omega) (by have := HB4.out.size; omega)⟩)
  have HF1 := hide (HQ2.out.next (Nat.le_of_eq m3.symm) (fun j g1 _ => m4 j (by omega)) (fun j hj => m5 j (by omega) (by omega)))
  have HE5 := hide m1
  clear m1 m2 m3 m4 m5 m6 hW5 HQ1 HQ2 HE4 hb4 hs
  obtain ⟨k0, k1, k2, k3⟩ := HBX.out W5 HB5.out
  have hlx : w.heap.size < W5.heap.size := Nat.lt_of_lt_of_le hl0 HB5.out.size
  have hbx := lt_of_block HE5.out
  obtain ⟨v5, W6, f8, cf8, W8, r1, hs, r2, q1, q2⟩ := two_fu (b := b) (HPG.out W5 HB5.out).1.fu h2 hBw3 hbx
  have e8 := (q1.block _ hbx).trans HE5.out
  have k8 : W8.cell? ⟨b, 1, none⟩ = some (.slice a2 p.fu.length d2) := cell_of e8 rfl
  have z8 : W8.frozen? ⟨b, 1, none⟩ = false := by simp [World.frozen?, e8]
  have HQ1 := hide q1
  have HQ2 := hide q2
  clear q1 q2
  go_upto_region 7 with (at_builtin; first | (refine wpList_append_eq rfl _ _ 23 23 rfl rfl rfl r1 ?_; clear r1) | (refine wpList_append_eq rfl _ _ 23 23 rfl rfl rfl r2 ?_; clear r2))
  clear k0 k1 k2 k3 k8 z8 e8 hlx
  obtain ⟨m1, m2, m3, m4, m5, m6⟩ := box_step (o := 1) (u := .slice f8 (p.fu.length + 1) cf8) HQ1.out HE5.out
  generalize hWn : W8.setCell ⟨b, 1, none⟩ (.slice f8 (p.fu.length + 1) cf8) = Wa at *
  have HBa := hide (show Below W1.heap.size W1 Wa from HB5.out.trans ⟨m6.1, m6.2.1, m6.2.2, m2, fun j hj => m5 j (by omega) (by have := HB5.out.size; omega)⟩)
  have HF1 := hide (HF1.out.next m2 (fun j g1 g2 => m5 j (by omega) g2) (fun j hj => m5 j (by omega) (by omega)))
  have HF2 := hide (HQ2.out.next (Nat.le_of_eq m3.symm) (fun j g1 _ => m4 j (by omega)) (fun j hj => m5 j (by omega) (by omega)))
  have HEa := hide m1
  clear m1 m2 m3 m4 m5 m6 hWn HQ1 HQ2 HE5 hbx hs
  obtain ⟨k0, k1, k2, k3⟩ := HBX.out Wa HBa.out
  have hlx : w.heap.size < Wa.heap.size := Nat.lt_of_lt_of_le hl0 HBa.out.size
  have hbx := lt_of_block HEa.out
  obtain ⟨v5, W6, g8, cg8, W8, r1, hs, r2, q1, q2⟩ := two_st (b := b) (HPG.out Wa HBa.out).1.st h3 hBw3 hbx
  have e8 := (q1.block _ hbx).trans HEa.out
  have k8 : W8.cell? ⟨b, 3, none⟩ = some (.slice a4 p.st.length d4) := cell_of e8 rfl
  have z8 : W8.frozen? ⟨b, 3, none⟩ = false := by simp [World.frozen?, e8]
  have HQ1 := hide q1
  have HQ2 := hide q2
  clear q1 q2
  go_upto_region 8 with (at_builtin; first | (refine wpList_append_eq rfl _ _ 25 25 rfl rfl rfl r1 ?_; clear r1) | (refine wpList_append_eq rfl _ _ 25 25 rfl rfl rfl r2 ?_; clear r2))
  clear k0 k1 k2 k3 k8 z8 e8 hlx
  obtain ⟨m1, m2, m3, m4, m5, m6⟩ := box_step (o := 3) (u := .slice g8 (p.st.length + 1) cg8) HQ1.out HEa.out
  generalize hWn : W8.setCell ⟨b, 3, none⟩ (.slice g8 (p.st.length + 1) cg8) = Wb at *
  have HBb := hide (show Below W1.heap.size W1 Wb from HBa.out.trans ⟨m6.1, m6.2.1, m6.2.2, m2, fun j hj => m5 j (by omega) (by have := HBa.out.size; omega)⟩)
  have HF1 := hide (HF1.out.next m2 (fun j g1 g2 => m5 j (by omega) g2) (fun j hj => m5 j (by omega) (by omega)))
  have HF2 := hide (HF2.out.next m2 (fun j g1 g2 => m5 j (by omega) g2) (fun j hj => m5 j (by omega) (by omega)))
  have HF3 := hide (HQ2.out.next (Nat.le_of_eq m3.symm) (fun j g1 _ => m4 j (by omega)) (fun j hj => m5 j (by omega) (by omega)))
  have HEb := hide m1
  clear m1 m2 m3 m4 m5 m6 hWn HQ1 HQ2 HEa hbx hs
  obtain ⟨k0, k1, k2, k3⟩ := HBX.out Wb HBb.out
  have hlx : w.heap.size < Wb.heap.size := Nat.lt_of_lt_of_le hl0 HBb.out.size
  have hbx := lt_of_block HEb.out
  have hBx : B ≤ Wb.heap.size := by omega
  have hwb : w.heap.size < b := by omega
  have HL := hide (HPG.out Wb HBb.out).1.ta
  have HKS := hide (show ∀ W : World, Below Wb.heap.size Wb W → (fun W : World => W.cell? ⟨w.heap.size, 2, none⟩ = some (.slice a3 p.ta.length d3) ∧ W.cell? ⟨w.heap.size, 1, none⟩ = some (.slice a2 p.fu.length d2)) W from fun W h => by
    obtain ⟨_, g1, g2, _⟩ := HBX.out W (HBb.out.trans (h.mono HBb.out.size))
    exact ⟨g2, g1⟩)
  have HKT := hide (show ∀ (W : World) (u : Value), Below Wb.heap.size Wb W → (fun W : World => W.cell? ⟨w.heap.size, 2, none⟩ = some (.slice a3 p.ta.length d3) ∧ W.cell? ⟨w.heap.size, 1, none⟩ = some (.slice a2 p.fu.length d2)) (W.setCell ⟨b, 2, none⟩ u) from fun W u h => by
    obtain ⟨g1, g2⟩ := HKS.out W h
    have hne : (W.setCell ⟨b, 2, none⟩ u).heap[w.heap.size]? = W.heap[w.heap.size]? := by simp [World.setCell, Array.getElem?_modify, Nat.ne_of_gt hwb]
    exact ⟨(World.cell?_of_block (a := ⟨w.heap.size, 2, none⟩) hne).trans g1, (World.cell?_of_block (a := ⟨w.heap.size, 1, none⟩) hne).trans g2⟩)
  have HKB := hide (show ∀ W : World, Below Wb.heap.size Wb W → W.cell? ⟨b, 2, none⟩ = some (.slice a3 p.ta.length d3) ∧ W.frozen? ⟨b, 2, none⟩ = false from fun W h => by
    have e8 := (h.block _ hbx).trans HEb.out
    exact ⟨cell_of e8 rfl, by simp [World.frozen?, e8]⟩)
  clear k0 k1 k2 k3
  go_cut [] from 74 to 84 (fun wc => Hid (∃ a8 c8 W8, wc = W8.setCell ⟨b, 2, none⟩ (.slice a8 (p.ta.length + 1) c8) ∧ Below Wb.heap.size Wb W8 ∧ Fut 1 LstP b B Wb W8 (.slice a8 (p.ta.length + 1) c8) (p.ta ++ [[(p.fu.length : Int)]])))
  case first =>
    refine wp_region_held_drew (S := (fun W : World => W.cell? ⟨w.heap.size, 2, none⟩ = some (.slice a3 p.ta.length d3) ∧ W.cell? ⟨w.heap.size, 1, none⟩ = some (.slice a2 p.fu.length d2))) (by kernel_rfl) (HKS.out _ (below_drew (Below.refl _ _))) (fun hHeld1 => ?_)
    have HR := hide (Rg.begin' (Wb := Wb) (B := B) (l := p.ta) (fl := (p.fu.length : Int)))
    generalize Wb.drew = X0 at *
    refine wpAnyH_take (i := 1) (oi := { dst := some 75, op := Go.Op.fieldAddr 27 (Go.Operand.tmp 1) 2, type := 0, pos := "law.go:84", after := #[], guard := none }) (v := ?v2) rfl (by kernel_rfl) (by kernel_rfl) (by kernel_rfl) (fun _ _ _ h => h) (Or.inl ⟨by rfl, ?hy2⟩) (by assumption) ?_
    case hy2 => (intro W hSw; (try dsimp only at hSw); go_simp; try with_reducible rfl)
    try simp only [Act.put, List.setIfInBounds_toArray, List.set_cons_zero, List.set_cons_succ]
    refine wpAnyH_take (i := 2) (oi := { dst := some 76, op := Go.Op.load 24 (Go.Operand.tmp 75), type := 24, pos := "law.go:84", after := #[{ on := 1, ground := Go.Ground.data }], guard := none }) (v := ?v3) rfl (by kernel_rfl) (by kernel_rfl) (by kernel_rfl) (fun _ _ _ h => h) (Or.inl ⟨by rfl, ?hy3⟩) (by assumption) ?_
    case hy3 => (intro W hSw; (try dsimp only at hSw); go_simp; try with_reducible rfl)
    try simp only [Act.put, List.setIfInBounds_toArray, List.set_cons_zero, List.set_cons_succ]
    refine wpAnyH_take (i := 4) (oi := { dst := some 78, op := Go.Op.fieldAddr 27 (Go.Operand.tmp 1) 1, type := 0, pos := "law.go:84", after := #[], guard := none }) (v := ?v4) rfl (by kernel_rfl) (by kernel_rfl) (by kernel_rfl) (fun _ _ _ h => h) (Or.inl ⟨by rfl, ?hy4⟩) (by assumption) ?_
    case hy4 => (intro W hSw; (try dsimp only at hSw); go_simp; try with_reducible rfl)
    try simp only [Act.put, List.setIfInBounds_toArray, List.set_cons_zero, List.set_cons_succ]
    refine wpAnyH_take (i := 5) (oi := { dst := some 79, op := Go.Op.load 23 (Go.Operand.tmp 78), type := 23, pos := "law.go:84", after := #[{ on := 4, ground := Go.Ground.data }], guard := none }) (v := ?v5) rfl (by kernel_rfl) (by kernel_rfl) (by kernel_rfl) (fun _ _ _ h => h) (Or.inl ⟨by rfl, ?hy5⟩) (by assumption) ?_
    case hy5 => (intro W hSw; (try dsimp only at hSw); go_simp; try with_reducible rfl)
    try simp only [Act.put, List.setIfInBounds_toArray, List.set_cons_zero, List.set_cons_succ]
    refine wpAnyH_take (i := 6) (oi := { dst := some 80, op := Go.Op.call { callee := Go.Callee.builtin Go.Builtin.len, args := #[Go.Operand.tmp 79], argTypes := #[23] }, type := 3, pos := "law.go:84", after := #[{ on := 5, ground := Go.Ground.data }], guard := none }) (v := ?v6) rfl (by kernel_rfl) (by kernel_rfl) (by kernel_rfl) (fun _ _ _ h => h) (Or.inl ⟨by rfl, ?hy6⟩) (by assumption) ?_
    case hy6 => (intro W hSw; (try dsimp only at hSw); go_simp; try with_reducible rfl)
    try simp only [Act.put, List.setIfInBounds_toArray, List.set_cons_zero, List.set_cons_succ]
    refine wpAnyH_ready (rs := [0, 7]) (by kernel_rfl) (by simp) ?_
    refine AllReadyH.cons (o := { dst := some 74, op := Go.Op.buildSlice 24 0 #[], type := 24, pos := "law.go:84", after := #[], guard := none }) rfl (fun K hK => ?_) (AllReadyH.cons (o := { dst := some 81, op := Go.Op.buildSlice 44 1 #[(0, Go.Operand.tmp 80)], type := 44, pos := "law.go:84", after := #[{ on := 6, ground := Go.Ground.data }], guard := none }) rfl (fun K hK => ?_) AllReadyH.nil)
    · skip
      have HR1 := hide HR.out.emp
      go_simp
      go_wp2_with fail
      refine hK.out _ _ (HKS.out _ HR1.out.bel) (fun hHeld7 => ?_)
      clear hK K
      try simp only [Act.put, List.setIfInBounds_toArray, List.set_cons_zero, List.set_cons_succ]
      clear HR
      generalize X0.alloc (.cells #[] 44) = X1 at *
      have HR := HR1
      clear HR1
      refine wpAnyH_ready (rs := [3, 7]) (by kernel_rfl) (by simp) ?_
      refine AllReadyH.cons (o := { dst := some 77, op := Go.Op.call { callee := Go.Callee.builtin Go.Builtin.append, args := #[Go.Operand.tmp 74, Go.Operand.tmp 76], argTypes := #[24, 24] }, type := 24, pos := "law.go:84", after := #[{ on := 0, ground := Go.Ground.data }, { on := 2, ground := Go.Ground.data }], guard := none }) rfl (fun K hK => ?_) (AllReadyH.cons (o := { dst := some 81, op := Go.Op.buildSlice 44 1 #[(0, Go.Operand.tmp 80)], type := 44, pos := "law.go:84", after := #[{ on := 6, ground := Go.Ground.data }], guard := none }) rfl (fun K hK => ?_) AllReadyH.nil)
      · skip
        obtain ⟨v5, X2, r1, R5⟩ := HR.out.app HL.out h4 hBx (by simp)
        refine step_append_eq (by rfl) _ _ 24 24 (by rfl) (by rfl) (by rfl) r1 ?_
        refine hK.out _ _ (HKS.out _ R5.bel) (fun hHeld8 => ?_)
        clear hK K
        try simp only [Act.put, List.setIfInBounds_toArray, List.set_cons_zero, List.set_cons_succ]
        clear r1 HR
        have HR := hide R5
        clear R5
        have HR1 := hide HR.out.one
        refine wpAnyH_ready (rs := [7]) (by kernel_rfl) (by simp) ?_
        refine AllReadyH.cons (o := { dst := some 81, op := Go.Op.buildSlice 44 1 #[(0, Go.Operand.tmp 80)], type := 44, pos := "law.go:84", after := #[{ on := 6, ground := Go.Ground.data }], guard := none }) rfl (fun K hK => ?_) AllReadyH.nil
        go_simp
        go_wp2_with fail
        refine hK.out _ _ (HKS.out _ HR1.out.bel) (fun hHeld9 => ?_)
        clear hK K
        try simp only [Act.put, List.setIfInBounds_toArray, List.set_cons_zero, List.set_cons_succ]
        clear HR
        generalize X2.alloc (.cells #[.int .i64 (p.fu.length : Int)] 3) = X3 at *
        have HR := HR1
        clear HR1
        have HR1 := hide HR.out.two
        refine wpAnyH_ready (rs := [8]) (by kernel_rfl) (by simp) ?_
        refine AllReadyH.cons (o := { dst := some 82, op := Go.Op.buildSlice 24 1 #[(0, Go.Operand.tmp 81)], type := 24, pos := "law.go:84", after := #[{ on := 7, ground := Go.Ground.data }], guard := none }) rfl (fun K hK => ?_) AllReadyH.nil
        go_simp
        go_wp2_with fail
        refine hK.out _ _ (HKS.out _ HR1.out.bel) (fun hHeld10 => ?_)
        clear hK K
        try simp only [Act.put, List.setIfInBounds_toArray, List.set_cons_zero, List.set_cons_succ]
        clear HR
        generalize X3.alloc (.cells #[.slice (some ⟨_, 0, none⟩) 1 1] 44) = X4 at *
        have HR := HR1
        clear HR1
        obtain ⟨a8', c8', W8, r1, q1, q2⟩ := HR.out.fin (b := b) h4 hBx hbx (by omega) (by omega)
        refine wpAnyH_ready (rs := [9]) (by kernel_rfl) (by simp) ?_
        refine AllReadyH.cons (o := { dst := some 83, op := Go.Op.call { callee := Go.Callee.builtin Go.Builtin.append, args := #[Go.Operand.tmp 77, Go.Operand.tmp 82], argTypes := #[24, 24] }, type := 24, pos := "law.go:84", after := #[{ on := 3, ground := Go.Ground.data }, { on := 8, ground := Go.Ground.data }, { on := 3, ground := Go.Ground.chain }], guard := none }) rfl (fun K hK => ?_) AllReadyH.nil
        refine step_append_eq (by rfl) _ _ 24 24 (by rfl) (by rfl) (by rfl) r1 ?_
        refine hK.out _ _ (HKS.out _ q1) (fun hHeld11 => ?_)
        clear hK K
        try simp only [Act.put, List.setIfInBounds_toArray, List.set_cons_zero, List.set_cons_succ]
        clear r1 HR
        obtain ⟨k8, z8⟩ := HKB.out W8 q1
        have HQ1 := hide q1
        have HQ2 := hide q2
        clear q1 q2
        refine wpAnyH_ready (rs := [10]) (by kernel_rfl) (by simp) ?_
        refine AllReadyH.cons (o := { dst := some 84, op := Go.Op.fieldAddr 27 (Go.Operand.tmp 6) 2, type := 0, pos := "law.go:84", after := #[{ on := 0, ground := Go.Ground.phase }, { on := 1, ground := Go.Ground.phase }, { on := 2, ground := Go.Ground.phase }, { on := 3, ground := Go.Ground.phase }, { on := 4, ground := Go.Ground.phase }, { on := 5, ground := Go.Ground.phase }, { on := 6, ground := Go.Ground.phase }, { on := 7, ground := Go.Ground.phase }, { on := 8, ground := Go.Ground.phase }, { on := 9, ground := Go.Ground.phase }], guard := none }) rfl (fun K hK => ?_) AllReadyH.nil
        go_simp
        go_wp2_with fail
        refine hK.out _ _ (HKS.out _ HQ1.out) (fun hHeld12 => ?_)
        clear hK K
        try simp only [Act.put, List.setIfInBounds_toArray, List.set_cons_zero, List.set_cons_succ]
        refine wpAnyH_ready (rs := [11]) (by kernel_rfl) (by simp) ?_
        refine AllReadyH.cons (o := { dst := none, op := Go.Op.store 24 (Go.Operand.tmp 84) (Go.Operand.tmp 83), type := 0, pos := "law.go:84", after := #[{ on := 10, ground := Go.Ground.data }, { on := 9, ground := Go.Ground.data }, { on := 9, ground := Go.Ground.chain }, { on := 0, ground := Go.Ground.phase }, { on := 1, ground := Go.Ground.phase }, { on := 2, ground := Go.Ground.phase }, { on := 3, ground := Go.Ground.phase }, { on := 4, ground := Go.Ground.phase }, { on := 5, ground := Go.Ground.phase }, { on := 6, ground := Go.Ground.phase }, { on := 7, ground := Go.Ground.phase }, { on := 8, ground := Go.Ground.phase }, { on := 9, ground := Go.Ground.phase }], guard := none }) rfl (fun K hK => ?_) AllReadyH.nil
        go_simp
        go_wp2_with fail
        refine hK.out _ _ (HKT.out _ _ HQ1.out) (fun hHeld13 => ?_)
        clear hK K
        try simp only [Act.put, List.setIfInBounds_toArray, List.set_cons_zero, List.set_cons_succ]
        refine wpAnyH_done (by kernel_rfl) ?_ _
        go_wp2_with fail
        go_meet
        exact hide ⟨a8', c8', W8, rfl, HQ1.out, HQ2.out⟩
      · skip
        have HR1 := hide HR.out.one
        go_simp
        go_wp2_with fail
        refine hK.out _ _ (HKS.out _ HR1.out.bel) (fun hHeld14 => ?_)
        clear hK K
        try simp only [Act.put, List.setIfInBounds_toArray, List.set_cons_zero, List.set_cons_succ]
        clear HR
        generalize X1.alloc (.cells #[.int .i64 (p.fu.length : Int)] 3) = X2 at *
        have HR := HR1
        clear HR1
        refine wpAnyH_ready (rs := [3, 8]) (by kernel_rfl) (by simp) ?_
        refine AllReadyH.cons (o := { dst := some 77, op := Go.Op.call { callee := Go.Callee.builtin Go.Builtin.append, args := #[Go.Operand.tmp 74, Go.Operand.tmp 76], argTypes := #[24, 24] }, type := 24, pos := "law.go:84", after := #[{ on := 0, ground := Go.Ground.data }, { on := 2, ground := Go.Ground.data }], guard := none }) rfl (fun K hK => ?_) (AllReadyH.cons (o := { dst := some 82, op := Go.Op.buildSlice 24 1 #[(0, Go.Operand.tmp 81)], type := 24, pos := "law.go:84", after := #[{ on := 7, ground := Go.Ground.data }], guard := none }) rfl (fun K hK => ?_) AllReadyH.nil)
        · skip
          obtain ⟨v5, X3, r1, R5⟩ := HR.out.app HL.out h4 hBx (by simp)
          refine step_append_eq (by rfl) _ _ 24 24 (by rfl) (by rfl) (by rfl) r1 ?_
          refine hK.out _ _ (HKS.out _ R5.bel) (fun hHeld15 => ?_)
          clear hK K
          try simp only [Act.put, List.setIfInBounds_toArray, List.set_cons_zero, List.set_cons_succ]
          clear r1 HR
          have HR := hide R5
          clear R5
          have HR1 := hide HR.out.two
          refine wpAnyH_ready (rs := [8]) (by kernel_rfl) (by simp) ?_
          refine AllReadyH.cons (o := { dst := some 82, op := Go.Op.buildSlice 24 1 #[(0, Go.Operand.tmp 81)], type := 24, pos := "law.go:84", after := #[{ on := 7, ground := Go.Ground.data }], guard := none }) rfl (fun K hK => ?_) AllReadyH.nil
          go_simp
          go_wp2_with fail
          refine hK.out _ _ (HKS.out _ HR1.out.bel) (fun hHeld16 => ?_)
          clear hK K
          try simp only [Act.put, List.setIfInBounds_toArray, List.set_cons_zero, List.set_cons_succ]
          clear HR
          generalize X3.alloc (.cells #[.slice (some ⟨_, 0, none⟩) 1 1] 44) = X4 at *
          have HR := HR1
          clear HR1
          obtain ⟨a8', c8', W8, r1, q1, q2⟩ := HR.out.fin (b := b) h4 hBx hbx (by omega) (by omega)
          refine wpAnyH_ready (rs := [9]) (by kernel_rfl) (by simp) ?_
          refine AllReadyH.cons (o := { dst := some 83, op := Go.Op.call { callee := Go.Callee.builtin Go.Builtin.append, args := #[Go.Operand.tmp 77, Go.Operand.tmp 82], argTypes := #[24, 24] }, type := 24, pos := "law.go:84", after := #[{ on := 3, ground := Go.Ground.data }, { on := 8, ground := Go.Ground.data }, { on := 3, ground := Go.Ground.chain }], guard := none }) rfl (fun K hK => ?_) AllReadyH.nil
          refine step_append_eq (by rfl) _ _ 24 24 (by rfl) (by rfl) (by rfl) r1 ?_
          refine hK.out _ _ (HKS.out _ q1) (fun hHeld17 => ?_)
          clear hK K
          try simp only [Act.put, List.setIfInBounds_toArray, List.set_cons_zero, List.set_cons_succ]
          clear r1 HR
          obtain ⟨k8, z8⟩ := HKB.out W8 q1
          have HQ1 := hide q1
          have HQ2 := hide q2
          clear q1 q2
          refine wpAnyH_ready (rs := [10]) (by kernel_rfl) (by simp) ?_
          refine AllReadyH.cons (o := { dst := some 84, op := Go.Op.fieldAddr 27 (Go.Operand.tmp 6) 2, type := 0, pos := "law.go:84", after := #[{ on := 0, ground := Go.Ground.phase }, { on := 1, ground := Go.Ground.phase }, { on := 2, ground := Go.Ground.phase }, { on := 3, ground := Go.Ground.phase }, { on := 4, ground := Go.Ground.phase }, { on := 5, ground := Go.Ground.phase }, { on := 6, ground := Go.Ground.phase }, { on := 7, ground := Go.Ground.phase }, { on := 8, ground := Go.Ground.phase }, { on := 9, ground := Go.Ground.phase }], guard := none }) rfl (fun K hK => ?_) AllReadyH.nil
          go_simp
          go_wp2_with fail
          refine hK.out _ _ (HKS.out _ HQ1.out) (fun hHeld18 => ?_)
          clear hK K
          try simp only [Act.put, List.setIfInBounds_toArray, List.set_cons_zero, List.set_cons_succ]
          refine wpAnyH_ready (rs := [11]) (by kernel_rfl) (by simp) ?_
          refine AllReadyH.cons (o := { dst := none, op := Go.Op.store 24 (Go.Operand.tmp 84) (Go.Operand.tmp 83), type := 0, pos := "law.go:84", after := #[{ on := 10, ground := Go.Ground.data }, { on := 9, ground := Go.Ground.data }, { on := 9, ground := Go.Ground.chain }, { on := 0, ground := Go.Ground.phase }, { on := 1, ground := Go.Ground.phase }, { on := 2, ground := Go.Ground.phase }, { on := 3, ground := Go.Ground.phase }, { on := 4, ground := Go.Ground.phase }, { on := 5, ground := Go.Ground.phase }, { on := 6, ground := Go.Ground.phase }, { on := 7, ground := Go.Ground.phase }, { on := 8, ground := Go.Ground.phase }, { on := 9, ground := Go.Ground.phase }], guard := none }) rfl (fun K hK => ?_) AllReadyH.nil
          go_simp
          go_wp2_with fail
          refine hK.out _ _ (HKT.out _ _ HQ1.out) (fun hHeld19 => ?_)
          clear hK K
          try simp only [Act.put, List.setIfInBounds_toArray, List.set_cons_zero, List.set_cons_succ]
          refine wpAnyH_done (by kernel_rfl) ?_ _
          go_wp2_with fail
          go_meet
          exact hide ⟨a8', c8', W8, rfl, HQ1.out, HQ2.out⟩
        · skip
          have HR1 := hide HR.out.two
          go_simp
          go_wp2_with fail
          refine hK.out _ _ (HKS.out _ HR1.out.bel) (fun hHeld20 => ?_)
          clear hK K
          try simp only [Act.put, List.setIfInBounds_toArray, List.set_cons_zero, List.set_cons_succ]
          clear HR
          generalize X2.alloc (.cells #[.slice (some ⟨_, 0, none⟩) 1 1] 44) = X3 at *
          have HR := HR1
          clear HR1
          obtain ⟨v5, X4, r1, R5⟩ := HR.out.app HL.out h4 hBx (by simp)
          refine wpAnyH_ready (rs := [3]) (by kernel_rfl) (by simp) ?_
          refine AllReadyH.cons (o := { dst := some 77, op := Go.Op.call { callee := Go.Callee.builtin Go.Builtin.append, args := #[Go.Operand.tmp 74, Go.Operand.tmp 76], argTypes := #[24, 24] }, type := 24, pos := "law.go:84", after := #[{ on := 0, ground := Go.Ground.data }, { on := 2, ground := Go.Ground.data }], guard := none }) rfl (fun K hK => ?_) AllReadyH.nil
          refine step_append_eq (by rfl) _ _ 24 24 (by rfl) (by rfl) (by rfl) r1 ?_
          refine hK.out _ _ (HKS.out _ R5.bel) (fun hHeld21 => ?_)
          clear hK K
          try simp only [Act.put, List.setIfInBounds_toArray, List.set_cons_zero, List.set_cons_succ]
          clear r1 HR
          have HR := hide R5
          clear R5
          obtain ⟨a8', c8', W8, r1, q1, q2⟩ := HR.out.fin (b := b) h4 hBx hbx (by omega) (by omega)
          refine wpAnyH_ready (rs := [9]) (by kernel_rfl) (by simp) ?_
          refine AllReadyH.cons (o := { dst := some 83, op := Go.Op.call { callee := Go.Callee.builtin Go.Builtin.append, args := #[Go.Operand.tmp 77, Go.Operand.tmp 82], argTypes := #[24, 24] }, type := 24, pos := "law.go:84", after := #[{ on := 3, ground := Go.Ground.data }, { on := 8, ground := Go.Ground.data }, { on := 3, ground := Go.Ground.chain }], guard := none }) rfl (fun K hK => ?_) AllReadyH.nil
          refine step_append_eq (by rfl) _ _ 24 24 (by rfl) (by rfl) (by rfl) r1 ?_
          refine hK.out _ _ (HKS.out _ q1) (fun hHeld22 => ?_)
          clear hK K
          try simp only [Act.put, List.setIfInBounds_toArray, List.set_cons_zero, List.set_cons_succ]
          clear r1 HR
          obtain ⟨k8, z8⟩ := HKB.out W8 q1
          have HQ1 := hide q1
          have HQ2 := hide q2
          clear q1 q2
          refine wpAnyH_ready (rs := [10]) (by kernel_rfl) (by simp) ?_
          refine AllReadyH.cons (o := { dst := some 84, op := Go.Op.fieldAddr 27 (Go.Operand.tmp 6) 2, type := 0, pos := "law.go:84", after := #[{ on := 0, ground := Go.Ground.phase }, { on := 1, ground := Go.Ground.phase }, { on := 2, ground := Go.Ground.phase }, { on := 3, ground := Go.Ground.phase }, { on := 4, ground := Go.Ground.phase }, { on := 5, ground := Go.Ground.phase }, { on := 6, ground := Go.Ground.phase }, { on := 7, ground := Go.Ground.phase }, { on := 8, ground := Go.Ground.phase }, { on := 9, ground := Go.Ground.phase }], guard := none }) rfl (fun K hK => ?_) AllReadyH.nil
          go_simp
          go_wp2_with fail
          refine hK.out _ _ (HKS.out _ HQ1.out) (fun hHeld23 => ?_)
          clear hK K
          try simp only [Act.put, List.setIfInBounds_toArray, List.set_cons_zero, List.set_cons_succ]
          refine wpAnyH_ready (rs := [11]) (by kernel_rfl) (by simp) ?_
          refine AllReadyH.cons (o := { dst := none, op := Go.Op.store 24 (Go.Operand.tmp 84) (Go.Operand.tmp 83), type := 0, pos := "law.go:84", after := #[{ on := 10, ground := Go.Ground.data }, { on := 9, ground := Go.Ground.data }, { on := 9, ground := Go.Ground.chain }, { on := 0, ground := Go.Ground.phase }, { on := 1, ground := Go.Ground.phase }, { on := 2, ground := Go.Ground.phase }, { on := 3, ground := Go.Ground.phase }, { on := 4, ground := Go.Ground.phase }, { on := 5, ground := Go.Ground.phase }, { on := 6, ground := Go.Ground.phase }, { on := 7, ground := Go.Ground.phase }, { on := 8, ground := Go.Ground.phase }, { on := 9, ground := Go.Ground.phase }], guard := none }) rfl (fun K hK => ?_) AllReadyH.nil
          go_simp
          go_wp2_with fail
          refine hK.out _ _ (HKT.out _ _ HQ1.out) (fun hHeld24 => ?_)
          clear hK K
          try simp only [Act.put, List.setIfInBounds_toArray, List.set_cons_zero, List.set_cons_succ]
          refine wpAnyH_done (by kernel_rfl) ?_ _
          go_wp2_with fail
          go_meet
          exact hide ⟨a8', c8', W8, rfl, HQ1.out, HQ2.out⟩
    · skip
      have HR1 := hide HR.out.one
      go_simp
      go_wp2_with fail
      refine hK.out _ _ (HKS.out _ HR1.out.bel) (fun hHeld25 => ?_)
      clear hK K
      try simp only [Act.put, List.setIfInBounds_toArray, List.set_cons_zero, List.set_cons_succ]
      clear HR
      generalize X0.alloc (.cells #[.int .i64 (p.fu.length : Int)] 3) = X1 at *
      have HR := HR1
      clear HR1
      refine wpAnyH_ready (rs := [0, 8]) (by kernel_rfl) (by simp) ?_
      refine AllReadyH.cons (o := { dst := some 74, op := Go.Op.buildSlice 24 0 #[], type := 24, pos := "law.go:84", after := #[], guard := none }) rfl (fun K hK => ?_) (AllReadyH.cons (o := { dst := some 82, op := Go.Op.buildSlice 24 1 #[(0, Go.Operand.tmp 81)], type := 24, pos := "law.go:84", after := #[{ on := 7, ground := Go.Ground.data }], guard := none }) rfl (fun K hK => ?_) AllReadyH.nil)
      · skip
        have HR1 := hide HR.out.emp
        go_simp
        go_wp2_with fail
        refine hK.out _ _ (HKS.out _ HR1.out.bel) (fun hHeld26 => ?_)
        clear hK K
        try simp only [Act.put, List.setIfInBounds_toArray, List.set_cons_zero, List.set_cons_succ]
        clear HR
        generalize X1.alloc (.cells #[] 44) = X2 at *
        have HR := HR1
        clear HR1
        refine wpAnyH_ready (rs := [3, 8]) (by kernel_rfl) (by simp) ?_
        refine AllReadyH.cons (o := { dst := some 77, op := Go.Op.call { callee := Go.Callee.builtin Go.Builtin.append, args := #[Go.Operand.tmp 74, Go.Operand.tmp 76], argTypes := #[24, 24] }, type := 24, pos := "law.go:84", after := #[{ on := 0, ground := Go.Ground.data }, { on := 2, ground := Go.Ground.data }], guard := none }) rfl (fun K hK => ?_) (AllReadyH.cons (o := { dst := some 82, op := Go.Op.buildSlice 24 1 #[(0, Go.Operand.tmp 81)], type := 24, pos := "law.go:84", after := #[{ on := 7, ground := Go.Ground.data }], guard := none }) rfl (fun K hK => ?_) AllReadyH.nil)
        · skip
          obtain ⟨v5, X3, r1, R5⟩ := HR.out.app HL.out h4 hBx (by simp)
          refine step_append_eq (by rfl) _ _ 24 24 (by rfl) (by rfl) (by rfl) r1 ?_
          refine hK.out _ _ (HKS.out _ R5.bel) (fun hHeld27 => ?_)
          clear hK K
          try simp only [Act.put, List.setIfInBounds_toArray, List.set_cons_zero, List.set_cons_succ]
          clear r1 HR
          have HR := hide R5
          clear R5
          have HR1 := hide HR.out.two
          refine wpAnyH_ready (rs := [8]) (by kernel_rfl) (by simp) ?_
          refine AllReadyH.cons (o := { dst := some 82, op := Go.Op.buildSlice 24 1 #[(0, Go.Operand.tmp 81)], type := 24, pos := "law.go:84", after := #[{ on := 7, ground := Go.Ground.data }], guard := none }) rfl (fun K hK => ?_) AllReadyH.nil
          go_simp
          go_wp2_with fail
          refine hK.out _ _ (HKS.out _ HR1.out.bel) (fun hHeld28 => ?_)
          clear hK K
          try simp only [Act.put, List.setIfInBounds_toArray, List.set_cons_zero, List.set_cons_succ]
          clear HR
          generalize X3.alloc (.cells #[.slice (some ⟨_, 0, none⟩) 1 1] 44) = X4 at *
          have HR := HR1
          clear HR1
          obtain ⟨a8', c8', W8, r1, q1, q2⟩ := HR.out.fin (b := b) h4 hBx hbx (by omega) (by omega)
          refine wpAnyH_ready (rs := [9]) (by kernel_rfl) (by simp) ?_
          refine AllReadyH.cons (o := { dst := some 83, op := Go.Op.call { callee := Go.Callee.builtin Go.Builtin.append, args := #[Go.Operand.tmp 77, Go.Operand.tmp 82], argTypes := #[24, 24] }, type := 24, pos := "law.go:84", after := #[{ on := 3, ground := Go.Ground.data }, { on := 8, ground := Go.Ground.data }, { on := 3, ground := Go.Ground.chain }], guard := none }) rfl (fun K hK => ?_) AllReadyH.nil
          refine step_append_eq (by rfl) _ _ 24 24 (by rfl) (by rfl) (by rfl) r1 ?_
          refine hK.out _ _ (HKS.out _ q1) (fun hHeld29 => ?_)
          clear hK K
          try simp only [Act.put, List.setIfInBounds_toArray, List.set_cons_zero, List.set_cons_succ]
          clear r1 HR
          obtain ⟨k8, z8⟩ := HKB.out W8 q1
          have HQ1 := hide q1
          have HQ2 := hide q2
          clear q1 q2
          refine wpAnyH_ready (rs := [10]) (by kernel_rfl) (by simp) ?_
          refine AllReadyH.cons (o := { dst := some 84, op := Go.Op.fieldAddr 27 (Go.Operand.tmp 6) 2, type := 0, pos := "law.go:84", after := #[{ on := 0, ground := Go.Ground.phase }, { on := 1, ground := Go.Ground.phase }, { on := 2, ground := Go.Ground.phase }, { on := 3, ground := Go.Ground.phase }, { on := 4, ground := Go.Ground.phase }, { on := 5, ground := Go.Ground.phase }, { on := 6, ground := Go.Ground.phase }, { on := 7, ground := Go.Ground.phase }, { on := 8, ground := Go.Ground.phase }, { on := 9, ground := Go.Ground.phase }], guard := none }) rfl (fun K hK => ?_) AllReadyH.nil
          go_simp
          go_wp2_with fail
          refine hK.out _ _ (HKS.out _ HQ1.out) (fun hHeld30 => ?_)
          clear hK K
          try simp only [Act.put, List.setIfInBounds_toArray, List.set_cons_zero, List.set_cons_succ]
          refine wpAnyH_ready (rs := [11]) (by kernel_rfl) (by simp) ?_
          refine AllReadyH.cons (o := { dst := none, op := Go.Op.store 24 (Go.Operand.tmp 84) (Go.Operand.tmp 83), type := 0, pos := "law.go:84", after := #[{ on := 10, ground := Go.Ground.data }, { on := 9, ground := Go.Ground.data }, { on := 9, ground := Go.Ground.chain }, { on := 0, ground := Go.Ground.phase }, { on := 1, ground := Go.Ground.phase }, { on := 2, ground := Go.Ground.phase }, { on := 3, ground := Go.Ground.phase }, { on := 4, ground := Go.Ground.phase }, { on := 5, ground := Go.Ground.phase }, { on := 6, ground := Go.Ground.phase }, { on := 7, ground := Go.Ground.phase }, { on := 8, ground := Go.Ground.phase }, { on := 9, ground := Go.Ground.phase }], guard := none }) rfl (fun K hK => ?_) AllReadyH.nil
          go_simp
          go_wp2_with fail
          refine hK.out _ _ (HKT.out _ _ HQ1.out) (fun hHeld31 => ?_)
          clear hK K
          try simp only [Act.put, List.setIfInBounds_toArray, List.set_cons_zero, List.set_cons_succ]
          refine wpAnyH_done (by kernel_rfl) ?_ _
          go_wp2_with fail
          go_meet
          exact hide ⟨a8', c8', W8, rfl, HQ1.out, HQ2.out⟩
        · skip
          have HR1 := hide HR.out.two
          go_simp
          go_wp2_with fail
          refine hK.out _ _ (HKS.out _ HR1.out.bel) (fun hHeld32 => ?_)
          clear hK K
          try simp only [Act.put, List.setIfInBounds_toArray, List.set_cons_zero, List.set_cons_succ]
          clear HR
          generalize X2.alloc (.cells #[.slice (some ⟨_, 0, none⟩) 1 1] 44) = X3 at *
          have HR := HR1
          clear HR1
          obtain ⟨v5, X4, r1, R5⟩ := HR.out.app HL.out h4 hBx (by simp)
          refine wpAnyH_ready (rs := [3]) (by kernel_rfl) (by simp) ?_
          refine AllReadyH.cons (o := { dst := some 77, op := Go.Op.call { callee := Go.Callee.builtin Go.Builtin.append, args := #[Go.Operand.tmp 74, Go.Operand.tmp 76], argTypes := #[24, 24] }, type := 24, pos := "law.go:84", after := #[{ on := 0, ground := Go.Ground.data }, { on := 2, ground := Go.Ground.data }], guard := none }) rfl (fun K hK => ?_) AllReadyH.nil
          refine step_append_eq (by rfl) _ _ 24 24 (by rfl) (by rfl) (by rfl) r1 ?_
          refine hK.out _ _ (HKS.out _ R5.bel) (fun hHeld33 => ?_)
          clear hK K
          try simp only [Act.put, List.setIfInBounds_toArray, List.set_cons_zero, List.set_cons_succ]
          clear r1 HR
          have HR := hide R5
          clear R5
          obtain ⟨a8', c8', W8, r1, q1, q2⟩ := HR.out.fin (b := b) h4 hBx hbx (by omega) (by omega)
          refine wpAnyH_ready (rs := [9]) (by kernel_rfl) (by simp) ?_
          refine AllReadyH.cons (o := { dst := some 83, op := Go.Op.call { callee := Go.Callee.builtin Go.Builtin.append, args := #[Go.Operand.tmp 77, Go.Operand.tmp 82], argTypes := #[24, 24] }, type := 24, pos := "law.go:84", after := #[{ on := 3, ground := Go.Ground.data }, { on := 8, ground := Go.Ground.data }, { on := 3, ground := Go.Ground.chain }], guard := none }) rfl (fun K hK => ?_) AllReadyH.nil
          refine step_append_eq (by rfl) _ _ 24 24 (by rfl) (by rfl) (by rfl) r1 ?_
          refine hK.out _ _ (HKS.out _ q1) (fun hHeld34 => ?_)
          clear hK K
          try simp only [Act.put, List.setIfInBounds_toArray, List.set_cons_zero, List.set_cons_succ]
          clear r1 HR
          obtain ⟨k8, z8⟩ := HKB.out W8 q1
          have HQ1 := hide q1
          have HQ2 := hide q2
          clear q1 q2
          refine wpAnyH_ready (rs := [10]) (by kernel_rfl) (by simp) ?_
          refine AllReadyH.cons (o := { dst := some 84, op := Go.Op.fieldAddr 27 (Go.Operand.tmp 6) 2, type := 0, pos := "law.go:84", after := #[{ on := 0, ground := Go.Ground.phase }, { on := 1, ground := Go.Ground.phase }, { on := 2, ground := Go.Ground.phase }, { on := 3, ground := Go.Ground.phase }, { on := 4, ground := Go.Ground.phase }, { on := 5, ground := Go.Ground.phase }, { on := 6, ground := Go.Ground.phase }, { on := 7, ground := Go.Ground.phase }, { on := 8, ground := Go.Ground.phase }, { on := 9, ground := Go.Ground.phase }], guard := none }) rfl (fun K hK => ?_) AllReadyH.nil
          go_simp
          go_wp2_with fail
          refine hK.out _ _ (HKS.out _ HQ1.out) (fun hHeld35 => ?_)
          clear hK K
          try simp only [Act.put, List.setIfInBounds_toArray, List.set_cons_zero, List.set_cons_succ]
          refine wpAnyH_ready (rs := [11]) (by kernel_rfl) (by simp) ?_
          refine AllReadyH.cons (o := { dst := none, op := Go.Op.store 24 (Go.Operand.tmp 84) (Go.Operand.tmp 83), type := 0, pos := "law.go:84", after := #[{ on := 10, ground := Go.Ground.data }, { on := 9, ground := Go.Ground.data }, { on := 9, ground := Go.Ground.chain }, { on := 0, ground := Go.Ground.phase }, { on := 1, ground := Go.Ground.phase }, { on := 2, ground := Go.Ground.phase }, { on := 3, ground := Go.Ground.phase }, { on := 4, ground := Go.Ground.phase }, { on := 5, ground := Go.Ground.phase }, { on := 6, ground := Go.Ground.phase }, { on := 7, ground := Go.Ground.phase }, { on := 8, ground := Go.Ground.phase }, { on := 9, ground := Go.Ground.phase }], guard := none }) rfl (fun K hK => ?_) AllReadyH.nil
          go_simp
          go_wp2_with fail
          refine hK.out _ _ (HKT.out _ _ HQ1.out) (fun hHeld36 => ?_)
          clear hK K
          try simp only [Act.put, List.setIfInBounds_toArray, List.set_cons_zero, List.set_cons_succ]
          refine wpAnyH_done (by kernel_rfl) ?_ _
          go_wp2_with fail
          go_meet
          exact hide ⟨a8', c8', W8, rfl, HQ1.out, HQ2.out⟩
      · skip
        have HR1 := hide HR.out.two
        go_simp
        go_wp2_with fail
        refine hK.out _ _ (HKS.out _ HR1.out.bel) (fun hHeld37 => ?_)
        clear hK K
        try simp only [Act.put, List.setIfInBounds_toArray, List.set_cons_zero, List.set_cons_succ]
        clear HR
        generalize X1.alloc (.cells #[.slice (some ⟨_, 0, none⟩) 1 1] 44) = X2 at *
        have HR := HR1
        clear HR1
        have HR1 := hide HR.out.emp
        refine wpAnyH_ready (rs := [0]) (by kernel_rfl) (by simp) ?_
        refine AllReadyH.cons (o := { dst := some 74, op := Go.Op.buildSlice 24 0 #[], type := 24, pos := "law.go:84", after := #[], guard := none }) rfl (fun K hK => ?_) AllReadyH.nil
        go_simp
        go_wp2_with fail
        refine hK.out _ _ (HKS.out _ HR1.out.bel) (fun hHeld38 => ?_)
        clear hK K
        try simp only [Act.put, List.setIfInBounds_toArray, List.set_cons_zero, List.set_cons_succ]
        clear HR
        generalize X2.alloc (.cells #[] 44) = X3 at *
        have HR := HR1
        clear HR1
        obtain ⟨v5, X4, r1, R5⟩ := HR.out.app HL.out h4 hBx (by simp)
        refine wpAnyH_ready (rs := [3]) (by kernel_rfl) (by simp) ?_
        refine AllReadyH.cons (o := { dst := some 77, op := Go.Op.call { callee := Go.Callee.builtin Go.Builtin.append, args := #[Go.Operand.tmp 74, Go.Operand.tmp 76], argTypes := #[24, 24] }, type := 24, pos := "law.go:84", after := #[{ on := 0, ground := Go.Ground.data }, { on := 2, ground := Go.Ground.data }], guard := none }) rfl (fun K hK => ?_) AllReadyH.nil
        refine step_append_eq (by rfl) _ _ 24 24 (by rfl) (by rfl) (by rfl) r1 ?_
        refine hK.out _ _ (HKS.out _ R5.bel) (fun hHeld39 => ?_)
        clear hK K
        try simp only [Act.put, List.setIfInBounds_toArray, List.set_cons_zero, List.set_cons_succ]
        clear r1 HR
        have HR := hide R5
        clear R5
        obtain ⟨a8', c8', W8, r1, q1, q2⟩ := HR.out.fin (b := b) h4 hBx hbx (by omega) (by omega)
        refine wpAnyH_ready (rs := [9]) (by kernel_rfl) (by simp) ?_
        refine AllReadyH.cons (o := { dst := some 83, op := Go.Op.call { callee := Go.Callee.builtin Go.Builtin.append, args := #[Go.Operand.tmp 77, Go.Operand.tmp 82], argTypes := #[24, 24] }, type := 24, pos := "law.go:84", after := #[{ on := 3, ground := Go.Ground.data }, { on := 8, ground := Go.Ground.data }, { on := 3, ground := Go.Ground.chain }], guard := none }) rfl (fun K hK => ?_) AllReadyH.nil
        refine step_append_eq (by rfl) _ _ 24 24 (by rfl) (by rfl) (by rfl) r1 ?_
        refine hK.out _ _ (HKS.out _ q1) (fun hHeld40 => ?_)
        clear hK K
        try simp only [Act.put, List.setIfInBounds_toArray, List.set_cons_zero, List.set_cons_succ]
        clear r1 HR
        obtain ⟨k8, z8⟩ := HKB.out W8 q1
        have HQ1 := hide q1
        have HQ2 := hide q2
        clear q1 q2
        refine wpAnyH_ready (rs := [10]) (by kernel_rfl) (by simp) ?_
        refine AllReadyH.cons (o := { dst := some 84, op := Go.Op.fieldAddr 27 (Go.Operand.tmp 6) 2, type := 0, pos := "law.go:84", after := #[{ on := 0, ground := Go.Ground.phase }, { on := 1, ground := Go.Ground.phase }, { on := 2, ground := Go.Ground.phase }, { on := 3, ground := Go.Ground.phase }, { on := 4, ground := Go.Ground.phase }, { on := 5, ground := Go.Ground.phase }, { on := 6, ground := Go.Ground.phase }, { on := 7, ground := Go.Ground.phase }, { on := 8, ground := Go.Ground.phase }, { on := 9, ground := Go.Ground.phase }], guard := none }) rfl (fun K hK => ?_) AllReadyH.nil
        go_simp
        go_wp2_with fail
        refine hK.out _ _ (HKS.out _ HQ1.out) (fun hHeld41 => ?_)
        clear hK K
        try simp only [Act.put, List.setIfInBounds_toArray, List.set_cons_zero, List.set_cons_succ]
        refine wpAnyH_ready (rs := [11]) (by kernel_rfl) (by simp) ?_
        refine AllReadyH.cons (o := { dst := none, op := Go.Op.store 24 (Go.Operand.tmp 84) (Go.Operand.tmp 83), type := 0, pos := "law.go:84", after := #[{ on := 10, ground := Go.Ground.data }, { on := 9, ground := Go.Ground.data }, { on := 9, ground := Go.Ground.chain }, { on := 0, ground := Go.Ground.phase }, { on := 1, ground := Go.Ground.phase }, { on := 2, ground := Go.Ground.phase }, { on := 3, ground := Go.Ground.phase }, { on := 4, ground := Go.Ground.phase }, { on := 5, ground := Go.Ground.phase }, { on := 6, ground := Go.Ground.phase }, { on := 7, ground := Go.Ground.phase }, { on := 8, ground := Go.Ground.phase }, { on := 9, ground := Go.Ground.phase }], guard := none }) rfl (fun K hK => ?_) AllReadyH.nil
        go_simp
        go_wp2_with fail
        refine hK.out _ _ (HKT.out _ _ HQ1.out) (fun hHeld42 => ?_)
        clear hK K
        try simp only [Act.put, List.setIfInBounds_toArray, List.set_cons_zero, List.set_cons_succ]
        refine wpAnyH_done (by kernel_rfl) ?_ _
        go_wp2_with fail
        go_meet
        exact hide ⟨a8', c8', W8, rfl, HQ1.out, HQ2.out⟩
  case rest =>
    obtain ⟨ta8, tc8, W8, hwc, q1, q2⟩ := hcut.out
    obtain ⟨m1, m2, m3, m4, m5, m6⟩ := box_step (o := 2) (u := .slice ta8 (p.ta.length + 1) tc8) q1 HEb.out
    rw [← hwc] at m1 m2 m3 m4 m5 m6
    have HBc := hide (show Below W1.heap.size W1 wc from HBb.out.trans ⟨m6.1, m6.2.1, m6.2.2, m2, fun j hj => m5 j (by omega) (by have := HBb.out.size; omega)⟩)
    have HF1 := hide (HF1.out.next m2 (fun j g1 g2 => m5 j (by omega) g2) (fun j hj => m5 j (by omega) (by omega)))
    have HF2 := hide (HF2.out.next m2 (fun j g1 g2 => m5 j (by omega) g2) (fun j hj => m5 j (by omega) (by omega)))
    have HF3 := hide (HF3.out.next m2 (fun j g1 g2 => m5 j (by omega) g2) (fun j hj => m5 j (by omega) (by omega)))
    have HF4 := hide (q2.next (Nat.le_of_eq m3.symm) (fun j g1 _ => m4 j (by omega)) (fun j hj => m5 j (by omega) (by omega)))
    have PQ : PgAt wc.heap.size wc (.slice a8 (p.ty.length + 1) c8) (.slice f8 (p.fu.length + 1) cf8) (.slice ta8 (p.ta.length + 1) tc8) (.slice g8 (p.st.length + 1) cg8) (addQ p) :=
      ⟨HF1.out wc (Nat.le_refl _) (fun _ _ _ => rfl) (fun _ _ => rfl), HF2.out wc (Nat.le_refl _) (fun _ _ _ => rfl) (fun _ _ => rfl), HF4.out wc (Nat.le_refl _) (fun _ _ _ => rfl) (fun _ _ => rfl), HF3.out wc (Nat.le_refl _) (fun _ _ _ => rfl) (fun _ _ => rfl)⟩
    have HC9 := hide (check_any PQ (Nat.le_refl _) (HPG.out wc HBc.out).2.2 (Nat.lt_of_lt_of_le (Nat.lt_of_lt_of_le HB0.out hBx) m2))
    unfold CkO at HC9
    rw [HCQ.out] at HC9
    have y0 : wc.cell? ⟨b, 0, none⟩ = some (.slice a8 (p.ty.length + 1) c8) := cell_of m1 rfl
    have y1 : wc.cell? ⟨b, 1, none⟩ = some (.slice f8 (p.fu.length + 1) cf8) := cell_of m1 rfl
    have y2 : wc.cell? ⟨b, 2, none⟩ = some (.slice ta8 (p.ta.length + 1) tc8) := cell_of m1 rfl
    have y3 : wc.cell? ⟨b, 3, none⟩ = some (.slice g8 (p.st.length + 1) cg8) := cell_of m1 rfl
    clear m1 m2 m3 m4 m5 m6 hwc q1 q2 hcut PQ HF1 HF2 HF3 HF4 HKS HKT HKB HL
    go_wp2_with fail
    refine HC9.out.mono ?_
    rintro e w9 ⟨rfl, hb9⟩
    have HB9 := hide (bel_tr (bel_tr HB1.out HBc.out) hb9)
    clear hb9
    go_wp2_with fail
    go_ret
    exact ⟨rfl, HB9.out⟩
end
end Go.Proofs.YtaeheikhpepipaaDoor
