/- The law EscapeMore. -/
import Derived.Test.YtlbildodjnjniaaEsT
namespace Go.Proofs.Ytlbildodjnjniaa
open Go.RowKit
theorem bool_at {w : World} {ao : Option Addr} {n cap : Nat} {l : List Bool} (F : BoolsAt w (.slice ao n cap) l) {j : Nat} {x : Bool} (h : l[j]? = some x) : ∃ g o, ao = some ⟨g, o, none⟩ ∧ g < w.heap.size ∧ w.cell? ⟨g, o + j, none⟩ = some (.bool x) := by
  obtain ⟨ao', cap', e, hc⟩ := F
  cases e
  exact hc j x h
abbrev oE : Obj := .cells #[] 42
abbrev oB (f : Fl) : Obj := .cells #[.int .i64 f.to, .int .i64 f.fr, .int .i64 f.rf] 42
set_option maxHeartbeats 4000000 in
theorem more_law {w : World} {vp vf : Value} {ps : List Pt} {fs : List Fl} (R : PtsAt w vp ps) (F : FlsAt w vf fs) (f : Fl) (hl : fs.length ≤ 2000000) :
    Calls Try.prog 5 #[vp, vf, .agg #[.int .i64 f.to, .int .i64 f.fr, .int .i64 f.rf]] w fun e w' => e = .returned (.bool true) ∧ Below w.heap.size w w' := by
  obtain ⟨W0, hW0⟩ : ∃ W0, w.alloc (oB f) = W0 := ⟨_, rfl⟩
  have hb0 : Below w.heap.size w W0 := by rw [← hW0]; exact (Below.refl _ _).alloc (Nat.le_refl _) _
  have bx0 : W0.heap[w.heap.size]? = some (.cells #[.int .i64 f.to, .int .i64 f.fr, .int .i64 f.rf] 42 (0, 0)) := by rw [← hW0]; exact heap_new _ _ rfl
  have hs1 := solve_any (R.below hb0) (F.below hb0)
  have HR := hide R
  have HF := hide F
  obtain ⟨ao, cap, rfl, _⟩ := R
  obtain ⟨bo, cbp, rfl, _⟩ := F
  go_enter Try.func5, Try.ntmps5
  go_wp2_with fail
  refine hs1.mono ?_
  rintro e w2 ⟨va, ea, rfl, SA, hb2⟩
  have hbb := hb0.trans (hb2.mono hb0.size)
  have bx2 := (hb2.block _ (lt_of_block bx0)).trans bx0
  obtain ⟨aa, na, ca, e1, hva, hea⟩ := SA.shape
  subst hva hea
  have HSA := hide SA
  have HBB := hide hbb
  have HR2 := hide (HR.out.below hbb)
  have HF2 := hide (HF.out.below hbb)
  have bl2 := lt_of_block bx2
  clear hs1 hb2 SA hbb hb0 bx0 hW0
  generalize hn : ps.length = n at *
  generalize hm : fs.length = m at *
  generalize hbx : w.heap.size = bx at bx2 bl2 ⊢
  have HBX := hide hbx
  clear hbx
  go_upto_region 2 with fail
  -- the three orders
  have zE : (w2.alloc oE).drew.heap.size = w2.heap.size + 1 := by show (w2.alloc oE).heap.size = _; simp
  have zEM : ((w2.alloc oE).alloc (oB f)).drew.heap.size = w2.heap.size + 1 + 1 := by show ((w2.alloc oE).alloc (oB f)).heap.size = _; simp
  have zME : ((w2.alloc (oB f)).alloc oE).drew.heap.size = w2.heap.size + 1 + 1 := by show ((w2.alloc (oB f)).alloc oE).heap.size = _; simp
  have lE : Below w2.heap.size w2 (w2.alloc oE).drew := below_drewN ((Below.refl w2.heap.size w2).alloc (Nat.le_refl _) oE) 1
  have lEM : Below w2.heap.size w2 ((w2.alloc oE).alloc (oB f)).drew := below_drewN (((Below.refl w2.heap.size w2).alloc (Nat.le_refl _) oE).alloc (by simp) (oB f)) 1
  have lME : Below w2.heap.size w2 ((w2.alloc (oB f)).alloc oE).drew := below_drewN (((Below.refl w2.heap.size w2).alloc (Nat.le_refl _) (oB f)).alloc (by simp) oE) 1
  obtain ⟨a1, c1, u1, r1, o1, k1, q1⟩ := chainA (w := (w2.alloc oE).drew) (w0 := w2) (b := w2.heap.size) (heap_new w2 oE rfl) (Nat.le_refl _) lE HF2.out (by omega)
  obtain ⟨a2, c2, u2, r2, o2, k2, q2⟩ := chainA (w := ((w2.alloc oE).alloc (oB f)).drew) (w0 := w2) (b := w2.heap.size) ((Below.heap_alloc (w2.alloc oE) (oB f) _ (by simp)).trans (heap_new w2 oE rfl)) (Nat.le_refl _) lEM HF2.out (by omega)
  obtain ⟨a3, c3, u3, r3, o3, k3, q3⟩ := chainA (w := ((w2.alloc (oB f)).alloc oE).drew) (w0 := w2) (b := w2.heap.size + 1) (heap_new (w2.alloc (oB f)) oE (by simp)) (by omega) lME HF2.out (by omega)
  obtain ⟨U1, hU1⟩ : ∃ U1, u1.alloc (oB f) = U1 := ⟨_, rfl⟩
  have kU1 : Below u1.heap.size u1 U1 := by rw [← hU1]; exact (Below.refl _ _).alloc (Nat.le_refl _) _
  obtain ⟨g1, d1, x1, s1, t1, y1⟩ := chainB (w := U1) (w0 := w2) (f := f) (bm := u1.heap.size) (ownsRow_keep o1 fun g hg => kU1.block g (o1.lt g hg).2) (k1.trans (kU1.mono k1.size)) (by rw [← hU1]; exact heap_new _ _ rfl) (by omega)
  obtain ⟨g2, d2, x2, s2, t2, y2⟩ := chainB (w := u2) (w0 := w2) (f := f) (bm := w2.heap.size + 1) o2 k2 ((q2 _ (by rw [zEM]; omega) (by omega)).trans (heap_new (w2.alloc oE) (oB f) (by simp))) (by omega)
  obtain ⟨g3, d3, x3, s3, t3, y3⟩ := chainB (w := u3) (w0 := w2) (f := f) (bm := w2.heap.size) o3 k3 ((q3 _ (by rw [zME]; omega) (by omega)).trans ((Below.heap_alloc (w2.alloc (oB f)) oE _ (by simp)).trans (heap_new w2 (oB f) rfl))) (by omega)
  have S1 := hide (solve_any (HR2.out.below y1) t1)
  have S2 := hide (solve_any (HR2.out.below y2) t2)
  have S3 := hide (solve_any (HR2.out.below y3) t3)
  have Y := hide (And.intro y1 (And.intro y2 y3))
  have bu1 := (k1.block _ bl2).trans bx2
  have bU1 := (kU1.block _ (lt_of_block bu1)).trans bu1
  have e0 := cell_of bx2 (o := 0) rfl
  have e1' := cell_of bx2 (o := 1) rfl
  have e2 := cell_of bx2 (o := 2) rfl
  have f0 := cell_of bu1 (o := 0) rfl
  have f1 := cell_of bu1 (o := 1) rfl
  have f2 := cell_of bu1 (o := 2) rfl
  rw [hm] at r1 r2 r3 s1 s2 s3 S1 S2 S3
  have KU := hide (And.intro k2 k3)
  have BU1 := hide (And.intro bu1 bU1)
  have HBX2 := hide bx2
  have BE := hide (show (w2.alloc oE).heap[bx]? = _ from (Below.heap_alloc w2 oE _ bl2).trans bx2)
  have BM := hide (show (w2.alloc (oB f)).heap[bx]? = _ from (Below.heap_alloc w2 (oB f) _ bl2).trans bx2)
  have BEM := hide (show ((w2.alloc oE).alloc (oB f)).heap[bx]? = _ from (Below.heap_alloc (w2.alloc oE) (oB f) _ (by simp; omega)).trans BE.out)
  have BME := hide (show ((w2.alloc (oB f)).alloc oE).heap[bx]? = _ from (Below.heap_alloc (w2.alloc (oB f)) oE _ (by simp; omega)).trans BM.out)
  have HK := hide (fun (W : World) (h : W.heap[bx]? = some (.cells #[.int .i64 f.to, .int .i64 f.fr, .int .i64 f.rf] 42 (0, 0))) => (show W.cell? ⟨bx, 0, none⟩ = some (.int .i64 f.to) ∧ W.cell? ⟨bx, 1, none⟩ = some (.int .i64 f.fr) ∧ W.cell? ⟨bx, 2, none⟩ = some (.int .i64 f.rf) from ⟨cell_of h rfl, cell_of h rfl, cell_of h rfl⟩))
  clear e0 e1' e2 f0 f1 f2
  clear o1 o2 o3 k1 k2 k3 q1 q2 q3 t1 t2 t3 y1 y2 y3 kU1 zE zEM zME lE lEM lME bu1 bU1 bx2
  go_cut [9, 10] from 18 to 28 (fun v9 v10 wc => Hid (SolO ps (fs ++ [f]) wc v9 v10 ∧ Below w2.heap.size w2 wc))
  case first =>
    refine wp_region_held_drew (S := (fun W : World => W.cell? ⟨bx, 0, none⟩ = some (.int .i64 f.to) ∧ W.cell? ⟨bx, 1, none⟩ = some (.int .i64 f.fr) ∧ W.cell? ⟨bx, 2, none⟩ = some (.int .i64 f.rf))) (by kernel_rfl) (HK.out _ HBX2.out) (fun hHeld1 => ?_)
    refine wpAnyH_take (i := 0) (oi := { dst := some 19, op := Go.Op.move (Go.Operand.tmp 0), type := 22, pos := "law.go:63", after := #[], guard := none }) (v := ?v2) rfl (by kernel_rfl) (by kernel_rfl) (by kernel_rfl) (fun _ _ _ h => h) (Or.inl ⟨by rfl, ?hy2⟩) (by assumption) ?_
    case hy2 => (intro W hSw; (try dsimp only at hSw); go_simp; try with_reducible rfl)
    try simp only [Act.put, List.setIfInBounds_toArray, List.set_cons_zero, List.set_cons_succ]
    refine wpAnyH_take (i := 2) (oi := { dst := some 21, op := Go.Op.move (Go.Operand.tmp 1), type := 23, pos := "law.go:63", after := #[], guard := none }) (v := ?v3) rfl (by kernel_rfl) (by kernel_rfl) (by kernel_rfl) (fun _ _ _ h => h) (Or.inl ⟨by rfl, ?hy3⟩) (by assumption) ?_
    case hy3 => (intro W hSw; (try dsimp only at hSw); go_simp; try with_reducible rfl)
    try simp only [Act.put, List.setIfInBounds_toArray, List.set_cons_zero, List.set_cons_succ]
    refine wpAnyH_take (i := 4) (oi := { dst := some 23, op := Go.Op.load 42 (Go.Operand.tmp 5), type := 42, pos := "law.go:63", after := #[], guard := none }) (v := ?v4) rfl (by kernel_rfl) (by kernel_rfl) (by kernel_rfl) (fun _ _ _ h => h) (Or.inl ⟨by rfl, ?hy4⟩) (by assumption) ?_
    case hy4 => (intro W hSw; (try dsimp only at hSw); go_simp; try with_reducible rfl)
    try simp only [Act.put, List.setIfInBounds_toArray, List.set_cons_zero, List.set_cons_succ]
    refine wpAnyH_ready (rs := [1, 5]) (by kernel_rfl) (by simp) ?_
    refine AllReadyH.cons (o := { dst := some 20, op := Go.Op.buildSlice 23 0 #[], type := 23, pos := "law.go:63", after := #[], guard := none }) rfl (fun K hK => ?_) (AllReadyH.cons (o := { dst := some 24, op := Go.Op.buildSlice 23 1 #[(0, Go.Operand.tmp 23)], type := 23, pos := "law.go:63", after := #[{ on := 4, ground := Go.Ground.data }], guard := none }) rfl (fun K hK => ?_) AllReadyH.nil)
    · skip
      go_simp
      go_wp2_with fail
      refine hK.out _ _ (HK.out _ BE.out) (fun hHeld5 => ?_)
      clear hK K
      try simp only [Act.put, List.setIfInBounds_toArray, List.set_cons_zero, List.set_cons_succ]
      refine wpAnyH_ready (rs := [3, 5]) (by kernel_rfl) (by simp) ?_
      refine AllReadyH.cons (o := { dst := some 22, op := Go.Op.call { callee := Go.Callee.builtin Go.Builtin.append, args := #[Go.Operand.tmp 20, Go.Operand.tmp 21], argTypes := #[23, 23] }, type := 23, pos := "law.go:63", after := #[{ on := 1, ground := Go.Ground.data }, { on := 2, ground := Go.Ground.data }], guard := none }) rfl (fun K hK => ?_) (AllReadyH.cons (o := { dst := some 24, op := Go.Op.buildSlice 23 1 #[(0, Go.Operand.tmp 23)], type := 23, pos := "law.go:63", after := #[{ on := 4, ground := Go.Ground.data }], guard := none }) rfl (fun K hK => ?_) AllReadyH.nil)
      · skip
        refine step_append_eq (by rfl) _ _ 23 (by rfl) (by rfl) (by rfl) r1 ?_
        refine hK.out _ _ (HK.out _ BU1.out.1) (fun hHeld6 => ?_)
        clear hK K
        try simp only [Act.put, List.setIfInBounds_toArray, List.set_cons_zero, List.set_cons_succ]
        refine wpAnyH_ready (rs := [5]) (by kernel_rfl) (by simp) ?_
        refine AllReadyH.cons (o := { dst := some 24, op := Go.Op.buildSlice 23 1 #[(0, Go.Operand.tmp 23)], type := 23, pos := "law.go:63", after := #[{ on := 4, ground := Go.Ground.data }], guard := none }) rfl (fun K hK => ?_) AllReadyH.nil
        go_simp
        go_wp2_with fail
        refine hK.out _ _ (HK.out _ BU1.out.2) (fun hHeld7 => ?_)
        clear hK K
        try simp only [Act.put, List.setIfInBounds_toArray, List.set_cons_zero, List.set_cons_succ]
        refine wpAnyH_ready (rs := [6]) (by kernel_rfl) (by simp) ?_
        refine AllReadyH.cons (o := { dst := some 25, op := Go.Op.call { callee := Go.Callee.builtin Go.Builtin.append, args := #[Go.Operand.tmp 22, Go.Operand.tmp 24], argTypes := #[23, 23] }, type := 23, pos := "law.go:63", after := #[{ on := 3, ground := Go.Ground.data }, { on := 5, ground := Go.Ground.data }, { on := 3, ground := Go.Ground.chain }], guard := none }) rfl (fun K hK => ?_) AllReadyH.nil
        refine step_append_eq (by rfl) _ _ 23 (by rfl) (by rfl) (by rfl) s1 ?_
        refine hK.out _ _ (HK.out _ ((Y.out.1.block bx bl2).trans HBX2.out)) (fun hHeld8 => ?_)
        clear hK K
        try simp only [Act.put, List.setIfInBounds_toArray, List.set_cons_zero, List.set_cons_succ]
        refine wpAnyH_ready (rs := [7]) (by kernel_rfl) (by simp) ?_
        refine AllReadyH.cons (o := { dst := some 26, op := Go.Op.call { callee := Go.Callee.value (Go.Operand.func 14), args := #[Go.Operand.tmp 19, Go.Operand.tmp 25], argTypes := #[22, 23] }, type := 35, pos := "law.go:63", after := #[{ on := 0, ground := Go.Ground.data }, { on := 6, ground := Go.Ground.data }, { on := 6, ground := Go.Ground.chain }], guard := none }) rfl (fun K hK => ?_) AllReadyH.nil
        go_simp
        refine S1.out.mono ?_
        rintro e w9 ⟨v9, v10, rfl, SS, hb9⟩
        have H9 := hide (And.intro SS (Y.out.1.trans (hb9.mono (Y.out.1).size)))
        clear SS hb9
        go_wp2_with fail
        refine hK.out _ _ (HK.out _ ((H9.out.2.block bx bl2).trans HBX2.out)) (fun hHeld9 => ?_)
        clear hK K
        try simp only [Act.put, List.setIfInBounds_toArray, List.set_cons_zero, List.set_cons_succ]
        refine wpAnyH_take (i := 8) (oi := { dst := some 18, op := Go.Op.move (Go.Operand.tmp 26), type := 35, pos := "law.go:63", after := #[{ on := 7, ground := Go.Ground.data }], guard := none }) (v := ?v10) rfl (by kernel_rfl) (by kernel_rfl) (by kernel_rfl) (fun _ _ _ h => h) (Or.inl ⟨by rfl, ?hy10⟩) (by assumption) ?_
        case hy10 => (intro W hSw; (try dsimp only at hSw); go_simp; try with_reducible rfl)
        try simp only [Act.put, List.setIfInBounds_toArray, List.set_cons_zero, List.set_cons_succ]
        refine wpAnyH_take (i := 9) (oi := { dst := some 27, op := Go.Op.extract (Go.Operand.tmp 18) 0, type := 34, pos := "law.go:63", after := #[{ on := 8, ground := Go.Ground.data }], guard := none }) (v := ?v11) rfl (by kernel_rfl) (by kernel_rfl) (by kernel_rfl) (fun _ _ _ h => h) (Or.inl ⟨by rfl, ?hy11⟩) (by assumption) ?_
        case hy11 => (intro W hSw; (try dsimp only at hSw); go_simp; try with_reducible rfl)
        try simp only [Act.put, List.setIfInBounds_toArray, List.set_cons_zero, List.set_cons_succ]
        refine wpAnyH_take (i := 10) (oi := { dst := some 28, op := Go.Op.extract (Go.Operand.tmp 18) 1, type := 25, pos := "law.go:63", after := #[{ on := 8, ground := Go.Ground.data }, { on := 11, ground := Go.Ground.gcOnly Go.Departure.lateStores }], guard := none }) (v := ?v12) rfl (by kernel_rfl) (by kernel_rfl) (by kernel_rfl) (fun _ _ _ h => h) (Or.inl ⟨by rfl, ?hy12⟩) (by assumption) ?_
        case hy12 => (intro W hSw; (try dsimp only at hSw); go_simp; try with_reducible rfl)
        try simp only [Act.put, List.setIfInBounds_toArray, List.set_cons_zero, List.set_cons_succ]
        refine wpAnyH_ready (rs := [11]) (by kernel_rfl) (by simp) ?_
        refine AllReadyH.cons (o := { dst := some 9, op := Go.Op.assign (Go.Operand.tmp 27), type := 34, pos := "law.go:63", after := #[{ on := 9, ground := Go.Ground.data }, { on := 7, ground := Go.Ground.chain }, { on := 0, ground := Go.Ground.phase }, { on := 1, ground := Go.Ground.phase }, { on := 2, ground := Go.Ground.phase }, { on := 3, ground := Go.Ground.phase }, { on := 4, ground := Go.Ground.phase }, { on := 5, ground := Go.Ground.phase }, { on := 6, ground := Go.Ground.phase }, { on := 7, ground := Go.Ground.phase }, { on := 8, ground := Go.Ground.phase }, { on := 9, ground := Go.Ground.phase }, { on := 10, ground := Go.Ground.textOnly Go.Departure.lateStores }], guard := none }) rfl (fun K hK => ?_) AllReadyH.nil
        go_simp
        go_wp2_with fail
        refine hK.out _ _ (HK.out _ ((H9.out.2.block bx bl2).trans HBX2.out)) (fun hHeld13 => ?_)
        clear hK K
        try simp only [Act.put, List.setIfInBounds_toArray, List.set_cons_zero, List.set_cons_succ]
        refine wpAnyH_ready (rs := [12]) (by kernel_rfl) (by simp) ?_
        refine AllReadyH.cons (o := { dst := some 10, op := Go.Op.assign (Go.Operand.tmp 28), type := 25, pos := "law.go:63", after := #[{ on := 10, ground := Go.Ground.data }, { on := 11, ground := Go.Ground.chain }, { on := 0, ground := Go.Ground.phase }, { on := 1, ground := Go.Ground.phase }, { on := 2, ground := Go.Ground.phase }, { on := 3, ground := Go.Ground.phase }, { on := 4, ground := Go.Ground.phase }, { on := 5, ground := Go.Ground.phase }, { on := 6, ground := Go.Ground.phase }, { on := 7, ground := Go.Ground.phase }, { on := 8, ground := Go.Ground.phase }, { on := 9, ground := Go.Ground.phase }, { on := 10, ground := Go.Ground.phase }, { on := 11, ground := Go.Ground.phase }], guard := none }) rfl (fun K hK => ?_) AllReadyH.nil
        go_simp
        go_wp2_with fail
        refine hK.out _ _ (HK.out _ ((H9.out.2.block bx bl2).trans HBX2.out)) (fun hHeld14 => ?_)
        clear hK K
        try simp only [Act.put, List.setIfInBounds_toArray, List.set_cons_zero, List.set_cons_succ]
        refine wpAnyH_done (by kernel_rfl) ?_ _
        go_wp2_with fail
        go_meet
        exact H9
      · skip
        go_simp
        go_wp2_with fail
        refine hK.out _ _ (HK.out _ BEM.out) (fun hHeld15 => ?_)
        clear hK K
        try simp only [Act.put, List.setIfInBounds_toArray, List.set_cons_zero, List.set_cons_succ]
        refine wpAnyH_ready (rs := [3]) (by kernel_rfl) (by simp) ?_
        refine AllReadyH.cons (o := { dst := some 22, op := Go.Op.call { callee := Go.Callee.builtin Go.Builtin.append, args := #[Go.Operand.tmp 20, Go.Operand.tmp 21], argTypes := #[23, 23] }, type := 23, pos := "law.go:63", after := #[{ on := 1, ground := Go.Ground.data }, { on := 2, ground := Go.Ground.data }], guard := none }) rfl (fun K hK => ?_) AllReadyH.nil
        refine step_append_eq (by rfl) _ _ 23 (by rfl) (by rfl) (by rfl) r2 ?_
        refine hK.out _ _ (HK.out _ ((KU.out.1.block bx bl2).trans HBX2.out)) (fun hHeld16 => ?_)
        clear hK K
        try simp only [Act.put, List.setIfInBounds_toArray, List.set_cons_zero, List.set_cons_succ]
        refine wpAnyH_ready (rs := [6]) (by kernel_rfl) (by simp) ?_
        refine AllReadyH.cons (o := { dst := some 25, op := Go.Op.call { callee := Go.Callee.builtin Go.Builtin.append, args := #[Go.Operand.tmp 22, Go.Operand.tmp 24], argTypes := #[23, 23] }, type := 23, pos := "law.go:63", after := #[{ on := 3, ground := Go.Ground.data }, { on := 5, ground := Go.Ground.data }, { on := 3, ground := Go.Ground.chain }], guard := none }) rfl (fun K hK => ?_) AllReadyH.nil
        refine step_append_eq (by rfl) _ _ 23 (by rfl) (by rfl) (by rfl) s2 ?_
        refine hK.out _ _ (HK.out _ ((Y.out.2.1.block bx bl2).trans HBX2.out)) (fun hHeld17 => ?_)
        clear hK K
        try simp only [Act.put, List.setIfInBounds_toArray, List.set_cons_zero, List.set_cons_succ]
        refine wpAnyH_ready (rs := [7]) (by kernel_rfl) (by simp) ?_
        refine AllReadyH.cons (o := { dst := some 26, op := Go.Op.call { callee := Go.Callee.value (Go.Operand.func 14), args := #[Go.Operand.tmp 19, Go.Operand.tmp 25], argTypes := #[22, 23] }, type := 35, pos := "law.go:63", after := #[{ on := 0, ground := Go.Ground.data }, { on := 6, ground := Go.Ground.data }, { on := 6, ground := Go.Ground.chain }], guard := none }) rfl (fun K hK => ?_) AllReadyH.nil
        go_simp
        refine S2.out.mono ?_
        rintro e w9 ⟨v9, v10, rfl, SS, hb9⟩
        have H9 := hide (And.intro SS (Y.out.2.1.trans (hb9.mono (Y.out.2.1).size)))
        clear SS hb9
        go_wp2_with fail
        refine hK.out _ _ (HK.out _ ((H9.out.2.block bx bl2).trans HBX2.out)) (fun hHeld18 => ?_)
        clear hK K
        try simp only [Act.put, List.setIfInBounds_toArray, List.set_cons_zero, List.set_cons_succ]
        refine wpAnyH_take (i := 8) (oi := { dst := some 18, op := Go.Op.move (Go.Operand.tmp 26), type := 35, pos := "law.go:63", after := #[{ on := 7, ground := Go.Ground.data }], guard := none }) (v := ?v19) rfl (by kernel_rfl) (by kernel_rfl) (by kernel_rfl) (fun _ _ _ h => h) (Or.inl ⟨by rfl, ?hy19⟩) (by assumption) ?_
        case hy19 => (intro W hSw; (try dsimp only at hSw); go_simp; try with_reducible rfl)
        try simp only [Act.put, List.setIfInBounds_toArray, List.set_cons_zero, List.set_cons_succ]
        refine wpAnyH_take (i := 9) (oi := { dst := some 27, op := Go.Op.extract (Go.Operand.tmp 18) 0, type := 34, pos := "law.go:63", after := #[{ on := 8, ground := Go.Ground.data }], guard := none }) (v := ?v20) rfl (by kernel_rfl) (by kernel_rfl) (by kernel_rfl) (fun _ _ _ h => h) (Or.inl ⟨by rfl, ?hy20⟩) (by assumption) ?_
        case hy20 => (intro W hSw; (try dsimp only at hSw); go_simp; try with_reducible rfl)
        try simp only [Act.put, List.setIfInBounds_toArray, List.set_cons_zero, List.set_cons_succ]
        refine wpAnyH_take (i := 10) (oi := { dst := some 28, op := Go.Op.extract (Go.Operand.tmp 18) 1, type := 25, pos := "law.go:63", after := #[{ on := 8, ground := Go.Ground.data }, { on := 11, ground := Go.Ground.gcOnly Go.Departure.lateStores }], guard := none }) (v := ?v21) rfl (by kernel_rfl) (by kernel_rfl) (by kernel_rfl) (fun _ _ _ h => h) (Or.inl ⟨by rfl, ?hy21⟩) (by assumption) ?_
        case hy21 => (intro W hSw; (try dsimp only at hSw); go_simp; try with_reducible rfl)
        try simp only [Act.put, List.setIfInBounds_toArray, List.set_cons_zero, List.set_cons_succ]
        refine wpAnyH_ready (rs := [11]) (by kernel_rfl) (by simp) ?_
        refine AllReadyH.cons (o := { dst := some 9, op := Go.Op.assign (Go.Operand.tmp 27), type := 34, pos := "law.go:63", after := #[{ on := 9, ground := Go.Ground.data }, { on := 7, ground := Go.Ground.chain }, { on := 0, ground := Go.Ground.phase }, { on := 1, ground := Go.Ground.phase }, { on := 2, ground := Go.Ground.phase }, { on := 3, ground := Go.Ground.phase }, { on := 4, ground := Go.Ground.phase }, { on := 5, ground := Go.Ground.phase }, { on := 6, ground := Go.Ground.phase }, { on := 7, ground := Go.Ground.phase }, { on := 8, ground := Go.Ground.phase }, { on := 9, ground := Go.Ground.phase }, { on := 10, ground := Go.Ground.textOnly Go.Departure.lateStores }], guard := none }) rfl (fun K hK => ?_) AllReadyH.nil
        go_simp
        go_wp2_with fail
        refine hK.out _ _ (HK.out _ ((H9.out.2.block bx bl2).trans HBX2.out)) (fun hHeld22 => ?_)
        clear hK K
        try simp only [Act.put, List.setIfInBounds_toArray, List.set_cons_zero, List.set_cons_succ]
        refine wpAnyH_ready (rs := [12]) (by kernel_rfl) (by simp) ?_
        refine AllReadyH.cons (o := { dst := some 10, op := Go.Op.assign (Go.Operand.tmp 28), type := 25, pos := "law.go:63", after := #[{ on := 10, ground := Go.Ground.data }, { on := 11, ground := Go.Ground.chain }, { on := 0, ground := Go.Ground.phase }, { on := 1, ground := Go.Ground.phase }, { on := 2, ground := Go.Ground.phase }, { on := 3, ground := Go.Ground.phase }, { on := 4, ground := Go.Ground.phase }, { on := 5, ground := Go.Ground.phase }, { on := 6, ground := Go.Ground.phase }, { on := 7, ground := Go.Ground.phase }, { on := 8, ground := Go.Ground.phase }, { on := 9, ground := Go.Ground.phase }, { on := 10, ground := Go.Ground.phase }, { on := 11, ground := Go.Ground.phase }], guard := none }) rfl (fun K hK => ?_) AllReadyH.nil
        go_simp
        go_wp2_with fail
        refine hK.out _ _ (HK.out _ ((H9.out.2.block bx bl2).trans HBX2.out)) (fun hHeld23 => ?_)
        clear hK K
        try simp only [Act.put, List.setIfInBounds_toArray, List.set_cons_zero, List.set_cons_succ]
        refine wpAnyH_done (by kernel_rfl) ?_ _
        go_wp2_with fail
        go_meet
        exact H9
    · skip
      go_simp
      go_wp2_with fail
      refine hK.out _ _ (HK.out _ BM.out) (fun hHeld24 => ?_)
      clear hK K
      try simp only [Act.put, List.setIfInBounds_toArray, List.set_cons_zero, List.set_cons_succ]
      refine wpAnyH_ready (rs := [1]) (by kernel_rfl) (by simp) ?_
      refine AllReadyH.cons (o := { dst := some 20, op := Go.Op.buildSlice 23 0 #[], type := 23, pos := "law.go:63", after := #[], guard := none }) rfl (fun K hK => ?_) AllReadyH.nil
      go_simp
      go_wp2_with fail
      refine hK.out _ _ (HK.out _ BME.out) (fun hHeld25 => ?_)
      clear hK K
      try simp only [Act.put, List.setIfInBounds_toArray, List.set_cons_zero, List.set_cons_succ]
      refine wpAnyH_ready (rs := [3]) (by kernel_rfl) (by simp) ?_
      refine AllReadyH.cons (o := { dst := some 22, op := Go.Op.call { callee := Go.Callee.builtin Go.Builtin.append, args := #[Go.Operand.tmp 20, Go.Operand.tmp 21], argTypes := #[23, 23] }, type := 23, pos := "law.go:63", after := #[{ on := 1, ground := Go.Ground.data }, { on := 2, ground := Go.Ground.data }], guard := none }) rfl (fun K hK => ?_) AllReadyH.nil
      refine step_append_eq (by rfl) _ _ 23 (by rfl) (by rfl) (by rfl) r3 ?_
      refine hK.out _ _ (HK.out _ ((KU.out.2.block bx bl2).trans HBX2.out)) (fun hHeld26 => ?_)
      clear hK K
      try simp only [Act.put, List.setIfInBounds_toArray, List.set_cons_zero, List.set_cons_succ]
      refine wpAnyH_ready (rs := [6]) (by kernel_rfl) (by simp) ?_
      refine AllReadyH.cons (o := { dst := some 25, op := Go.Op.call { callee := Go.Callee.builtin Go.Builtin.append, args := #[Go.Operand.tmp 22, Go.Operand.tmp 24], argTypes := #[23, 23] }, type := 23, pos := "law.go:63", after := #[{ on := 3, ground := Go.Ground.data }, { on := 5, ground := Go.Ground.data }, { on := 3, ground := Go.Ground.chain }], guard := none }) rfl (fun K hK => ?_) AllReadyH.nil
      refine step_append_eq (by rfl) _ _ 23 (by rfl) (by rfl) (by rfl) s3 ?_
      refine hK.out _ _ (HK.out _ ((Y.out.2.2.block bx bl2).trans HBX2.out)) (fun hHeld27 => ?_)
      clear hK K
      try simp only [Act.put, List.setIfInBounds_toArray, List.set_cons_zero, List.set_cons_succ]
      refine wpAnyH_ready (rs := [7]) (by kernel_rfl) (by simp) ?_
      refine AllReadyH.cons (o := { dst := some 26, op := Go.Op.call { callee := Go.Callee.value (Go.Operand.func 14), args := #[Go.Operand.tmp 19, Go.Operand.tmp 25], argTypes := #[22, 23] }, type := 35, pos := "law.go:63", after := #[{ on := 0, ground := Go.Ground.data }, { on := 6, ground := Go.Ground.data }, { on := 6, ground := Go.Ground.chain }], guard := none }) rfl (fun K hK => ?_) AllReadyH.nil
      go_simp
      refine S3.out.mono ?_
      rintro e w9 ⟨v9, v10, rfl, SS, hb9⟩
      have H9 := hide (And.intro SS (Y.out.2.2.trans (hb9.mono (Y.out.2.2).size)))
      clear SS hb9
      go_wp2_with fail
      refine hK.out _ _ (HK.out _ ((H9.out.2.block bx bl2).trans HBX2.out)) (fun hHeld28 => ?_)
      clear hK K
      try simp only [Act.put, List.setIfInBounds_toArray, List.set_cons_zero, List.set_cons_succ]
      refine wpAnyH_take (i := 8) (oi := { dst := some 18, op := Go.Op.move (Go.Operand.tmp 26), type := 35, pos := "law.go:63", after := #[{ on := 7, ground := Go.Ground.data }], guard := none }) (v := ?v29) rfl (by kernel_rfl) (by kernel_rfl) (by kernel_rfl) (fun _ _ _ h => h) (Or.inl ⟨by rfl, ?hy29⟩) (by assumption) ?_
      case hy29 => (intro W hSw; (try dsimp only at hSw); go_simp; try with_reducible rfl)
      try simp only [Act.put, List.setIfInBounds_toArray, List.set_cons_zero, List.set_cons_succ]
      refine wpAnyH_take (i := 9) (oi := { dst := some 27, op := Go.Op.extract (Go.Operand.tmp 18) 0, type := 34, pos := "law.go:63", after := #[{ on := 8, ground := Go.Ground.data }], guard := none }) (v := ?v30) rfl (by kernel_rfl) (by kernel_rfl) (by kernel_rfl) (fun _ _ _ h => h) (Or.inl ⟨by rfl, ?hy30⟩) (by assumption) ?_
      case hy30 => (intro W hSw; (try dsimp only at hSw); go_simp; try with_reducible rfl)
      try simp only [Act.put, List.setIfInBounds_toArray, List.set_cons_zero, List.set_cons_succ]
      refine wpAnyH_take (i := 10) (oi := { dst := some 28, op := Go.Op.extract (Go.Operand.tmp 18) 1, type := 25, pos := "law.go:63", after := #[{ on := 8, ground := Go.Ground.data }, { on := 11, ground := Go.Ground.gcOnly Go.Departure.lateStores }], guard := none }) (v := ?v31) rfl (by kernel_rfl) (by kernel_rfl) (by kernel_rfl) (fun _ _ _ h => h) (Or.inl ⟨by rfl, ?hy31⟩) (by assumption) ?_
      case hy31 => (intro W hSw; (try dsimp only at hSw); go_simp; try with_reducible rfl)
      try simp only [Act.put, List.setIfInBounds_toArray, List.set_cons_zero, List.set_cons_succ]
      refine wpAnyH_ready (rs := [11]) (by kernel_rfl) (by simp) ?_
      refine AllReadyH.cons (o := { dst := some 9, op := Go.Op.assign (Go.Operand.tmp 27), type := 34, pos := "law.go:63", after := #[{ on := 9, ground := Go.Ground.data }, { on := 7, ground := Go.Ground.chain }, { on := 0, ground := Go.Ground.phase }, { on := 1, ground := Go.Ground.phase }, { on := 2, ground := Go.Ground.phase }, { on := 3, ground := Go.Ground.phase }, { on := 4, ground := Go.Ground.phase }, { on := 5, ground := Go.Ground.phase }, { on := 6, ground := Go.Ground.phase }, { on := 7, ground := Go.Ground.phase }, { on := 8, ground := Go.Ground.phase }, { on := 9, ground := Go.Ground.phase }, { on := 10, ground := Go.Ground.textOnly Go.Departure.lateStores }], guard := none }) rfl (fun K hK => ?_) AllReadyH.nil
      go_simp
      go_wp2_with fail
      refine hK.out _ _ (HK.out _ ((H9.out.2.block bx bl2).trans HBX2.out)) (fun hHeld32 => ?_)
      clear hK K
      try simp only [Act.put, List.setIfInBounds_toArray, List.set_cons_zero, List.set_cons_succ]
      refine wpAnyH_ready (rs := [12]) (by kernel_rfl) (by simp) ?_
      refine AllReadyH.cons (o := { dst := some 10, op := Go.Op.assign (Go.Operand.tmp 28), type := 25, pos := "law.go:63", after := #[{ on := 10, ground := Go.Ground.data }, { on := 11, ground := Go.Ground.chain }, { on := 0, ground := Go.Ground.phase }, { on := 1, ground := Go.Ground.phase }, { on := 2, ground := Go.Ground.phase }, { on := 3, ground := Go.Ground.phase }, { on := 4, ground := Go.Ground.phase }, { on := 5, ground := Go.Ground.phase }, { on := 6, ground := Go.Ground.phase }, { on := 7, ground := Go.Ground.phase }, { on := 8, ground := Go.Ground.phase }, { on := 9, ground := Go.Ground.phase }, { on := 10, ground := Go.Ground.phase }, { on := 11, ground := Go.Ground.phase }], guard := none }) rfl (fun K hK => ?_) AllReadyH.nil
      go_simp
      go_wp2_with fail
      refine hK.out _ _ (HK.out _ ((H9.out.2.block bx bl2).trans HBX2.out)) (fun hHeld33 => ?_)
      clear hK K
      try simp only [Act.put, List.setIfInBounds_toArray, List.set_cons_zero, List.set_cons_succ]
      refine wpAnyH_done (by kernel_rfl) ?_ _
      go_wp2_with fail
      go_meet
      exact H9
  case rest =>
    have ha := fun W : World => awake_any W
    obtain ⟨SB, hbc⟩ := hcut.out
    obtain ⟨ab, nb, cb, e2, hvb, heb⟩ := SB.shape
    subst hvb heb
    have HSB := hide SB
    have HBC := hide hbc
    have HBW := hide (HBB.out.trans (hbc.mono HBB.out.size))
    clear SB hcut S1 S2 S3 r1 r2 r3 s1 s2 s3 hU1 hbc bl2
    by_cases he1 : e1 = 0
    · subst he1
      by_cases he2 : e2 = 0
      · subst he2
        rcases HSA.out with ⟨hx, _, hy⟩ | ⟨G1, _, aoA, capA, EA, hA, bA, escA⟩
        · exfalso; simp at hy; exact hx hy.symm
        rcases HSB.out with ⟨hx, _, hy⟩ | ⟨G2, _, aoB, capB, EB, hB, bB, escB⟩
        · exfalso; simp at hy; exact hx hy.symm
        rw [hn] at hA hB bA bB escA escB
        obtain ⟨q1, q2, q3⟩ := Value.slice.inj hA
        have q2' := q2.symm
        subst q1 q2' q3
        obtain ⟨p1, p2, p3⟩ := Value.slice.inj hB
        have p2' := p2.symm
        subst p1 p2' p3
        have HA := hide bA
        have HBo := hide bB
        have HEs := hide (And.intro escA escB)
        clear bA bB escA escB HSA HSB G1 G2
        by_cases h100 : 100 < n
        · have g1 : decide (100 < (n : Int)) = true := by simp; omega
          go_wp2_with fail
          refine (ha _).mono ?_
          rintro e w4 ⟨rfl, hb4⟩
          go_wp2_with (go_at_call 10; refine (ha _).mono ?_; rintro e w5 ⟨rfl, hb5⟩)
          go_ret
          exact ⟨rfl, HBW.out.trans ((hb4.trans (hb5.mono hb4.size)).mono HBW.out.size)⟩
        · have g1 : decide (100 < (n : Int)) = false := by simp; omega
          have bn : (n : Int) ≤ 100 := by omega
          go_wp2_with fail
          refine (ha _).mono ?_
          rintro e w4 ⟨rfl, hb4⟩
          have HB4 := hide hb4
          have HA4 := hide ((HA.out.below HBC.out).below hb4)
          have HB4o := hide (HBo.out.below hb4)
          clear hb4 HA HBo
          go_wp2
          go_loopg [11] n (fun K i wr => ∃ j : Nat, i = .int .i64 j ∧ j ≤ n ∧ n - j ≤ K ∧ w4 = wr)
          case atStart => exact ⟨0, rfl, Nat.zero_le _, Nat.le_refl _, rfl⟩
          case round =>
            obtain ⟨j, rfl, hj, hkk, rfl⟩ := hrel
            obtain ⟨G1, rfl⟩ : ∃ G1, G1 = gk := ⟨gk, rfl⟩
            by_cases hlt : j < n
            · obtain ⟨ga, oa, haoa, hga, ca0⟩ := bool_at HA4.out (j := j) (x := EA j) (by rw [List.getElem?_map, List.getElem?_range hlt]; rfl)
              subst haoa
              obtain ⟨gb, ob, haob, hgb, cb0⟩ := bool_at HB4o.out (j := j) (x := EB j) (by rw [List.getElem?_map, List.getElem?_range hlt]; rfl)
              subst haob
              have bj : (j : Int) < (n : Int) := by omega
              cases hea : EA j with
              | false =>
                rw [hea] at ca0
                clear hea
                go_wp2
                go_roundg (n - (j + 1))
                case measure => omega
                case rel => exact ⟨j + 1, by go_num, by omega, Nat.le_refl _, rfl⟩
              | true =>
                have heb : EB j = true := (HEs.out.2 j hlt).2 (((HEs.out.1 j hlt).1 hea).mono fun x hx => List.mem_append.2 (.inl hx))
                rw [hea] at ca0
                rw [heb] at cb0
                clear hea heb
                go_wp2
                go_roundg (n - (j + 1))
                case measure => omega
                case rel => exact ⟨j + 1, by go_num, by omega, Nat.le_refl _, rfl⟩
            · obtain rfl : n = j := by omega
              go_wp2
              go_ret
              exact ⟨rfl, HBW.out.trans (HB4.out.mono HBW.out.size)⟩
      · have g2 : (e2 != 0) = true := by simpa using he2
        clear HSA HSB
        go_wp2_with fail
        refine (ha _).mono ?_
        rintro e w4 ⟨rfl, hb4⟩
        go_wp2_with (go_at_call 10; refine (ha _).mono ?_; rintro e w5 ⟨rfl, hb5⟩)
        go_ret
        exact ⟨rfl, HBW.out.trans ((hb4.trans (hb5.mono hb4.size)).mono HBW.out.size)⟩
    · have g1 : (e1 != 0) = true := by simpa using he1
      clear HSA HSB
      go_wp2_with fail
      refine (ha _).mono ?_
      rintro e w4 ⟨rfl, hb4⟩
      go_wp2_with (go_at_call 10; refine (ha _).mono ?_; rintro e w5 ⟨rfl, hb5⟩)
      go_ret
      exact ⟨rfl, HBW.out.trans ((hb4.trans (hb5.mono hb4.size)).mono HBW.out.size)⟩
end Go.Proofs.Ytlbildodjnjniaa
