/- The closures of needs: one more is put behind a block's list. -/
import Derived.Test.YtaejhppfcmeopaaLvJ
namespace Go.Proofs.Ytaejhppfcmeopaa
open Go.RowKit
section
variable {w : World} {B N : Nat} {lb lo : Nat → Nat} {f : Nat → Value} {L : Nat → List Int}
set_option maxHeartbeats 1000000 in
theorem put1_any (F : Fm w B N lb lo f L) {t b A n ib vb : Nat} {x : Int} (ht : t < N) (hA : lb t = A) (hlo : lo t = b) (hbn : b < n) (hi : w.heap[ib]? = some (.cells #[.slice (some ⟨A, 0, none⟩) n n] 23 (0, 0))) (hv : w.heap[vb]? = some (.cells #[.int .i64 x] 3 (0, 0))) (hvo : ∀ s, s < N → (f s).ownBlock ≠ some vb) (hl : (L t).length ≤ 100000) (hn : n ≤ 1000) :
    Calls Try.prog 38 #[.int .i64 b, pp ib, pp vb] w fun e w' => (∃ v, e = .returned v) ∧ ∃ f', Fm w' B N lb lo f' (upf L t (L t ++ [x])) ∧ Fr N lb w f w' f' := by
  have hB1 := (below_drewN (Below.refl w.heap.size w) 1).alloc (Nat.le_refl _) (.cells #[.int .i64 x] 3)
  have F1 := F.under hB1
  obtain ⟨g, cap, w3, hr, hgrow, c3, z3, l3, F3, R3⟩ := F1.push ht (heap_new _ _ rfl) hl
  obtain ⟨c0, z0, l0⟩ := F.lcell ht
  have ci := cell_of (o := 0) hi rfl
  have cv := cell_of (o := 0) hv rfl
  have li := lt_of_block hi
  have lv := lt_of_block hv
  have hB0 : Fr N lb w f ((w.drewN 1).alloc (.cells #[.int .i64 x] 3)) f := (Fr.refl w f).below hB1
  have HF := hide (And.intro F3 (hB0.trans R3))
  have hkb : ∀ j, j < w.heap.size → (f t).ownBlock ≠ some j → w3.heap[j]? = w.heap[j]? := fun j hj hne => (hgrow.block j (Nat.lt_of_lt_of_le hj hB1.size) (fun e => hne e.symm)).trans (hB1.block j hj)
  have hib : (f t).ownBlock ≠ some ib := F.ne_own hi (by decide) t ht
  have hvb : (f t).ownBlock ≠ some vb := hvo t ht
  have hAib : lb t ≠ ib := fun e => F.ne_lb hi (by decide) t ht e.symm
  have hAvb : lb t ≠ vb := fun e => F.ne_lb hv (by decide) t ht e.symm
  rw [hA] at hAib hAvb l0 l3
  rw [hA, hlo] at c0 z0 c3 z3 HF
  have HK : Hid (∀ W : World, W.heap[ib]? = w.heap[ib]? → W.heap[vb]? = w.heap[vb]? → W.cell? ⟨ib, 0, none⟩ = some (.slice (some ⟨A, 0, none⟩) n n) ∧ W.cell? ⟨vb, 0, none⟩ = some (.int .i64 x)) := hide (fun W h1 h2 => ⟨cell_of (h1.trans hi) rfl, cell_of (h2.trans hv) rfl⟩)
  have H3 := hide (And.intro (hkb ib li hib) (hkb vb lv hvb))
  have H1 := hide (And.intro (hB1.block ib li) (hB1.block vb lv))
  have HZ := hide (And.intro z3 c3)
  have hbn2 : (b : Int) < (n : Int) := by omega
  have hn2 : (n : Int) ≤ 1000 := by omega
  clear hB0 hB1 F1 F3 R3 hkb hib hvb hgrow z0 hi hv hvo hl F ht hlo hA
  go_enter Try.func38, Try.ntmps38
  go_wp2_with fail
  refine wp_region_held_drew (S := (fun W : World => W.cell? ⟨ib, 0, none⟩ = some (.slice (some ⟨A, 0, none⟩) n n) ∧ W.cell? ⟨vb, 0, none⟩ = some (.int .i64 x))) (by kernel_rfl) (HK.out _ rfl rfl) (fun hHeld1 => ?_)
  refine wpAnyH_take (i := 0) (oi := { dst := some 4, op := Go.Op.load 23 (Go.Operand.tmp 1), type := 23, pos := "needs.go:27", after := #[], guard := none }) (v := ?v2) rfl (by kernel_rfl) (by kernel_rfl) (by kernel_rfl) (fun _ _ _ h => h) (Or.inl ⟨by rfl, ?hy2⟩) (by assumption) ?_
  case hy2 => (intro W hSw; (try dsimp only at hSw); go_simp; try with_reducible rfl)
  try simp only [Act.put, List.setIfInBounds_toArray, List.set_cons_zero, List.set_cons_succ]
  refine wpAnyH_take (i := 1) (oi := { dst := some 5, op := Go.Op.move (Go.Operand.tmp 0), type := 3, pos := "needs.go:27", after := #[], guard := none }) (v := ?v3) rfl (by kernel_rfl) (by kernel_rfl) (by kernel_rfl) (fun _ _ _ h => h) (Or.inl ⟨by rfl, ?hy3⟩) (by assumption) ?_
  case hy3 => (intro W hSw; (try dsimp only at hSw); go_simp; try with_reducible rfl)
  try simp only [Act.put, List.setIfInBounds_toArray, List.set_cons_zero, List.set_cons_succ]
  refine wpAnyH_take (i := 2) (oi := { dst := some 6, op := Go.Op.load 23 (Go.Operand.tmp 1), type := 23, pos := "needs.go:27", after := #[], guard := none }) (v := ?v4) rfl (by kernel_rfl) (by kernel_rfl) (by kernel_rfl) (fun _ _ _ h => h) (Or.inl ⟨by rfl, ?hy4⟩) (by assumption) ?_
  case hy4 => (intro W hSw; (try dsimp only at hSw); go_simp; try with_reducible rfl)
  try simp only [Act.put, List.setIfInBounds_toArray, List.set_cons_zero, List.set_cons_succ]
  refine wpAnyH_take (i := 3) (oi := { dst := some 7, op := Go.Op.move (Go.Operand.tmp 0), type := 3, pos := "needs.go:27", after := #[], guard := none }) (v := ?v5) rfl (by kernel_rfl) (by kernel_rfl) (by kernel_rfl) (fun _ _ _ h => h) (Or.inl ⟨by rfl, ?hy5⟩) (by assumption) ?_
  case hy5 => (intro W hSw; (try dsimp only at hSw); go_simp; try with_reducible rfl)
  try simp only [Act.put, List.setIfInBounds_toArray, List.set_cons_zero, List.set_cons_succ]
  refine wpAnyH_take (i := 4) (oi := { dst := some 8, op := Go.Op.indexAddr 23 (Go.Operand.tmp 6) (Go.Operand.tmp 7), type := 0, pos := "needs.go:27", after := #[{ on := 2, ground := Go.Ground.data }, { on := 3, ground := Go.Ground.data }], guard := none }) (v := ?v6) rfl (by kernel_rfl) (by kernel_rfl) (by kernel_rfl) (fun _ _ _ h => h) (Or.inl ⟨by rfl, ?hy6⟩) (by assumption) ?_
  case hy6 => (intro W hSw; (try dsimp only at hSw); go_simp; try with_reducible rfl)
  try simp only [Act.put, List.setIfInBounds_toArray, List.set_cons_zero, List.set_cons_succ]
  refine wpAnyH_take (i := 6) (oi := { dst := some 10, op := Go.Op.load 3 (Go.Operand.tmp 2), type := 3, pos := "needs.go:27", after := #[], guard := none }) (v := ?v7) rfl (by kernel_rfl) (by kernel_rfl) (by kernel_rfl) (fun _ _ _ h => h) (Or.inl ⟨by rfl, ?hy7⟩) (by assumption) ?_
  case hy7 => (intro W hSw; (try dsimp only at hSw); go_simp; try with_reducible rfl)
  try simp only [Act.put, List.setIfInBounds_toArray, List.set_cons_zero, List.set_cons_succ]
  refine wpAnyH_ready (rs := [5, 7]) (by kernel_rfl) (by simp) ?_
  refine AllReadyH.cons (o := { dst := some 9, op := Go.Op.load 34 (Go.Operand.tmp 8), type := 34, pos := "needs.go:27", after := #[{ on := 4, ground := Go.Ground.data }], guard := none }) rfl (fun K hK => ?_) (AllReadyH.cons (o := { dst := some 11, op := Go.Op.buildSlice 34 1 #[(0, Go.Operand.tmp 10)], type := 34, pos := "needs.go:27", after := #[{ on := 6, ground := Go.Ground.data }], guard := none }) rfl (fun K hK => ?_) AllReadyH.nil)
  · skip
    go_simp
    go_wp2_with fail
    refine hK.out _ _ (HK.out _ rfl rfl) (fun hHeld8 => ?_)
    clear hK K
    try simp only [Act.put, List.setIfInBounds_toArray, List.set_cons_zero, List.set_cons_succ]
    refine wpAnyH_ready (rs := [7]) (by kernel_rfl) (by simp) ?_
    refine AllReadyH.cons (o := { dst := some 11, op := Go.Op.buildSlice 34 1 #[(0, Go.Operand.tmp 10)], type := 34, pos := "needs.go:27", after := #[{ on := 6, ground := Go.Ground.data }], guard := none }) rfl (fun K hK => ?_) AllReadyH.nil
    go_simp
    go_wp2_with fail
    refine hK.out _ _ (HK.out _ H1.out.1 H1.out.2) (fun hHeld9 => ?_)
    clear hK K
    try simp only [Act.put, List.setIfInBounds_toArray, List.set_cons_zero, List.set_cons_succ]
    refine wpAnyH_ready (rs := [8]) (by kernel_rfl) (by simp) ?_
    refine AllReadyH.cons (o := { dst := some 12, op := Go.Op.call { callee := Go.Callee.builtin Go.Builtin.append, args := #[Go.Operand.tmp 9, Go.Operand.tmp 11], argTypes := #[34, 34] }, type := 34, pos := "needs.go:27", after := #[{ on := 5, ground := Go.Ground.data }, { on := 7, ground := Go.Ground.data }], guard := none }) rfl (fun K hK => ?_) AllReadyH.nil
    refine step_append_eq (by rfl) _ _ 34 (by rfl) (by rfl) (by rfl) hr ?_
    refine hK.out _ _ (HK.out _ H3.out.1 H3.out.2) (fun hHeld10 => ?_)
    clear hK K
    try simp only [Act.put, List.setIfInBounds_toArray, List.set_cons_zero, List.set_cons_succ]
    refine wpAnyH_take (i := 9) (oi := { dst := some 13, op := Go.Op.indexAddr 23 (Go.Operand.tmp 4) (Go.Operand.tmp 5), type := 0, pos := "needs.go:27", after := #[{ on := 0, ground := Go.Ground.data }, { on := 1, ground := Go.Ground.data }, { on := 0, ground := Go.Ground.phase }, { on := 1, ground := Go.Ground.phase }, { on := 2, ground := Go.Ground.phase }, { on := 3, ground := Go.Ground.phase }, { on := 4, ground := Go.Ground.phase }, { on := 5, ground := Go.Ground.phase }, { on := 6, ground := Go.Ground.phase }, { on := 7, ground := Go.Ground.phase }, { on := 8, ground := Go.Ground.phase }], guard := none }) (v := ?v11) rfl (by kernel_rfl) (by kernel_rfl) (by kernel_rfl) (fun _ _ _ h => h) (Or.inl ⟨by rfl, ?hy11⟩) (by assumption) ?_
    case hy11 => (intro W hSw; (try dsimp only at hSw); go_simp; try with_reducible rfl)
    try simp only [Act.put, List.setIfInBounds_toArray, List.set_cons_zero, List.set_cons_succ]
    obtain ⟨z3, c3⟩ := HZ.out
    refine wpAnyH_ready (rs := [10]) (by kernel_rfl) (by simp) ?_
    refine AllReadyH.cons (o := { dst := none, op := Go.Op.store 34 (Go.Operand.tmp 13) (Go.Operand.tmp 12), type := 0, pos := "needs.go:27", after := #[{ on := 9, ground := Go.Ground.data }, { on := 8, ground := Go.Ground.data }, { on := 8, ground := Go.Ground.chain }, { on := 0, ground := Go.Ground.phase }, { on := 1, ground := Go.Ground.phase }, { on := 2, ground := Go.Ground.phase }, { on := 3, ground := Go.Ground.phase }, { on := 4, ground := Go.Ground.phase }, { on := 5, ground := Go.Ground.phase }, { on := 6, ground := Go.Ground.phase }, { on := 7, ground := Go.Ground.phase }, { on := 8, ground := Go.Ground.phase }], guard := none }) rfl (fun K hK => ?_) AllReadyH.nil
    go_simp
    go_wp2_with fail
    refine hK.out _ _ (HK.out _ ((Below.heap_setCell _ _ _ _ (fun e => hAib e.symm)).trans H3.out.1) ((Below.heap_setCell _ _ _ _ (fun e => hAvb e.symm)).trans H3.out.2)) (fun hHeld12 => ?_)
    clear hK K
    try simp only [Act.put, List.setIfInBounds_toArray, List.set_cons_zero, List.set_cons_succ]
    refine wpAnyH_done (by kernel_rfl) ?_ _
    go_wp2_with fail
    go_returns
    exact ⟨⟨_, rfl⟩, _, HF.out⟩
  · skip
    go_simp
    go_wp2_with fail
    refine hK.out _ _ (HK.out _ H1.out.1 H1.out.2) (fun hHeld13 => ?_)
    clear hK K
    try simp only [Act.put, List.setIfInBounds_toArray, List.set_cons_zero, List.set_cons_succ]
    refine wpAnyH_ready (rs := [5]) (by kernel_rfl) (by simp) ?_
    refine AllReadyH.cons (o := { dst := some 9, op := Go.Op.load 34 (Go.Operand.tmp 8), type := 34, pos := "needs.go:27", after := #[{ on := 4, ground := Go.Ground.data }], guard := none }) rfl (fun K hK => ?_) AllReadyH.nil
    go_simp
    go_wp2_with fail
    refine hK.out _ _ (HK.out _ H1.out.1 H1.out.2) (fun hHeld14 => ?_)
    clear hK K
    try simp only [Act.put, List.setIfInBounds_toArray, List.set_cons_zero, List.set_cons_succ]
    refine wpAnyH_ready (rs := [8]) (by kernel_rfl) (by simp) ?_
    refine AllReadyH.cons (o := { dst := some 12, op := Go.Op.call { callee := Go.Callee.builtin Go.Builtin.append, args := #[Go.Operand.tmp 9, Go.Operand.tmp 11], argTypes := #[34, 34] }, type := 34, pos := "needs.go:27", after := #[{ on := 5, ground := Go.Ground.data }, { on := 7, ground := Go.Ground.data }], guard := none }) rfl (fun K hK => ?_) AllReadyH.nil
    refine step_append_eq (by rfl) _ _ 34 (by rfl) (by rfl) (by rfl) hr ?_
    refine hK.out _ _ (HK.out _ H3.out.1 H3.out.2) (fun hHeld15 => ?_)
    clear hK K
    try simp only [Act.put, List.setIfInBounds_toArray, List.set_cons_zero, List.set_cons_succ]
    refine wpAnyH_take (i := 9) (oi := { dst := some 13, op := Go.Op.indexAddr 23 (Go.Operand.tmp 4) (Go.Operand.tmp 5), type := 0, pos := "needs.go:27", after := #[{ on := 0, ground := Go.Ground.data }, { on := 1, ground := Go.Ground.data }, { on := 0, ground := Go.Ground.phase }, { on := 1, ground := Go.Ground.phase }, { on := 2, ground := Go.Ground.phase }, { on := 3, ground := Go.Ground.phase }, { on := 4, ground := Go.Ground.phase }, { on := 5, ground := Go.Ground.phase }, { on := 6, ground := Go.Ground.phase }, { on := 7, ground := Go.Ground.phase }, { on := 8, ground := Go.Ground.phase }], guard := none }) (v := ?v16) rfl (by kernel_rfl) (by kernel_rfl) (by kernel_rfl) (fun _ _ _ h => h) (Or.inl ⟨by rfl, ?hy16⟩) (by assumption) ?_
    case hy16 => (intro W hSw; (try dsimp only at hSw); go_simp; try with_reducible rfl)
    try simp only [Act.put, List.setIfInBounds_toArray, List.set_cons_zero, List.set_cons_succ]
    obtain ⟨z3, c3⟩ := HZ.out
    refine wpAnyH_ready (rs := [10]) (by kernel_rfl) (by simp) ?_
    refine AllReadyH.cons (o := { dst := none, op := Go.Op.store 34 (Go.Operand.tmp 13) (Go.Operand.tmp 12), type := 0, pos := "needs.go:27", after := #[{ on := 9, ground := Go.Ground.data }, { on := 8, ground := Go.Ground.data }, { on := 8, ground := Go.Ground.chain }, { on := 0, ground := Go.Ground.phase }, { on := 1, ground := Go.Ground.phase }, { on := 2, ground := Go.Ground.phase }, { on := 3, ground := Go.Ground.phase }, { on := 4, ground := Go.Ground.phase }, { on := 5, ground := Go.Ground.phase }, { on := 6, ground := Go.Ground.phase }, { on := 7, ground := Go.Ground.phase }, { on := 8, ground := Go.Ground.phase }], guard := none }) rfl (fun K hK => ?_) AllReadyH.nil
    go_simp
    go_wp2_with fail
    refine hK.out _ _ (HK.out _ ((Below.heap_setCell _ _ _ _ (fun e => hAib e.symm)).trans H3.out.1) ((Below.heap_setCell _ _ _ _ (fun e => hAvb e.symm)).trans H3.out.2)) (fun hHeld17 => ?_)
    clear hK K
    try simp only [Act.put, List.setIfInBounds_toArray, List.set_cons_zero, List.set_cons_succ]
    refine wpAnyH_done (by kernel_rfl) ?_ _
    go_wp2_with fail
    go_returns
    exact ⟨⟨_, rfl⟩, _, HF.out⟩
end
section
variable {w : World} {B N : Nat} {lb lo : Nat → Nat} {f : Nat → Value} {L : Nat → List Int}
set_option maxHeartbeats 1000000 in
theorem put2_any (F : Fm w B N lb lo f L) {t b A n ib vb : Nat} {x : Int} (ht : t < N) (hA : lb t = A) (hlo : lo t = b) (hbn : b < n) (hi : w.heap[ib]? = some (.cells #[.slice (some ⟨A, 0, none⟩) n n] 23 (0, 0))) (hv : w.heap[vb]? = some (.cells #[.int .i64 x] 3 (0, 0))) (hvo : ∀ s, s < N → (f s).ownBlock ≠ some vb) (hl : (L t).length ≤ 100000) (hn : n ≤ 1000) :
    Calls Try.prog 39 #[.int .i64 b, pp ib, pp vb] w fun e w' => (∃ v, e = .returned v) ∧ ∃ f', Fm w' B N lb lo f' (upf L t (L t ++ [x])) ∧ Fr N lb w f w' f' := by
  have hB1 := (below_drewN (Below.refl w.heap.size w) 1).alloc (Nat.le_refl _) (.cells #[.int .i64 x] 3)
  have F1 := F.under hB1
  obtain ⟨g, cap, w3, hr, hgrow, c3, z3, l3, F3, R3⟩ := F1.push ht (heap_new _ _ rfl) hl
  obtain ⟨c0, z0, l0⟩ := F.lcell ht
  have ci := cell_of (o := 0) hi rfl
  have cv := cell_of (o := 0) hv rfl
  have li := lt_of_block hi
  have lv := lt_of_block hv
  have hB0 : Fr N lb w f ((w.drewN 1).alloc (.cells #[.int .i64 x] 3)) f := (Fr.refl w f).below hB1
  have HF := hide (And.intro F3 (hB0.trans R3))
  have hkb : ∀ j, j < w.heap.size → (f t).ownBlock ≠ some j → w3.heap[j]? = w.heap[j]? := fun j hj hne => (hgrow.block j (Nat.lt_of_lt_of_le hj hB1.size) (fun e => hne e.symm)).trans (hB1.block j hj)
  have hib : (f t).ownBlock ≠ some ib := F.ne_own hi (by decide) t ht
  have hvb : (f t).ownBlock ≠ some vb := hvo t ht
  have hAib : lb t ≠ ib := fun e => F.ne_lb hi (by decide) t ht e.symm
  have hAvb : lb t ≠ vb := fun e => F.ne_lb hv (by decide) t ht e.symm
  rw [hA] at hAib hAvb l0 l3
  rw [hA, hlo] at c0 z0 c3 z3 HF
  have HK : Hid (∀ W : World, W.heap[ib]? = w.heap[ib]? → W.heap[vb]? = w.heap[vb]? → W.cell? ⟨ib, 0, none⟩ = some (.slice (some ⟨A, 0, none⟩) n n) ∧ W.cell? ⟨vb, 0, none⟩ = some (.int .i64 x)) := hide (fun W h1 h2 => ⟨cell_of (h1.trans hi) rfl, cell_of (h2.trans hv) rfl⟩)
  have H3 := hide (And.intro (hkb ib li hib) (hkb vb lv hvb))
  have H1 := hide (And.intro (hB1.block ib li) (hB1.block vb lv))
  have HZ := hide (And.intro z3 c3)
  have hbn2 : (b : Int) < (n : Int) := by omega
  have hn2 : (n : Int) ≤ 1000 := by omega
  clear hB0 hB1 F1 F3 R3 hkb hib hvb hgrow z0 hi hv hvo hl F ht hlo hA
  go_enter Try.func39, Try.ntmps39
  go_wp2_with fail
  refine wp_region_held_drew (S := (fun W : World => W.cell? ⟨ib, 0, none⟩ = some (.slice (some ⟨A, 0, none⟩) n n) ∧ W.cell? ⟨vb, 0, none⟩ = some (.int .i64 x))) (by kernel_rfl) (HK.out _ rfl rfl) (fun hHeld18 => ?_)
  refine wpAnyH_take (i := 0) (oi := { dst := some 4, op := Go.Op.load 23 (Go.Operand.tmp 1), type := 23, pos := "needs.go:28", after := #[], guard := none }) (v := ?v19) rfl (by kernel_rfl) (by kernel_rfl) (by kernel_rfl) (fun _ _ _ h => h) (Or.inl ⟨by rfl, ?hy19⟩) (by assumption) ?_
  case hy19 => (intro W hSw; (try dsimp only at hSw); go_simp; try with_reducible rfl)
  try simp only [Act.put, List.setIfInBounds_toArray, List.set_cons_zero, List.set_cons_succ]
  refine wpAnyH_take (i := 1) (oi := { dst := some 5, op := Go.Op.move (Go.Operand.tmp 0), type := 3, pos := "needs.go:28", after := #[], guard := none }) (v := ?v20) rfl (by kernel_rfl) (by kernel_rfl) (by kernel_rfl) (fun _ _ _ h => h) (Or.inl ⟨by rfl, ?hy20⟩) (by assumption) ?_
  case hy20 => (intro W hSw; (try dsimp only at hSw); go_simp; try with_reducible rfl)
  try simp only [Act.put, List.setIfInBounds_toArray, List.set_cons_zero, List.set_cons_succ]
  refine wpAnyH_take (i := 2) (oi := { dst := some 6, op := Go.Op.load 23 (Go.Operand.tmp 1), type := 23, pos := "needs.go:28", after := #[], guard := none }) (v := ?v21) rfl (by kernel_rfl) (by kernel_rfl) (by kernel_rfl) (fun _ _ _ h => h) (Or.inl ⟨by rfl, ?hy21⟩) (by assumption) ?_
  case hy21 => (intro W hSw; (try dsimp only at hSw); go_simp; try with_reducible rfl)
  try simp only [Act.put, List.setIfInBounds_toArray, List.set_cons_zero, List.set_cons_succ]
  refine wpAnyH_take (i := 3) (oi := { dst := some 7, op := Go.Op.move (Go.Operand.tmp 0), type := 3, pos := "needs.go:28", after := #[], guard := none }) (v := ?v22) rfl (by kernel_rfl) (by kernel_rfl) (by kernel_rfl) (fun _ _ _ h => h) (Or.inl ⟨by rfl, ?hy22⟩) (by assumption) ?_
  case hy22 => (intro W hSw; (try dsimp only at hSw); go_simp; try with_reducible rfl)
  try simp only [Act.put, List.setIfInBounds_toArray, List.set_cons_zero, List.set_cons_succ]
  refine wpAnyH_take (i := 4) (oi := { dst := some 8, op := Go.Op.indexAddr 23 (Go.Operand.tmp 6) (Go.Operand.tmp 7), type := 0, pos := "needs.go:28", after := #[{ on := 2, ground := Go.Ground.data }, { on := 3, ground := Go.Ground.data }], guard := none }) (v := ?v23) rfl (by kernel_rfl) (by kernel_rfl) (by kernel_rfl) (fun _ _ _ h => h) (Or.inl ⟨by rfl, ?hy23⟩) (by assumption) ?_
  case hy23 => (intro W hSw; (try dsimp only at hSw); go_simp; try with_reducible rfl)
  try simp only [Act.put, List.setIfInBounds_toArray, List.set_cons_zero, List.set_cons_succ]
  refine wpAnyH_take (i := 6) (oi := { dst := some 10, op := Go.Op.load 3 (Go.Operand.tmp 2), type := 3, pos := "needs.go:28", after := #[], guard := none }) (v := ?v24) rfl (by kernel_rfl) (by kernel_rfl) (by kernel_rfl) (fun _ _ _ h => h) (Or.inl ⟨by rfl, ?hy24⟩) (by assumption) ?_
  case hy24 => (intro W hSw; (try dsimp only at hSw); go_simp; try with_reducible rfl)
  try simp only [Act.put, List.setIfInBounds_toArray, List.set_cons_zero, List.set_cons_succ]
  refine wpAnyH_ready (rs := [5, 7]) (by kernel_rfl) (by simp) ?_
  refine AllReadyH.cons (o := { dst := some 9, op := Go.Op.load 34 (Go.Operand.tmp 8), type := 34, pos := "needs.go:28", after := #[{ on := 4, ground := Go.Ground.data }], guard := none }) rfl (fun K hK => ?_) (AllReadyH.cons (o := { dst := some 11, op := Go.Op.buildSlice 34 1 #[(0, Go.Operand.tmp 10)], type := 34, pos := "needs.go:28", after := #[{ on := 6, ground := Go.Ground.data }], guard := none }) rfl (fun K hK => ?_) AllReadyH.nil)
  · skip
    go_simp
    go_wp2_with fail
    refine hK.out _ _ (HK.out _ rfl rfl) (fun hHeld25 => ?_)
    clear hK K
    try simp only [Act.put, List.setIfInBounds_toArray, List.set_cons_zero, List.set_cons_succ]
    refine wpAnyH_ready (rs := [7]) (by kernel_rfl) (by simp) ?_
    refine AllReadyH.cons (o := { dst := some 11, op := Go.Op.buildSlice 34 1 #[(0, Go.Operand.tmp 10)], type := 34, pos := "needs.go:28", after := #[{ on := 6, ground := Go.Ground.data }], guard := none }) rfl (fun K hK => ?_) AllReadyH.nil
    go_simp
    go_wp2_with fail
    refine hK.out _ _ (HK.out _ H1.out.1 H1.out.2) (fun hHeld26 => ?_)
    clear hK K
    try simp only [Act.put, List.setIfInBounds_toArray, List.set_cons_zero, List.set_cons_succ]
    refine wpAnyH_ready (rs := [8]) (by kernel_rfl) (by simp) ?_
    refine AllReadyH.cons (o := { dst := some 12, op := Go.Op.call { callee := Go.Callee.builtin Go.Builtin.append, args := #[Go.Operand.tmp 9, Go.Operand.tmp 11], argTypes := #[34, 34] }, type := 34, pos := "needs.go:28", after := #[{ on := 5, ground := Go.Ground.data }, { on := 7, ground := Go.Ground.data }], guard := none }) rfl (fun K hK => ?_) AllReadyH.nil
    refine step_append_eq (by rfl) _ _ 34 (by rfl) (by rfl) (by rfl) hr ?_
    refine hK.out _ _ (HK.out _ H3.out.1 H3.out.2) (fun hHeld27 => ?_)
    clear hK K
    try simp only [Act.put, List.setIfInBounds_toArray, List.set_cons_zero, List.set_cons_succ]
    refine wpAnyH_take (i := 9) (oi := { dst := some 13, op := Go.Op.indexAddr 23 (Go.Operand.tmp 4) (Go.Operand.tmp 5), type := 0, pos := "needs.go:28", after := #[{ on := 0, ground := Go.Ground.data }, { on := 1, ground := Go.Ground.data }, { on := 0, ground := Go.Ground.phase }, { on := 1, ground := Go.Ground.phase }, { on := 2, ground := Go.Ground.phase }, { on := 3, ground := Go.Ground.phase }, { on := 4, ground := Go.Ground.phase }, { on := 5, ground := Go.Ground.phase }, { on := 6, ground := Go.Ground.phase }, { on := 7, ground := Go.Ground.phase }, { on := 8, ground := Go.Ground.phase }], guard := none }) (v := ?v28) rfl (by kernel_rfl) (by kernel_rfl) (by kernel_rfl) (fun _ _ _ h => h) (Or.inl ⟨by rfl, ?hy28⟩) (by assumption) ?_
    case hy28 => (intro W hSw; (try dsimp only at hSw); go_simp; try with_reducible rfl)
    try simp only [Act.put, List.setIfInBounds_toArray, List.set_cons_zero, List.set_cons_succ]
    obtain ⟨z3, c3⟩ := HZ.out
    refine wpAnyH_ready (rs := [10]) (by kernel_rfl) (by simp) ?_
    refine AllReadyH.cons (o := { dst := none, op := Go.Op.store 34 (Go.Operand.tmp 13) (Go.Operand.tmp 12), type := 0, pos := "needs.go:28", after := #[{ on := 9, ground := Go.Ground.data }, { on := 8, ground := Go.Ground.data }, { on := 8, ground := Go.Ground.chain }, { on := 0, ground := Go.Ground.phase }, { on := 1, ground := Go.Ground.phase }, { on := 2, ground := Go.Ground.phase }, { on := 3, ground := Go.Ground.phase }, { on := 4, ground := Go.Ground.phase }, { on := 5, ground := Go.Ground.phase }, { on := 6, ground := Go.Ground.phase }, { on := 7, ground := Go.Ground.phase }, { on := 8, ground := Go.Ground.phase }], guard := none }) rfl (fun K hK => ?_) AllReadyH.nil
    go_simp
    go_wp2_with fail
    refine hK.out _ _ (HK.out _ ((Below.heap_setCell _ _ _ _ (fun e => hAib e.symm)).trans H3.out.1) ((Below.heap_setCell _ _ _ _ (fun e => hAvb e.symm)).trans H3.out.2)) (fun hHeld29 => ?_)
    clear hK K
    try simp only [Act.put, List.setIfInBounds_toArray, List.set_cons_zero, List.set_cons_succ]
    refine wpAnyH_done (by kernel_rfl) ?_ _
    go_wp2_with fail
    go_returns
    exact ⟨⟨_, rfl⟩, _, HF.out⟩
  · skip
    go_simp
    go_wp2_with fail
    refine hK.out _ _ (HK.out _ H1.out.1 H1.out.2) (fun hHeld30 => ?_)
    clear hK K
    try simp only [Act.put, List.setIfInBounds_toArray, List.set_cons_zero, List.set_cons_succ]
    refine wpAnyH_ready (rs := [5]) (by kernel_rfl) (by simp) ?_
    refine AllReadyH.cons (o := { dst := some 9, op := Go.Op.load 34 (Go.Operand.tmp 8), type := 34, pos := "needs.go:28", after := #[{ on := 4, ground := Go.Ground.data }], guard := none }) rfl (fun K hK => ?_) AllReadyH.nil
    go_simp
    go_wp2_with fail
    refine hK.out _ _ (HK.out _ H1.out.1 H1.out.2) (fun hHeld31 => ?_)
    clear hK K
    try simp only [Act.put, List.setIfInBounds_toArray, List.set_cons_zero, List.set_cons_succ]
    refine wpAnyH_ready (rs := [8]) (by kernel_rfl) (by simp) ?_
    refine AllReadyH.cons (o := { dst := some 12, op := Go.Op.call { callee := Go.Callee.builtin Go.Builtin.append, args := #[Go.Operand.tmp 9, Go.Operand.tmp 11], argTypes := #[34, 34] }, type := 34, pos := "needs.go:28", after := #[{ on := 5, ground := Go.Ground.data }, { on := 7, ground := Go.Ground.data }], guard := none }) rfl (fun K hK => ?_) AllReadyH.nil
    refine step_append_eq (by rfl) _ _ 34 (by rfl) (by rfl) (by rfl) hr ?_
    refine hK.out _ _ (HK.out _ H3.out.1 H3.out.2) (fun hHeld32 => ?_)
    clear hK K
    try simp only [Act.put, List.setIfInBounds_toArray, List.set_cons_zero, List.set_cons_succ]
    refine wpAnyH_take (i := 9) (oi := { dst := some 13, op := Go.Op.indexAddr 23 (Go.Operand.tmp 4) (Go.Operand.tmp 5), type := 0, pos := "needs.go:28", after := #[{ on := 0, ground := Go.Ground.data }, { on := 1, ground := Go.Ground.data }, { on := 0, ground := Go.Ground.phase }, { on := 1, ground := Go.Ground.phase }, { on := 2, ground := Go.Ground.phase }, { on := 3, ground := Go.Ground.phase }, { on := 4, ground := Go.Ground.phase }, { on := 5, ground := Go.Ground.phase }, { on := 6, ground := Go.Ground.phase }, { on := 7, ground := Go.Ground.phase }, { on := 8, ground := Go.Ground.phase }], guard := none }) (v := ?v33) rfl (by kernel_rfl) (by kernel_rfl) (by kernel_rfl) (fun _ _ _ h => h) (Or.inl ⟨by rfl, ?hy33⟩) (by assumption) ?_
    case hy33 => (intro W hSw; (try dsimp only at hSw); go_simp; try with_reducible rfl)
    try simp only [Act.put, List.setIfInBounds_toArray, List.set_cons_zero, List.set_cons_succ]
    obtain ⟨z3, c3⟩ := HZ.out
    refine wpAnyH_ready (rs := [10]) (by kernel_rfl) (by simp) ?_
    refine AllReadyH.cons (o := { dst := none, op := Go.Op.store 34 (Go.Operand.tmp 13) (Go.Operand.tmp 12), type := 0, pos := "needs.go:28", after := #[{ on := 9, ground := Go.Ground.data }, { on := 8, ground := Go.Ground.data }, { on := 8, ground := Go.Ground.chain }, { on := 0, ground := Go.Ground.phase }, { on := 1, ground := Go.Ground.phase }, { on := 2, ground := Go.Ground.phase }, { on := 3, ground := Go.Ground.phase }, { on := 4, ground := Go.Ground.phase }, { on := 5, ground := Go.Ground.phase }, { on := 6, ground := Go.Ground.phase }, { on := 7, ground := Go.Ground.phase }, { on := 8, ground := Go.Ground.phase }], guard := none }) rfl (fun K hK => ?_) AllReadyH.nil
    go_simp
    go_wp2_with fail
    refine hK.out _ _ (HK.out _ ((Below.heap_setCell _ _ _ _ (fun e => hAib e.symm)).trans H3.out.1) ((Below.heap_setCell _ _ _ _ (fun e => hAvb e.symm)).trans H3.out.2)) (fun hHeld34 => ?_)
    clear hK K
    try simp only [Act.put, List.setIfInBounds_toArray, List.set_cons_zero, List.set_cons_succ]
    refine wpAnyH_done (by kernel_rfl) ?_ _
    go_wp2_with fail
    go_returns
    exact ⟨⟨_, rfl⟩, _, HF.out⟩
end
end Go.Proofs.Ytaejhppfcmeopaa
