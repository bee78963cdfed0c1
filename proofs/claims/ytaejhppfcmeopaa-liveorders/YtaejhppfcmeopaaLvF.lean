/- need: ahead of which blocks a variable is needed, and behind which. -/
import Derived.Test.YtaejhppfcmeopaaLvE
import Derived.Test.YtaejhppfcmeopaaLvP
namespace Go.Proofs.Ytaejhppfcmeopaa
open Go.RowKit
section
variable {w w' : World}
/-- add, of a set in a box. -/
theorem add_box {g m b : Nat} (h : BoxS w g m) (hb : b < 512) : Calls Try.prog 42 #[pp g, .int .i64 b] w fun e w' => (∃ v, e = .returned v) ∧ BoxS w' g (m ||| 2 ^ b) ∧ Kp (fun j => j = g) w w' := by
  refine (add_any h.at (fz_of _ h) hb).mono ?_
  rintro e w1 ⟨h1, rfl⟩
  have h2 := h.add b
  rw [Nat.zero_add]
  exact ⟨h1, h2, (Kp.setCell _ _ _).drew⟩
/-- What need has at hand. -/
structure Ns (w : World) (p1 p2 p3 p4 p5 gb n cap : Nat) (P : Nat → Nat) (U D : Nat) : Prop where
  g : w.heap[p2]? = some (.cells #[.slice (some ⟨gb, 0, none⟩) n cap] 58 (0, 0))
  gr : ∀ t, t < n → SetAt w gb (t * 8) (P t)
  gl : gb < w.heap.size
  v : w.heap[p4]? = some (.cells #[.int .u64 (wd U 0), .int .u64 (wd U 1), .int .u64 (wd U 2), .int .u64 (wd U 3), .int .u64 (wd U 4), .int .u64 (wd U 5), .int .u64 (wd U 6), .int .u64 (wd U 7), .int .u64 (wd D 0), .int .u64 (wd D 1), .int .u64 (wd D 2), .int .u64 (wd D 3), .int .u64 (wd D 4), .int .u64 (wd D 5), .int .u64 (wd D 6), .int .u64 (wd D 7)] 68 (0, 0))
  f : w.heap[p5]? = some (.cells #[.func (.func 49) #[] #[pp p1, pp p2, pp p3, pp p4, pp p5]] 70 (0, 0))
  ne : p1 ≠ p3
  ap : ∀ j, j = p2 ∨ j = p4 ∨ j = p5 ∨ j = gb → j ≠ p1 ∧ j ≠ p3
abbrev K13 (p1 p3 : Nat) : Nat → Prop := fun j => j = p1 ∨ j = p3
theorem Ns.keep {p1 p2 p3 p4 p5 gb n cap : Nat} {P : Nat → Nat} {U D : Nat} (N : Ns w p1 p2 p3 p4 p5 gb n cap P U D) (h : Kp (K13 p1 p3) w w') : Ns w' p1 p2 p3 p4 p5 gb n cap P U D := by
  have hk : ∀ j, j = p2 ∨ j = p4 ∨ j = p5 ∨ j = gb → j < w.heap.size → w'.heap[j]? = w.heap[j]? := fun j hj hl => h.block j hl (fun hx => by
    have := N.ap j hj
    rcases hx with hx | hx
    · exact this.1 hx
    · exact this.2 hx)
  refine ⟨(hk p2 (by simp) (lt_of_block N.g)).trans N.g, fun t ht k hk8 => ?_, Nat.lt_of_lt_of_le N.gl h.size, (hk p4 (by simp) (lt_of_block N.v)).trans N.v, (hk p5 (by simp) (lt_of_block N.f)).trans N.f, N.ne, N.ap⟩
  rw [World.cell?_of_block (a := ⟨gb, t * 8 + k, none⟩) (hk gb (by simp) N.gl)]
  exact N.gr t ht k hk8
theorem Ns.defs {p1 p2 p3 p4 p5 gb n cap : Nat} {P : Nat → Nat} {U D : Nat} (N : Ns w p1 p2 p3 p4 p5 gb n cap P U D) : w.cell? ⟨p4, 8, none⟩ = some (.int .u64 (wd D 0)) ∧ w.cell? ⟨p4, 9, none⟩ = some (.int .u64 (wd D 1)) ∧ w.cell? ⟨p4, 10, none⟩ = some (.int .u64 (wd D 2)) ∧ w.cell? ⟨p4, 11, none⟩ = some (.int .u64 (wd D 3)) ∧ w.cell? ⟨p4, 12, none⟩ = some (.int .u64 (wd D 4)) ∧ w.cell? ⟨p4, 13, none⟩ = some (.int .u64 (wd D 5)) ∧ w.cell? ⟨p4, 14, none⟩ = some (.int .u64 (wd D 6)) ∧ w.cell? ⟨p4, 15, none⟩ = some (.int .u64 (wd D 7)) :=
  ⟨cell_of N.v rfl, cell_of N.v rfl, cell_of N.v rfl, cell_of N.v rfl, cell_of N.v rfl, cell_of N.v rfl, cell_of N.v rfl, cell_of N.v rfl⟩
/-- A set's eight cells. -/
abbrev C8 (w : World) (g o m : Nat) : Prop := w.cell? ⟨g, o, none⟩ = some (.int .u64 (wd m 0)) ∧ w.cell? ⟨g, o + 1, none⟩ = some (.int .u64 (wd m 1)) ∧ w.cell? ⟨g, o + 2, none⟩ = some (.int .u64 (wd m 2)) ∧ w.cell? ⟨g, o + 3, none⟩ = some (.int .u64 (wd m 3)) ∧ w.cell? ⟨g, o + 4, none⟩ = some (.int .u64 (wd m 4)) ∧ w.cell? ⟨g, o + 5, none⟩ = some (.int .u64 (wd m 5)) ∧ w.cell? ⟨g, o + 6, none⟩ = some (.int .u64 (wd m 6)) ∧ w.cell? ⟨g, o + 7, none⟩ = some (.int .u64 (wd m 7))
variable {p1 p2 p3 p4 p5 gb n cap : Nat} {P : Nat → Nat} {U D : Nat}
theorem need_any {u : Nat → Nat} (uu : (∀ a b, Sbs a b → u b ≤ u a) ∧ ∀ a x, x < 512 → a.testBit x = false → u (a ||| 2 ^ x) < u a) (hP : ∀ t, Sm (P t)) (hPn : ∀ t i, (P t).testBit i = true → i < n) (hn : n ≤ 512) : ∀ (k x : Nat) (s : Nat × Nat) (w : World), u s.1 < k → x < n → Sm s.1 → Sm s.2 → Ns w p1 p2 p3 p4 p5 gb n cap P U D → BoxS w p1 s.1 → BoxS w p3 s.2 →
    Calls Try.prog 49 #[.int .i64 x, pp p1, pp p2, pp p3, pp p4, pp p5] w fun e w' => (∃ v, e = .returned v) ∧ BoxS w' p1 (ndF P D k x s).1 ∧ BoxS w' p3 (ndF P D k x s).2 ∧ Kp (K13 p1 p3) w w'
  | 0, _, _, _, hu, _, _, _, _, _, _ => absurd hu (Nat.not_lt_zero _)
  | k + 1, x, s, w, hu, hx, sa, sb, N, B1, B3 => by
    have hx5 : x < 512 := by omega
    have hc := has_any (w := w) s.1 x hx5
    obtain ⟨a0, a1, a2, a3, a4, a5, a6, a7⟩ := B1.all
    have l1 := B1.lt
    cases h : s.1.testBit x with
    | true =>
      rw [h] at hc
      rw [ndF_in h]
      have HB1 := hide B1
      have HB3 := hide B3
      clear hu sa sb N B1 B3 h
      go_enter Try.func49, Try.ntmps49
      go_wp2_with (go_at_call 41; refine hc.mono ?_; rintro e w2 ⟨rfl, hb⟩)
      go_returns
      exact ⟨⟨_, rfl⟩, HB1.out.keep (hb.block _ HB1.out.lt), HB3.out.keep (hb.block _ HB3.out.lt), Kp.of_below hb⟩
    | false =>
      rw [h] at hc
      have HI := hide (fun (y : Nat) (s' : Nat × Nat) (w' : World) (h1 : u s'.1 < k) (h2 : y < n) => need_any uu hP hPn hn k y s' w' h1 h2)
      have HF := hide (ndF_new (P := P) (D := D) (k := k) h)
      have HB1 := hide B1
      have HB3 := hide B3
      have HN := hide N
      have hK2 : Hid (∀ {w2 w3 : World}, Below w.heap.size w w2 → Kp (fun j => j = p1) w2 w3 → Kp (K13 p1 p3) w w3) := hide fun h1 h2 => (Kp.of_below h1).trans (h2.mono fun j hj => .inl hj)
      have hK3 : Hid (∀ {w2 w3 : World}, Below w.heap.size w w2 → Kp (fun j => j = p1) w2 w3 → w3.heap[p3]? = w.heap[p3]?) := hide fun h1 h2 => (h2.block _ (Nat.lt_of_lt_of_le HB3.out.lt h1.size) HN.out.ne.symm).trans (h1.block _ HB3.out.lt)
      have HU := hide (show u (s.1 ||| 2 ^ x) < k from Nat.lt_of_lt_of_le (uu.2 _ _ hx5 h) (Nat.le_of_lt_succ hu))
      clear hu N B1 B3 h
      go_enter Try.func49, Try.ntmps49
      go_wp2_with (first
        | (go_at_call 41; refine hc.mono ?_; rintro e w2 ⟨rfl, hb⟩; clear hc; have hb1 := HB1.out.keep (hb.block _ HB1.out.lt); have hadd := add_box hb1 hx5)
        | (go_at_call 42; refine hadd.mono ?_; rintro e w3 ⟨⟨v3, rfl⟩, hb1, hk3⟩; clear hadd))
      have N3 := HN.out.keep (hK2.out hb hk3)
      have hb3 := HB3.out.keep (hK3.out hb hk3)
      have s2 : Hid (∀ W, Below w3.heap.size w3 W → (fun W : World => W.cell? ⟨p2, 0, none⟩ = some (.slice (some ⟨gb, 0, none⟩) n cap) ∧ (W.cell? ⟨gb, x * 8, none⟩ = some (.int .u64 (wd (P x) 0)) ∧ W.cell? ⟨gb, x * 8 + 1, none⟩ = some (.int .u64 (wd (P x) 1)) ∧ W.cell? ⟨gb, x * 8 + 2, none⟩ = some (.int .u64 (wd (P x) 2)) ∧ W.cell? ⟨gb, x * 8 + 3, none⟩ = some (.int .u64 (wd (P x) 3)) ∧ W.cell? ⟨gb, x * 8 + 4, none⟩ = some (.int .u64 (wd (P x) 4)) ∧ W.cell? ⟨gb, x * 8 + 5, none⟩ = some (.int .u64 (wd (P x) 5)) ∧ W.cell? ⟨gb, x * 8 + 6, none⟩ = some (.int .u64 (wd (P x) 6)) ∧ W.cell? ⟨gb, x * 8 + 7, none⟩ = some (.int .u64 (wd (P x) 7))) ∧ (W.cell? ⟨p3, 0, none⟩ = some (.int .u64 (wd s.2 0)) ∧ W.cell? ⟨p3, 1, none⟩ = some (.int .u64 (wd s.2 1)) ∧ W.cell? ⟨p3, 2, none⟩ = some (.int .u64 (wd s.2 2)) ∧ W.cell? ⟨p3, 3, none⟩ = some (.int .u64 (wd s.2 3)) ∧ W.cell? ⟨p3, 4, none⟩ = some (.int .u64 (wd s.2 4)) ∧ W.cell? ⟨p3, 5, none⟩ = some (.int .u64 (wd s.2 5)) ∧ W.cell? ⟨p3, 6, none⟩ = some (.int .u64 (wd s.2 6)) ∧ W.cell? ⟨p3, 7, none⟩ = some (.int .u64 (wd s.2 7)))) W) := hide (fun W hW => ⟨by rw [keep_cell hW (lt_of_block N3.g)]; exact cell_of N3.g rfl, SetAt.all (fun k hk => by rw [keep_cell hW N3.gl]; exact N3.gr x hx k hk), (hb3.keep (hW.block _ hb3.lt)).all⟩)
      have hless := fun (W : World) => less_any (w := W) (t := s.2) (hP x)
      have HL := hide hless
      have HN3 := hide N3
      have HB33 := hide hb3
      have HB13 := hide hb1
      have HK3 := hide (hK2.out hb hk3)
      clear hless N3 hb3 hb hb1 hk3 a0 a1 a2 a3 a4 a5 a6 a7
      go_cut [7] from 13 to 18 (fun v7 wq => ∃ f7, v7 = .pointer (some ⟨f7, 0, none⟩) ∧ Hid (BoxS wq f7 (less (P x) s.2) ∧ Below w3.heap.size w3 wq ∧ w3.heap.size ≤ f7))
      case first =>
        refine wp_region_held_drew (S := (fun W : World => W.cell? ⟨p2, 0, none⟩ = some (.slice (some ⟨gb, 0, none⟩) n cap) ∧ (W.cell? ⟨gb, x * 8, none⟩ = some (.int .u64 (wd (P x) 0)) ∧ W.cell? ⟨gb, x * 8 + 1, none⟩ = some (.int .u64 (wd (P x) 1)) ∧ W.cell? ⟨gb, x * 8 + 2, none⟩ = some (.int .u64 (wd (P x) 2)) ∧ W.cell? ⟨gb, x * 8 + 3, none⟩ = some (.int .u64 (wd (P x) 3)) ∧ W.cell? ⟨gb, x * 8 + 4, none⟩ = some (.int .u64 (wd (P x) 4)) ∧ W.cell? ⟨gb, x * 8 + 5, none⟩ = some (.int .u64 (wd (P x) 5)) ∧ W.cell? ⟨gb, x * 8 + 6, none⟩ = some (.int .u64 (wd (P x) 6)) ∧ W.cell? ⟨gb, x * 8 + 7, none⟩ = some (.int .u64 (wd (P x) 7))) ∧ (W.cell? ⟨p3, 0, none⟩ = some (.int .u64 (wd s.2 0)) ∧ W.cell? ⟨p3, 1, none⟩ = some (.int .u64 (wd s.2 1)) ∧ W.cell? ⟨p3, 2, none⟩ = some (.int .u64 (wd s.2 2)) ∧ W.cell? ⟨p3, 3, none⟩ = some (.int .u64 (wd s.2 3)) ∧ W.cell? ⟨p3, 4, none⟩ = some (.int .u64 (wd s.2 4)) ∧ W.cell? ⟨p3, 5, none⟩ = some (.int .u64 (wd s.2 5)) ∧ W.cell? ⟨p3, 6, none⟩ = some (.int .u64 (wd s.2 6)) ∧ W.cell? ⟨p3, 7, none⟩ = some (.int .u64 (wd s.2 7))))) (by kernel_rfl) (s2.out _ (below_drewN (Below.refl _ _) _)) (fun hHeld1 => ?_)
        refine wpAnyH_take (i := 0) (oi := { dst := some 13, op := Go.Op.load 58 (Go.Operand.tmp 2), type := 58, pos := "needs.go:41", after := #[], guard := none }) (v := ?v2) rfl (by kernel_rfl) (by kernel_rfl) (by kernel_rfl) (fun _ _ _ h => h) (Or.inl ⟨by rfl, ?hy2⟩) (by assumption) ?_
        case hy2 => (intro W hSw; (try dsimp only at hSw); go_simp; try with_reducible rfl)
        try simp only [Act.put, List.setIfInBounds_toArray, List.set_cons_zero, List.set_cons_succ]
        refine wpAnyH_take (i := 1) (oi := { dst := some 14, op := Go.Op.move (Go.Operand.tmp 0), type := 3, pos := "needs.go:41", after := #[], guard := none }) (v := ?v3) rfl (by kernel_rfl) (by kernel_rfl) (by kernel_rfl) (fun _ _ _ h => h) (Or.inl ⟨by rfl, ?hy3⟩) (by assumption) ?_
        case hy3 => (intro W hSw; (try dsimp only at hSw); go_simp; try with_reducible rfl)
        try simp only [Act.put, List.setIfInBounds_toArray, List.set_cons_zero, List.set_cons_succ]
        refine wpAnyH_take (i := 2) (oi := { dst := some 15, op := Go.Op.indexAddr 58 (Go.Operand.tmp 13) (Go.Operand.tmp 14), type := 0, pos := "needs.go:41", after := #[{ on := 0, ground := Go.Ground.data }, { on := 1, ground := Go.Ground.data }], guard := none }) (v := ?v4) rfl (by kernel_rfl) (by kernel_rfl) (by kernel_rfl) (fun _ _ _ h => h) (Or.inl ⟨by rfl, ?hy4⟩) (by assumption) ?_
        case hy4 => (intro W hSw; (try dsimp only at hSw); go_simp; try with_reducible rfl)
        try simp only [Act.put, List.setIfInBounds_toArray, List.set_cons_zero, List.set_cons_succ]
        refine wpAnyH_take (i := 3) (oi := { dst := some 16, op := Go.Op.load 64 (Go.Operand.tmp 15), type := 64, pos := "needs.go:41", after := #[{ on := 2, ground := Go.Ground.data }], guard := none }) (v := ?v5) rfl (by kernel_rfl) (by kernel_rfl) (by kernel_rfl) (fun _ _ _ h => h) (Or.inl ⟨by rfl, ?hy5⟩) (by assumption) ?_
        case hy5 => (intro W hSw; (try dsimp only at hSw); go_simp; try with_reducible rfl)
        try simp only [Act.put, List.setIfInBounds_toArray, List.set_cons_zero, List.set_cons_succ]
        refine wpAnyH_take (i := 4) (oi := { dst := some 17, op := Go.Op.load 64 (Go.Operand.tmp 3), type := 64, pos := "needs.go:41", after := #[], guard := none }) (v := ?v6) rfl (by kernel_rfl) (by kernel_rfl) (by kernel_rfl) (fun _ _ _ h => h) (Or.inl ⟨by rfl, ?hy6⟩) (by assumption) ?_
        case hy6 => (intro W hSw; (try dsimp only at hSw); go_simp; try with_reducible rfl)
        try simp only [Act.put, List.setIfInBounds_toArray, List.set_cons_zero, List.set_cons_succ]
        refine wpAnyH_ready (rs := [5, 6]) (by kernel_rfl) (by simp) ?_
        refine AllReadyH.cons (o := { dst := some 18, op := Go.Op.call { callee := Go.Callee.value (Go.Operand.func 50), args := #[Go.Operand.tmp 16, Go.Operand.tmp 17], argTypes := #[64, 64] }, type := 64, pos := "needs.go:41", after := #[{ on := 3, ground := Go.Ground.data }, { on := 4, ground := Go.Ground.data }], guard := none }) rfl (fun K hK => ?_) (AllReadyH.cons (o := { dst := some 7, op := Go.Op.alloc 64, type := 0, pos := "needs.go:41", after := #[], guard := none }) rfl (fun K hK => ?_) AllReadyH.nil)
        · skip
          go_simp
          go_at_call 50
          refine (HL.out _).mono ?_
          rintro e w4 ⟨rfl, hb4⟩
          have H4 := hide ((below_drewN (Below.refl w3.heap.size w3) 1).trans hb4)
          clear hb4
          go_wp2_with fail
          refine hK.out _ _ (s2.out _ H4.out) (fun hHeld7 => ?_)
          clear hK K
          try simp only [Act.put, List.setIfInBounds_toArray, List.set_cons_zero, List.set_cons_succ]
          refine wpAnyH_ready (rs := [6]) (by kernel_rfl) (by simp) ?_
          refine AllReadyH.cons (o := { dst := some 7, op := Go.Op.alloc 64, type := 0, pos := "needs.go:41", after := #[], guard := none }) rfl (fun K hK => ?_) AllReadyH.nil
          go_simp
          go_wp2_with fail
          refine hK.out _ _ (s2.out _ (H4.out.alloc H4.out.size _)) (fun hHeld8 => ?_)
          clear hK K
          try simp only [Act.put, List.setIfInBounds_toArray, List.set_cons_zero, List.set_cons_succ]
          refine wpAnyH_ready (rs := [7]) (by kernel_rfl) (by simp) ?_
          refine AllReadyH.cons (o := { dst := none, op := Go.Op.store 64 (Go.Operand.tmp 7) (Go.Operand.tmp 18), type := 0, pos := "needs.go:41", after := #[{ on := 6, ground := Go.Ground.data }, { on := 5, ground := Go.Ground.data }, { on := 5, ground := Go.Ground.chain }, { on := 0, ground := Go.Ground.phase }, { on := 1, ground := Go.Ground.phase }, { on := 2, ground := Go.Ground.phase }, { on := 3, ground := Go.Ground.phase }, { on := 4, ground := Go.Ground.phase }, { on := 5, ground := Go.Ground.phase }, { on := 6, ground := Go.Ground.phase }], guard := none }) rfl (fun K hK => ?_) AllReadyH.nil
          go_simp
          go_wp2_with fail
          refine hK.out _ _ (s2.out _ (H4.out.alloc H4.out.size _)) (fun hHeld9 => ?_)
          clear hK K
          try simp only [Act.put, List.setIfInBounds_toArray, List.set_cons_zero, List.set_cons_succ]
          refine wpAnyH_done (by kernel_rfl) ?_ _
          go_wp2_with fail
          go_meet
          exact ⟨_, rfl, hide ⟨heap_new _ _ rfl, H4.out.alloc H4.out.size _, H4.out.size⟩⟩
        · skip
          go_simp
          go_wp2_with fail
          refine hK.out _ _ (s2.out _ ((below_drewN (Below.refl w3.heap.size w3) 1).alloc (Nat.le_refl _) _)) (fun hHeld10 => ?_)
          clear hK K
          try simp only [Act.put, List.setIfInBounds_toArray, List.set_cons_zero, List.set_cons_succ]
          refine wpAnyH_ready (rs := [5]) (by kernel_rfl) (by simp) ?_
          refine AllReadyH.cons (o := { dst := some 18, op := Go.Op.call { callee := Go.Callee.value (Go.Operand.func 50), args := #[Go.Operand.tmp 16, Go.Operand.tmp 17], argTypes := #[64, 64] }, type := 64, pos := "needs.go:41", after := #[{ on := 3, ground := Go.Ground.data }, { on := 4, ground := Go.Ground.data }], guard := none }) rfl (fun K hK => ?_) AllReadyH.nil
          go_simp
          go_at_call 50
          refine (HL.out _).mono ?_
          rintro e w4 ⟨rfl, hb4⟩
          have H4 := hide hb4
          have H5 := hide (((below_drewN (Below.refl w3.heap.size w3) 1).alloc (Nat.le_refl _) (.cells zc 64)).trans (hb4.mono (by simp)))
          clear hb4
          go_wp2_with fail
          refine hK.out _ _ (s2.out _ H5.out) (fun hHeld11 => ?_)
          clear hK K
          try simp only [Act.put, List.setIfInBounds_toArray, List.set_cons_zero, List.set_cons_succ]
          have hz : w4.heap[w3.heap.size]? = some (.cells zc 64 (0, 0)) := (H4.out.block _ (by simp)).trans (heap_new _ _ rfl)
          have HZ := hide hz
          obtain ⟨⟨c0, c1, c2, c3, c4, c5, c6, c7⟩, f0, f1, f2, f3, f4, f5, f6, f7⟩ := zbox hz
          clear hz
          refine wpAnyH_ready (rs := [7]) (by kernel_rfl) (by simp) ?_
          refine AllReadyH.cons (o := { dst := none, op := Go.Op.store 64 (Go.Operand.tmp 7) (Go.Operand.tmp 18), type := 0, pos := "needs.go:41", after := #[{ on := 6, ground := Go.Ground.data }, { on := 5, ground := Go.Ground.data }, { on := 5, ground := Go.Ground.chain }, { on := 0, ground := Go.Ground.phase }, { on := 1, ground := Go.Ground.phase }, { on := 2, ground := Go.Ground.phase }, { on := 3, ground := Go.Ground.phase }, { on := 4, ground := Go.Ground.phase }, { on := 5, ground := Go.Ground.phase }, { on := 6, ground := Go.Ground.phase }], guard := none }) rfl (fun K hK => ?_) AllReadyH.nil
          go_simp
          go_wp2_with fail
          refine hK.out _ _ (s2.out _ (Kp.below (Nat.le_refl _) H5.out (st8_kp w4 w3.heap.size (.int .u64 (wd (less (P x) s.2) 0)) (.int .u64 (wd (less (P x) s.2) 1)) (.int .u64 (wd (less (P x) s.2) 2)) (.int .u64 (wd (less (P x) s.2) 3)) (.int .u64 (wd (less (P x) s.2) 4)) (.int .u64 (wd (less (P x) s.2) 5)) (.int .u64 (wd (less (P x) s.2) 6)) (.int .u64 (wd (less (P x) s.2) 7))) (fun j hj => by omega))) (fun hHeld12 => ?_)
          clear hK K
          try simp only [Act.put, List.setIfInBounds_toArray, List.set_cons_zero, List.set_cons_succ]
          refine wpAnyH_done (by kernel_rfl) ?_ _
          go_wp2_with fail
          go_meet
          exact ⟨_, rfl, hide ⟨st8_heap HZ.out, Kp.below (Nat.le_refl _) H5.out (st8_kp w4 w3.heap.size (.int .u64 (wd (less (P x) s.2) 0)) (.int .u64 (wd (less (P x) s.2) 1)) (.int .u64 (wd (less (P x) s.2) 2)) (.int .u64 (wd (less (P x) s.2) 3)) (.int .u64 (wd (less (P x) s.2) 4)) (.int .u64 (wd (less (P x) s.2) 5)) (.int .u64 (wd (less (P x) s.2) 6)) (.int .u64 (wd (less (P x) s.2) 7))) (fun j hj => by omega), Nat.le_refl _⟩⟩
      case rest =>
        obtain ⟨f7, rfl, HC⟩ := hcut
        revert HC
        generalize wc = wq
        clear wc
        intro HC
        obtain ⟨a0, a1, a2, a3, a4, a5, a6, a7⟩ := HC.out.1.all
        have lf := HC.out.1.lt
        have hj := join_any (t := less (P x) s.2) (HB33.out.keep (HC.out.2.1.block _ HB33.out.lt))
        have HD := hide (fun (W : World) => less_any (w := W) (t := D) (less_sm (P x) s.2))
        clear s2 HL
        go_wp2_with fail
        refine hj.mono ?_
        rintro e w5 ⟨⟨v5, rfl⟩, hb5, hk5⟩
        have ne7 : f7 ≠ p3 := fun h => by have := HB33.out.lt; have := HC.out.2.2; omega
        have HF7 := hide (HC.out.1.keep (hk5.block _ lf ne7))
        have HB15 := hide ((HB13.out.keep (HC.out.2.1.block _ HB13.out.lt)).keep (hk5.block _ (Nat.lt_of_lt_of_le HB13.out.lt HC.out.2.1.size) HN.out.ne))
        have HB35 := hide hb5
        have HK5 := hide ((Kp.of_below HC.out.2.1).trans (hk5.mono fun j hj => .inr hj) : Kp (K13 p1 p3) w3 w5)
        have HN5 := hide (HN3.out.keep HK5.out)
        clear hj hb5 hk5 a0 a1 a2 a3 a4 a5 a6 a7 ne7
        have s5 : Hid (∀ W, Kp (K13 p1 p3) w5 W → (fun W : World => W.cell? ⟨p5, 0, none⟩ = some (.func (.func 49) #[] #[pp p1, pp p2, pp p3, pp p4, pp p5]) ∧ (W.cell? ⟨f7, 0, none⟩ = some (.int .u64 (wd (less (P x) s.2) 0)) ∧ W.cell? ⟨f7, 1, none⟩ = some (.int .u64 (wd (less (P x) s.2) 1)) ∧ W.cell? ⟨f7, 2, none⟩ = some (.int .u64 (wd (less (P x) s.2) 2)) ∧ W.cell? ⟨f7, 3, none⟩ = some (.int .u64 (wd (less (P x) s.2) 3)) ∧ W.cell? ⟨f7, 4, none⟩ = some (.int .u64 (wd (less (P x) s.2) 4)) ∧ W.cell? ⟨f7, 5, none⟩ = some (.int .u64 (wd (less (P x) s.2) 5)) ∧ W.cell? ⟨f7, 6, none⟩ = some (.int .u64 (wd (less (P x) s.2) 6)) ∧ W.cell? ⟨f7, 7, none⟩ = some (.int .u64 (wd (less (P x) s.2) 7))) ∧ (W.cell? ⟨p4, 8, none⟩ = some (.int .u64 (wd D 0)) ∧ W.cell? ⟨p4, 9, none⟩ = some (.int .u64 (wd D 1)) ∧ W.cell? ⟨p4, 10, none⟩ = some (.int .u64 (wd D 2)) ∧ W.cell? ⟨p4, 11, none⟩ = some (.int .u64 (wd D 3)) ∧ W.cell? ⟨p4, 12, none⟩ = some (.int .u64 (wd D 4)) ∧ W.cell? ⟨p4, 13, none⟩ = some (.int .u64 (wd D 5)) ∧ W.cell? ⟨p4, 14, none⟩ = some (.int .u64 (wd D 6)) ∧ W.cell? ⟨p4, 15, none⟩ = some (.int .u64 (wd D 7)))) W) := hide (fun W hW => ⟨cell_of (HN5.out.keep hW).f rfl, (HF7.out.keep (hW.block _ HF7.out.lt (by have := HB33.out.lt; have := HB13.out.lt; have := HC.out.2.2; rintro (h | h) <;> omega))).all, by have h := (HN5.out.keep hW).v; exact ⟨cell_of h rfl, cell_of h rfl, cell_of h rfl, cell_of h rfl, cell_of h rfl, cell_of h rfl, cell_of h rfl, cell_of h rfl⟩⟩)
        clear lf
        go_wp2_with fail
        refine wp_region_held_drew (S := (fun W : World => W.cell? ⟨p5, 0, none⟩ = some (.func (.func 49) #[] #[pp p1, pp p2, pp p3, pp p4, pp p5]) ∧ (W.cell? ⟨f7, 0, none⟩ = some (.int .u64 (wd (less (P x) s.2) 0)) ∧ W.cell? ⟨f7, 1, none⟩ = some (.int .u64 (wd (less (P x) s.2) 1)) ∧ W.cell? ⟨f7, 2, none⟩ = some (.int .u64 (wd (less (P x) s.2) 2)) ∧ W.cell? ⟨f7, 3, none⟩ = some (.int .u64 (wd (less (P x) s.2) 3)) ∧ W.cell? ⟨f7, 4, none⟩ = some (.int .u64 (wd (less (P x) s.2) 4)) ∧ W.cell? ⟨f7, 5, none⟩ = some (.int .u64 (wd (less (P x) s.2) 5)) ∧ W.cell? ⟨f7, 6, none⟩ = some (.int .u64 (wd (less (P x) s.2) 6)) ∧ W.cell? ⟨f7, 7, none⟩ = some (.int .u64 (wd (less (P x) s.2) 7))) ∧ (W.cell? ⟨p4, 8, none⟩ = some (.int .u64 (wd D 0)) ∧ W.cell? ⟨p4, 9, none⟩ = some (.int .u64 (wd D 1)) ∧ W.cell? ⟨p4, 10, none⟩ = some (.int .u64 (wd D 2)) ∧ W.cell? ⟨p4, 11, none⟩ = some (.int .u64 (wd D 3)) ∧ W.cell? ⟨p4, 12, none⟩ = some (.int .u64 (wd D 4)) ∧ W.cell? ⟨p4, 13, none⟩ = some (.int .u64 (wd D 5)) ∧ W.cell? ⟨p4, 14, none⟩ = some (.int .u64 (wd D 6)) ∧ W.cell? ⟨p4, 15, none⟩ = some (.int .u64 (wd D 7))))) (by kernel_rfl) (s5.out _ (Kp.of_below (below_drewN (Below.refl _ _) _))) (fun hHeld13 => ?_)
        refine wpAnyH_take (i := 0) (oi := { dst := some 21, op := Go.Op.load 64 (Go.Operand.tmp 7), type := 64, pos := "needs.go:43", after := #[], guard := none }) (v := ?v14) rfl (by kernel_rfl) (by kernel_rfl) (by kernel_rfl) (fun _ _ _ h => h) (Or.inl ⟨by rfl, ?hy14⟩) (by assumption) ?_
        case hy14 => (intro W hSw; (try dsimp only at hSw); go_simp; try with_reducible rfl)
        try simp only [Act.put, List.setIfInBounds_toArray, List.set_cons_zero, List.set_cons_succ]
        refine wpAnyH_take (i := 1) (oi := { dst := some 22, op := Go.Op.fieldAddr 68 (Go.Operand.tmp 4) 1, type := 0, pos := "needs.go:43", after := #[], guard := none }) (v := ?v15) rfl (by kernel_rfl) (by kernel_rfl) (by kernel_rfl) (fun _ _ _ h => h) (Or.inl ⟨by rfl, ?hy15⟩) (by assumption) ?_
        case hy15 => (intro W hSw; (try dsimp only at hSw); go_simp; try with_reducible rfl)
        try simp only [Act.put, List.setIfInBounds_toArray, List.set_cons_zero, List.set_cons_succ]
        refine wpAnyH_take (i := 2) (oi := { dst := some 23, op := Go.Op.load 64 (Go.Operand.tmp 22), type := 64, pos := "needs.go:43", after := #[{ on := 1, ground := Go.Ground.data }], guard := none }) (v := ?v16) rfl (by kernel_rfl) (by kernel_rfl) (by kernel_rfl) (fun _ _ _ h => h) (Or.inl ⟨by rfl, ?hy16⟩) (by assumption) ?_
        case hy16 => (intro W hSw; (try dsimp only at hSw); go_simp; try with_reducible rfl)
        try simp only [Act.put, List.setIfInBounds_toArray, List.set_cons_zero, List.set_cons_succ]
        refine wpAnyH_take (i := 4) (oi := { dst := some 25, op := Go.Op.load 70 (Go.Operand.tmp 5), type := 70, pos := "needs.go:43", after := #[], guard := none }) (v := ?v17) rfl (by kernel_rfl) (by kernel_rfl) (by kernel_rfl) (fun _ _ _ h => h) (Or.inl ⟨by rfl, ?hy17⟩) (by assumption) ?_
        case hy17 => (intro W hSw; (try dsimp only at hSw); go_simp; try with_reducible rfl)
        try simp only [Act.put, List.setIfInBounds_toArray, List.set_cons_zero, List.set_cons_succ]
        refine wpAnyH_ready (rs := [3]) (by kernel_rfl) (by simp) ?_
        refine AllReadyH.cons (o := { dst := some 24, op := Go.Op.call { callee := Go.Callee.value (Go.Operand.func 50), args := #[Go.Operand.tmp 21, Go.Operand.tmp 23], argTypes := #[64, 64] }, type := 64, pos := "needs.go:43", after := #[{ on := 0, ground := Go.Ground.data }, { on := 2, ground := Go.Ground.data }], guard := none }) rfl (fun K hK => ?_) AllReadyH.nil
        go_simp
        go_at_call 50
        refine (HD.out _).mono ?_
        rintro e w6 ⟨rfl, hb6⟩
        have H6 := hide ((below_drewN (Below.refl w5.heap.size w5) 1).trans hb6)
        clear hb6
        go_wp2_with fail
        refine hK.out _ _ (s5.out _ (Kp.of_below H6.out)) (fun hHeld18 => ?_)
        clear hK K
        try simp only [Act.put, List.setIfInBounds_toArray, List.set_cons_zero, List.set_cons_succ]
        obtain ⟨m, hm⟩ : ∃ m, m = less (less (P x) s.2) D := ⟨_, rfl⟩
        have HM := hide hm
        rw [← hm]
        clear hm
        have hsm : ∀ y, m.testBit y = true → y < n := fun y hy => by
          rw [HM.out, less_bit (less_sm _ _), less_bit (hP x), Bool.and_eq_true, Bool.and_eq_true] at hy
          exact hPn x y hy.1.1
        have hkeep := fun (l : List Nat) (hl : ∀ y ∈ l, y < 512) => ndL_keeps (D := D) hP k l (s.1 ||| 2 ^ x, s.2 ||| less (P x) s.2) hl (sa.add hx5) (sb.or (less_sm _ _))
        have he := each_need (m := m) (p1 := p1) (p2 := p2) (p3 := p3) (p4 := p4) (p5 := p5) (J := fun y W => BoxS W p1 (ndL P D k (elemsT m y) (s.1 ||| 2 ^ x, s.2 ||| less (P x) s.2)).1 ∧ BoxS W p3 (ndL P D k (elemsT m y) (s.1 ||| 2 ^ x, s.2 ||| less (P x) s.2)).2 ∧ Kp (K13 p1 p3) w5 W) w6
          (by
            have hb := (H6.out).alloc H6.out.size (.cells (wc m) 64)
            exact ⟨HB15.out.keep (hb.block _ HB15.out.lt), HB35.out.keep (hb.block _ HB35.out.lt), Kp.of_below hb⟩)
          (by
            rintro y w' hy5 hy ⟨j1, j2, j3⟩
            obtain ⟨q1, q2, q3⟩ := hkeep (elemsT m y) (fun z hz => by have := (elemsT_mem.mp hz).1; omega)
            rw [elemsT_step hy, ndL_snoc]
            refine (HI.out y _ w' (Nat.lt_of_le_of_lt (uu.1 _ _ q3) HU.out) (hsm y hy) q1 q2 (HN5.out.keep j3) j1 j2).mono ?_
            rintro e w'' ⟨h1, h2, h3, h4⟩
            exact ⟨h1, h2, h3, j3.trans h4⟩)
          (by
            rintro y w' hy ⟨j1, j2, j3⟩
            rw [elemsT_skip hy]
            exact ⟨j1, j2, j3⟩)
        have HE := hide he
        clear he hkeep hsm
        refine wpAnyH_ready (rs := [5]) (by kernel_rfl) (by simp) ?_
        refine AllReadyH.cons (o := { dst := some 26, op := Go.Op.call { callee := Go.Callee.value (Go.Operand.func 37), args := #[Go.Operand.tmp 24, Go.Operand.tmp 25], argTypes := #[64, 70] }, type := 0, pos := "needs.go:43", after := #[{ on := 3, ground := Go.Ground.data }, { on := 4, ground := Go.Ground.data }, { on := 3, ground := Go.Ground.chain }], guard := none }) rfl (fun K hK => ?_) AllReadyH.nil
        go_simp
        go_at_call 37
        refine HE.out.mono ?_
        rintro e w7 ⟨⟨v7, rfl⟩, h7⟩
        have H7 := hide h7
        clear h7
        go_wp2_with fail
        refine hK.out _ _ (s5.out _ H7.out.2.2) (fun hHeld19 => ?_)
        clear hK K
        try simp only [Act.put, List.setIfInBounds_toArray, List.set_cons_zero, List.set_cons_succ]
        refine wpAnyH_done (by kernel_rfl) ?_ _
        go_wp2_with fail
        go_returns
        rw [HF.out, ← HM.out]
        exact ⟨⟨_, rfl⟩, H7.out.1, H7.out.2.1, (HK3.out.trans HK5.out).trans H7.out.2.2⟩
end
end Go.Proofs.Ytaejhppfcmeopaa
