/- bounds: where ranges begin and where they end, both rising. -/
import Derived.Test.YtmkeahfdbmfajaaSxL
import Derived.Test.YtmkeahfdbmfajaaSxI
import Derived.Test.YtmkeahfdbmfajaaSxV
import Derived.Shelf.SortM.Plain
import Derived.Shelf.SortM.SortNone
import Derived.Ground.SlgmProg
import Derived.Lib.SortBridge
import Derived.Lib.OwnBridge
import Derived.Lib.AppendIntMem
namespace Go.Proofs
open Go.Shelf
shelf_lay_g SlLaysM.n5 Slgm 5 at Try 31 as Try.sortM
end Go.Proofs
namespace Go.Proofs.Ytmkeahfdbmfajaa
open Go.RowKit Go.Shelf Go.Lib Go.Sort
theorem step_pushI {W : World} {ops : Array Oper} {o : Oper} {a : Act} {K : Act → World → Prop} {Q : Exit → Act → World → Prop} {E : Prop} (hgd : o.guard = none) (s x : Operand)
    (ho : o.op = .call { callee := .builtin .append, args := #[s, x], argTypes := #[23, 23] }) (hty : o.type = 23) {B b : Nat} {v1 : Value} {l : List Int} {y : Int} (hs : a.eval s = v1) (hx : a.eval x = .slice (some ⟨b, 0, none⟩) 1 1)
    (R : W.ownsRow B 3 1 v1 l.length (ints l)) (hb : W.heap[b]? = some (.cells #[.int .i64 y] 3 (0, 0))) (hlen : l.length ≤ 1000000) (hB : B ≤ W.heap.size)
    (h : ∀ g cap w', w'.ownsRow B 3 1 (.slice (some ⟨g, 0, none⟩) (l.length + 1) cap) (l.length + 1) (ints (l ++ [y])) → W.grownBy w' v1.ownBlock → (v1.ownBlock = some g ∨ g = W.heap.size) → g < w'.heap.size → K (a.put o.dst (.slice (some ⟨g, 0, none⟩) (l.length + 1) cap)) w') :
    if Region.wanted o (yielded ops a.tmps) = true then Oper.wp Try.prog o a W K Q else E := by
  obtain ⟨g, cap, w', hr, hown, hgr, hat, hlt⟩ := run_appI (x := y) R hb (by omega) hB
  have e2 : ints (l ++ [y]) = ints l ++ [.int .i64 y] := by simp [ints]
  rw [← hty] at hr
  have hr' : (Builtin.append_ #[23, 23] o.type #[v1, .slice (some ⟨b, 0, none⟩) 1 1]).run Try.prog W = .ok (.slice (some ⟨g, 0, none⟩) (l.length + 1) cap) w' := by rw [hty] at hr ⊢; exact hr
  exact step_append_eq hgd s x 23 ho hs hx hr' (h g cap w' (by rw [e2]; exact hown) hgr hat hlt)
/-- Two rows of one's own, made since w0. -/
structure Two (w0 w : World) (v1 v2 : Value) (l1 l2 : List Int) : Prop where
  r1 : w.ownsRow w0.heap.size 3 1 v1 l1.length (ints l1)
  r2 : w.ownsRow w0.heap.size 3 1 v2 l2.length (ints l2)
  ap : ∀ g, v1.ownBlock = some g → v2.ownBlock ≠ some g
  b : Below w0.heap.size w0 w
theorem Two.under {w0 w w' : World} {v1 v2 : Value} {l1 l2 : List Int} (V : Two w0 w v1 v2 l1 l2) (h : Below w.heap.size w w') : Two w0 w' v1 v2 l1 l2 :=
  ⟨ownsRow_keep V.r1 (fun g hg => h.block g (V.r1.lt g hg).2), ownsRow_keep V.r2 (fun g hg => h.block g (V.r2.lt g hg).2), V.ap, V.b.trans (h.mono V.b.size)⟩
theorem Two.push1 {w0 X w1 : World} {v1 v2 : Value} {l1 l2 : List Int} {g c : Nat} {y : Int} (V : Two w0 X v1 v2 l1 l2) (O : w1.ownsRow w0.heap.size 3 1 (.slice (some ⟨g, 0, none⟩) (l1.length + 1) c) (l1.length + 1) (ints (l1 ++ [y]))) (G : X.grownBy w1 v1.ownBlock) (A : v1.ownBlock = some g ∨ g = X.heap.size) : Two w0 w1 (.slice (some ⟨g, 0, none⟩) (l1.length + 1) c) v2 (l1 ++ [y]) l2 := by
  refine ⟨by rw [List.length_append, List.length_singleton]; exact O, ownsRow_keep V.r2 (fun h hh => G.block h (V.r2.lt h hh).2 (fun e => V.ap h e.symm hh)), fun h hh e => ?_, ?_⟩
  · simp only [Value.ownBlock, Option.some.injEq] at hh
    subst hh
    rcases A with A | A
    · exact V.ap g A e
    · have := (V.r2.lt g e).2; omega
  · exact ⟨G.os.trans V.b.os, G.tape.trans V.b.tape, G.output.trans V.b.output, Nat.le_trans V.b.size G.size, fun j hj => (G.block j (Nat.lt_of_lt_of_le hj V.b.size) (fun e => by have := (V.r1.lt j e.symm).1; omega)).trans (V.b.block j hj)⟩
theorem Two.push2 {w0 X w1 : World} {v1 v2 : Value} {l1 l2 : List Int} {g c : Nat} {y : Int} (V : Two w0 X v1 v2 l1 l2) (O : w1.ownsRow w0.heap.size 3 1 (.slice (some ⟨g, 0, none⟩) (l2.length + 1) c) (l2.length + 1) (ints (l2 ++ [y]))) (G : X.grownBy w1 v2.ownBlock) (A : v2.ownBlock = some g ∨ g = X.heap.size) : Two w0 w1 v1 (.slice (some ⟨g, 0, none⟩) (l2.length + 1) c) l1 (l2 ++ [y]) := by
  refine ⟨ownsRow_keep V.r1 (fun h hh => G.block h (V.r1.lt h hh).2 (fun e => V.ap h hh e.symm)), by rw [List.length_append, List.length_singleton]; exact O, fun h hh e => ?_, ?_⟩
  · simp only [Value.ownBlock, Option.some.injEq] at e
    subst e
    rcases A with A | A
    · exact V.ap g hh A
    · have := (V.r1.lt g hh).2; omega
  · exact ⟨G.os.trans V.b.os, G.tape.trans V.b.tape, G.output.trans V.b.output, Nat.le_trans V.b.size G.size, fun j hj => (G.block j (Nat.lt_of_lt_of_le hj V.b.size) (fun e => by have := (V.r2.lt j e.symm).1; omega)).trans (V.b.block j hj)⟩
theorem sort_own {w : World} {v : Value} {zs : List Int} {C : Nat} (h : w.ownsRow C 3 1 v zs.length (ints zs)) (hn : zs.length ≤ 1000000) : Calls Try.prog 31 #[v] w fun e w' => e = .returned (.tuple #[]) ∧ w'.ownsRow C 3 1 v (zs.mergeSort fun x y => decide (x ≤ y)).length (ints (zs.mergeSort fun x y => decide (x ≤ y))) ∧ Kp (fun b => v.ownBlock = some b) w w' := by
  by_cases hv : v = .slice none 0 0
  · subst hv
    have h0 : zs.length = 0 := by
      rcases h.2 with ⟨_, h0⟩ | ⟨g, c, cur, e, _⟩
      · exact h0
      · cases e
    have hz : zs = [] := List.eq_nil_of_length_eq_zero h0
    subst hz
    refine (AnyM.slices_Sort_int_none Try.sortM none 0 w).mono ?_
    rintro e w' ⟨rfl, rfl⟩
    exact ⟨rfl, by simpa using h, Kp.refl _ _⟩
  · obtain ⟨g, cap, e1, _, hg, h1, h2, h3, hH⟩ := Lib.holds_of_ownsRow (enc := Value.int .i64) (zs := zs) h hv
    subst e1
    refine (AnyM.slices_Sort_int Try.sortM g 0 cap zs w hH hg (by omega)).mono ?_
    rintro e w' ⟨rfl, k, os, rfl⟩
    refine ⟨rfl, ?_, ?_⟩
    · have hp := Lib.ownsRow_putRow (enc := Value.int .i64) (q := k) (k := zs.length) (ys := zs.mergeSort fun x y => decide (x ≤ y)) h (by simp) (Nat.le_refl _)
      rw [List.take_of_length_le (by simp)] at hp
      have hq := Lib.ownsRow_grow hp 0 os
      rw [List.length_mergeSort]
      exact hq
    · refine ⟨rfl, rfl, rfl, sw_size (Value.int .i64) w g 0 k _ os, fun j hj hne => ?_⟩
      exact sw_keep (Value.int .i64) w g 0 k _ os hj (fun e => hne (by rw [e]; rfl))
theorem Two.sort1 {w0 w w' : World} {v1 v2 : Value} {l1 l2 l3 : List Int} (V : Two w0 w v1 v2 l1 l2) (h : w'.ownsRow w0.heap.size 3 1 v1 l3.length (ints l3)) (K : Kp (fun b => v1.ownBlock = some b) w w') : Two w0 w' v1 v2 l3 l2 :=
  ⟨h, ownsRow_keep V.r2 (fun g hg => K.block g (V.r2.lt g hg).2 (fun e => V.ap g e hg)), V.ap, Kp.below (Nat.le_refl _) V.b K (fun j hj => (V.r1.lt j hj).1)⟩
theorem Two.sort2 {w0 w w' : World} {v1 v2 : Value} {l1 l2 l3 : List Int} (V : Two w0 w v1 v2 l1 l2) (h : w'.ownsRow w0.heap.size 3 1 v2 l3.length (ints l3)) (K : Kp (fun b => v2.ownBlock = some b) w w') : Two w0 w' v1 v2 l1 l3 :=
  ⟨ownsRow_keep V.r1 (fun g hg => K.block g (V.r1.lt g hg).2 (fun e => V.ap g hg e)), h, V.ap, Kp.below (Nat.le_refl _) V.b K (fun j hj => (V.r2.lt j hj).1)⟩
section
variable {w : World}
set_option maxRecDepth 20000 in
set_option maxHeartbeats 2000000 in
theorem bounds_any {v : Value} {l : List Rg} (R : RgsAt w v l) (hl : l.length ≤ 20000) : Calls Try.prog 19 #[v] w fun e w' => (∃ v1 v2, e = .returned (.tuple #[v1, v2]) ∧ Hid (IntsAt w' v1 (bsP l) ∧ IntsAt w' v2 (esP l))) ∧ Below w.heap.size w w' := by
  have HR := hide R
  obtain ⟨ao, cap, rfl⟩ := R.slice
  obtain ⟨n, hn⟩ : ∃ n, l.length = n := ⟨_, rfl⟩
  have HN := hide hn
  rw [hn] at hl HR ⊢
  clear R hn
  have hn2 : (n : Int) ≤ 20000 := by omega
  go_enter Try.func19, Try.ntmps19
  go_wp2
  go_loopw [2, 3, 8] (fun v1 v2 i wr => ∃ j : Nat, j ≤ n ∧ i = .int .i64 j ∧ Hid (Two w wr v1 v2 ((l.take j).map Rg.fr) ((l.take j).map Rg.en))) (fun _ _ i _ => n - (intOf i).toNat)
  case atStart => exact ⟨0, Nat.zero_le _, rfl, World.ownsRow_nil _ _ _ _, World.ownsRow_nil _ _ _ _, fun g hg => by simp [Value.ownBlock] at hg, Below.refl _ _⟩
  case round =>
    obtain ⟨j, hj, rfl, HJ⟩ := hrel
    by_cases hlt : j < n
    · obtain ⟨p, hp⟩ : ∃ p, l[j]? = some p := ⟨l[j]'(by rw [HN.out]; exact hlt), by simp⟩
      obtain ⟨g, o, rfl, hg, c0, c1⟩ := (HR.out.below HJ.out.b).cell hp
      have bj : (j : Int) < (n : Int) := by omega
      have HP := hide hp
      clear hp
      go_upto_region 4 with fail
      obtain ⟨b, hb⟩ : ∃ b, wr.heap.size = b := ⟨_, rfl⟩
      obtain ⟨W, hW⟩ : ∃ W, wr.alloc (.cells #[.int .i64 p.fr, .int .i64 p.en] 37) = W := ⟨_, rfl⟩
      have V0 := HJ.out.under ((Below.refl wr.heap.size wr).alloc (Nat.le_refl _) (.cells #[.int .i64 p.fr, .int .i64 p.en] 37))
      have hbx := heap_new wr (.cells #[.int .i64 p.fr, .int .i64 p.en] 37) rfl
      have n1 : u2.ownBlock ≠ some b := fun e => by have := (HJ.out.r1.lt b e).2; omega
      rw [hW] at V0 hbx
      rw [hb] at hbx
      rw [hb, hW]
      have hlen1 : ((l.take j).map Rg.fr).length ≤ 20000 := by rw [List.length_map, List.length_take]; omega
      have hlen2 : ((l.take j).map Rg.en).length ≤ 20000 := by rw [List.length_map, List.length_take]; omega
      obtain ⟨l1, hl1⟩ : ∃ x, (l.take j).map Rg.fr = x := ⟨_, rfl⟩
      obtain ⟨l2, hl2⟩ : ∃ x, (l.take j).map Rg.en = x := ⟨_, rfl⟩
      rw [hl1] at V0 hlen1
      rw [hl2] at V0 hlen2
      have HE := hide (And.intro hl1 hl2)
      clear hl1 hl2
      have z0 : w.heap.size ≤ W.heap.size := V0.b.size
      have VA := V0.under (((Below.refl W.heap.size W).alloc (Nat.le_refl _) (.cells #[.int .i64 p.fr] 3)).drew)
      have VB := V0.under ((((Below.refl W.heap.size W).alloc (Nat.le_refl _) (.cells #[.int .i64 p.fr] 3)).alloc (by simp) (.cells #[.int .i64 p.en] 3)).drew)
      have VC := V0.under ((((Below.refl W.heap.size W).alloc (Nat.le_refl _) (.cells #[.int .i64 p.en] 3)).alloc (by simp) (.cells #[.int .i64 p.fr] 3)).drew)
      have bl := lt_of_block hbx
      have pA := heap_newd W (.cells #[.int .i64 p.fr] 3) rfl
      have pB : ((W.alloc (.cells #[.int .i64 p.fr] 3)).alloc (.cells #[.int .i64 p.en] 3)).drew.heap[W.heap.size]? = some (.cells #[.int .i64 p.fr] 3 (0, 0)) := (heap_under _ _ (by simp)).trans (heap_new W (.cells #[.int .i64 p.fr] 3) rfl)
      have qB : ((W.alloc (.cells #[.int .i64 p.fr] 3)).alloc (.cells #[.int .i64 p.en] 3)).drew.heap[W.heap.size + 1]? = some (.cells #[.int .i64 p.en] 3 (0, 0)) := heap_newd _ _ (by simp)
      have pC : ((W.alloc (.cells #[.int .i64 p.en] 3)).alloc (.cells #[.int .i64 p.fr] 3)).drew.heap[W.heap.size + 1]? = some (.cells #[.int .i64 p.fr] 3 (0, 0)) := heap_newd _ _ (by simp)
      have qC : ((W.alloc (.cells #[.int .i64 p.en] 3)).alloc (.cells #[.int .i64 p.fr] 3)).drew.heap[W.heap.size]? = some (.cells #[.int .i64 p.en] 3 (0, 0)) := (heap_under _ _ (by simp)).trans (heap_new W (.cells #[.int .i64 p.en] 3) rfl)
      have xA : (W.alloc (.cells #[.int .i64 p.fr] 3)).drew.heap[b]? = some (.cells #[.int .i64 p.fr, .int .i64 p.en] 37 (0, 0)) := (heap_under _ _ bl).trans hbx
      have xB : ((W.alloc (.cells #[.int .i64 p.fr] 3)).alloc (.cells #[.int .i64 p.en] 3)).drew.heap[b]? = some (.cells #[.int .i64 p.fr, .int .i64 p.en] 37 (0, 0)) := (heap_under _ _ (by simp; omega)).trans xA
      have xC : ((W.alloc (.cells #[.int .i64 p.en] 3)).alloc (.cells #[.int .i64 p.fr] 3)).drew.heap[b]? = some (.cells #[.int .i64 p.fr, .int .i64 p.en] 37 (0, 0)) := (heap_under _ _ (by simp; omega)).trans ((heap_under _ _ bl).trans hbx)
      have m0 : u2.ownBlock ≠ some W.heap.size := fun e => by have := (V0.r1.lt _ e).2; omega
      have m1 : u2.ownBlock ≠ some (W.heap.size + 1) := fun e => by have := (V0.r1.lt _ e).2; omega
      have HA := hide (And.intro VA (And.intro pA xA))
      have HB := hide (And.intro VB (And.intro pB (And.intro qB xB)))
      have HC := hide (And.intro VC (And.intro pC (And.intro qC xC)))
      have HM := hide (And.intro n1 (And.intro m0 m1))
      have HL := hide (And.intro hlen1 hlen2)
      have d0 := cell_of (o := 0) hbx rfl
      have d1 := cell_of (o := 1) hbx rfl
      clear VA VB VC pA pB qB pC qC xA xB xC n1 m0 m1 hlen1 hlen2 V0 hbx HJ c0 c1 hW hb
      go_region_law (first
        | (refine step_pushI (B := w.heap.size) (l := l1) (y := p.fr) (by rfl) (.tmp 12) (.tmp 15) (by rfl) (by rfl) (by rfl) (by rfl) (by first | exact HA.out.1.r1 | exact HB.out.1.r1 | exact HC.out.1.r1) (by first | exact HA.out.2.1 | exact HB.out.2.1 | exact HC.out.2.1) (by have := HL.out.1; omega) (by first | exact HA.out.1.b.size | exact HB.out.1.b.size | exact HC.out.1.b.size) ?_
           intro g1 c1 w1 O1 G1 A1 L1
           have V1 : Two w w1 (.slice (some ⟨g1, 0, none⟩) (l1.length + 1) c1) u3 (l1 ++ [p.fr]) l2 := by first | exact HA.out.1.push1 O1 G1 A1 | exact HB.out.1.push1 O1 G1 A1 | exact HC.out.1.push1 O1 G1 A1
           have bx1 : w1.heap[b]? = some (.cells #[.int .i64 p.fr, .int .i64 p.en] 37 (0, 0)) := by first | exact (G1.block b (lt_of_block HA.out.2.2) HM.out.1.symm).trans HA.out.2.2 | exact (G1.block b (lt_of_block HB.out.2.2.2) HM.out.1.symm).trans HB.out.2.2.2 | exact (G1.block b (lt_of_block HC.out.2.2.2) HM.out.1.symm).trans HC.out.2.2.2
           have d2 := cell_of (o := 1) bx1 rfl
           have bl1 := lt_of_block bx1
           have HV1 := hide (And.intro V1 (V1.under ((Below.refl w1.heap.size w1).alloc (Nat.le_refl _) (.cells #[.int .i64 p.en] 3))))
           have HP1 := hide (heap_new w1 (.cells #[.int .i64 p.en] 3) rfl)
           first
             | (have q1 : Hid (w1.heap[W.heap.size + 1]? = some (.cells #[.int .i64 p.en] 3 (0, 0))) := hide ((G1.block _ (lt_of_block HB.out.2.2.1) HM.out.2.2.symm).trans HB.out.2.2.1))
             | (have q1 : Hid (w1.heap[W.heap.size]? = some (.cells #[.int .i64 p.en] 3 (0, 0))) := hide ((G1.block _ (lt_of_block HC.out.2.2.1) HM.out.2.1.symm).trans HC.out.2.2.1))
             | skip
           clear V1 bx1 O1 G1 A1)
        | (refine step_pushI (B := w.heap.size) (l := l2) (y := p.en) (by rfl) (.tmp 17) (.tmp 20) (by rfl) (by rfl) (by rfl) (by rfl) (by first | exact HV1.out.1.r2 | exact HV1.out.2.r2) (by first | exact q1.out | exact HP1.out) (by have := HL.out.2; omega) (by first | exact HV1.out.1.b.size | exact HV1.out.2.b.size) ?_
           intro g2 c2 w2 O2 G2 A2 L2
           have V2 : Hid (Two w w2 (.slice (some ⟨g1, 0, none⟩) (l1.length + 1) c1) (.slice (some ⟨g2, 0, none⟩) (l2.length + 1) c2) (l1 ++ [p.fr]) (l2 ++ [p.en])) := hide (by first | exact HV1.out.1.push2 O2 G2 A2 | exact HV1.out.2.push2 O2 G2 A2)
           clear O2 G2 A2))
      all_goals go_wp2_with fail
      all_goals go_roundw
      all_goals first
        | (case rel => exact ⟨j + 1, by omega, by go_num, by rw [take_snoc HP.out, List.map_append, List.map_append, HE.out.1, HE.out.2]; refine (?_ : Two _ _ _ _ _ _); have := V2.out; exact this⟩)
        | (case measure => simp [intOf]; omega)
    · obtain rfl : j = n := by omega
      have ht : l.take j = l := List.take_of_length_le (by rw [HN.out]; exact Nat.le_refl _)
      rw [ht] at HJ
      have h1 := sort_own HJ.out.r1 (by rw [List.length_map, HN.out]; omega)
      have HS1 := hide h1
      clear h1 ht
      go_wp2_with (first
        | (have kk := st1; clear kk; go_at_call 31; with_reducible refine HS2.out.mono ?_; rintro e w3 ⟨rfl, R3, K3⟩
           have HV3 := hide (HV2.out.sort2 R3 K3)
           clear R3 K3 HS2)
        | (go_at_call 31; with_reducible refine HS1.out.mono ?_; rintro e w2 ⟨rfl, R2, K2⟩
           have HV2 := hide (HJ.out.sort1 R2 K2)
           have HS2 := hide (sort_own HV2.out.r2 (by rw [List.length_map, HN.out]; omega))
           have st1 : True := trivial
           clear R2 K2 HS1))
      go_returns
      refine ⟨⟨_, _, rfl, ?_⟩, HV3.out.b⟩
      refine (?_ : IntsAt _ _ (bsP l) ∧ IntsAt _ _ (esP l))
      exact ⟨IntsAt.of_row HV3.out.r1 (by rw [bsP_len, HN.out]; omega), IntsAt.of_row HV3.out.r2 (by rw [esP_len, HN.out]; omega)⟩
end
end Go.Proofs.Ytmkeahfdbmfajaa
