/- New: the walk. -/
import Derived.Test.YtimpmgbahgganaaHpNw
import Derived.Deep.RegionLaw
namespace Go.Proofs.Ytimpmgbahgganaa
open Go.RowKit Go.Maps
attribute [local go_sem ↓] Go.wp_at_zero Go.wp_at_succ

section
variable {w : World}
/-- Between two rounds of New. -/
structure Nm (w wr : World) (fs : List (List Int)) (n j : Nat) (Y : Hh) : Prop where
  L : HLies Y wr ⟨newS n, (fs.take j).map ptrs, fun _ => none⟩ 0
  B : Y.X.B = w.heap.size
  bel : Below w.heap.size w wr
theorem nm_start {w1 w2 : World} {n : Nat} {fs : List (List Int)} (L : Lies (newX w.heap.size w) w1 (newS n) 0) (hb1 : Below w.heap.size w w1) (hb2 : Below w1.heap.size w1 w2) :
    Nm w ((w2.alloc (.map #[] 0)).alloc (.cells #[(newX w.heap.size w).p, .slice none 0 0, .map (some w2.heap.size)] 76)) fs n 0 ⟨newX w.heap.size w, w2.heap.size + 1, .slice none 0 0, [], w2.heap.size⟩ := by
  have hz1 := hb1.size
  have hz2 := hb2.size
  have L3 := ((L.below hb2).alloc (.map #[] 0)).alloc (.cells #[(newX w.heap.size w).p, .slice none 0 0, .map (some w2.heap.size)] 76)
  have hm := (World.ownsMap_made w2 Try.prog 3 heldR).alloc (.cells #[(newX w.heap.size w).p, .slice none 0 0, .map (some w2.heap.size)] 76)
  refine ⟨⟨L3, by rw [heap_new _ _ (by simp)], ⟨rfl, .inl ⟨rfl, rfl⟩⟩, fun t f hf => by simp at hf, ⟨.map [], hm, fun x => by simp [Maps.has_eq], fun a t n ho => by cases ho⟩, ?_, ⟨by simp [newX]; omega, by simp [newX]; omega⟩⟩, rfl, ?_⟩
  · rintro j (rfl | rfl | hj | ⟨v, hv, _⟩) h1
    · have := (L.own_lt h1).2; simp only at this; omega
    · have := (L.own_lt h1).2; simp only at this; omega
    · cases hj
    · simp at hv
  · exact ((hb1.trans (hb2.mono hz1)).alloc (by omega) _).alloc (by simp; omega) _
theorem take_snoc' {α : Type} {l : List α} {j : Nat} {x : α} (h : l[j]? = some x) : l.take (j + 1) = l.take j ++ [x] := by rw [List.take_add_one, h]; rfl
set_option maxHeartbeats 4000000 in
set_option maxRecDepth 20000 in
theorem gnew_ok {v : Value} {fs : List (List Int)} {n : Nat} (hn : n ≤ 65536) (R : LaysAt w v fs) (hs : soundL fs = true) : Calls Try.prog 7 #[v, .int .i64 n] w fun e w' => ∃ Y, e = .returned (.tuple #[Y.p, .int .i64 0]) ∧ Hid (HLies Y w' (newH fs n) 0 ∧ Y.X.B = w.heap.size ∧ Below w.heap.size w w') := by
  have hnew := new_any n w hn w.heap.size (Nat.le_refl _)
  have HR := hide R
  obtain ⟨ao, cap, rfl, hc⟩ := R
  have HC := hide hc
  have hl5 : fs.length ≤ 1025 ∧ ∀ f ∈ fs, f.length ≤ 4096 := by
    have h1 := hs
    unfold soundL at h1
    rw [Bool.and_eq_true, decide_eq_true_eq, List.all_eq_true] at h1
    refine ⟨h1.1, fun f hf => ?_⟩
    have h2 := h1.2 f hf
    unfold goodF at h2
    rw [Bool.and_eq_true, decide_eq_true_eq] at h2
    exact h2.1
  obtain ⟨hl, hf4⟩ := hl5
  have HF4 := hide hf4
  have hmm := @run_makeMap Try.prog
  clear hc hf4
  generalize hM : fs.length = m at *
  have HM := hide hM
  clear hM
  go_enter Try.func7, Try.ntmps7
  go_wp2_with fail
  refine hnew.mono ?_
  rintro e w1 ⟨rfl, L1, hb1⟩
  have hso := sound_any (HR.out.below hb1)
  rw [hs] at hso
  have HL1 := hide L1
  have HB1 := hide hb1
  clear hnew hs L1 hb1
  go_wp2_with fail
  refine hso.mono ?_
  rintro e w2 ⟨rfl, hb2⟩
  clear hso
  have HN0 := hide (nm_start (fs := fs) HL1.out HB1.out hb2)
  clear hb2
  have hm5 : (m : Int) ≤ 1025 := by omega
  go_wp2
  go_loopw [29] (fun ir wr => ∃ j : Nat, j ≤ m ∧ ir = .int .i64 j ∧ Hid (∃ Y, Y.H = w2.heap.size + 1 ∧ Nm w wr fs n j Y)) (fun ir _ => m - (intOf ir).toNat)
  case atStart => exact ⟨0, Nat.zero_le _, rfl, _, rfl, HN0.out⟩
  case round =>
    obtain ⟨j, hj, rfl, hr⟩ := hrel
    obtain ⟨Y, hY, N⟩ := hr.out
    by_cases hlt : j < m
    · obtain ⟨f, hf⟩ : ∃ f, fs[j]? = some f := ⟨fs[j]'(by rw [HM.out]; exact hlt), by simp⟩
      obtain ⟨g, o, u, rfl, hg, hcu, hfu⟩ := HC.out j f hf
      have hcu' : wr.cell? ⟨g, o + j, none⟩ = some u := by rw [World.cell?_of_block (a := ⟨g, o + j, none⟩) (N.bel.block g hg)]; exact hcu
      have bj : (j : Int) < (m : Int) := by omega
      have LW := (N.L.alloc (.cells #[u] 62)).drew
      have bW : Below w.heap.size w (wr.alloc (.cells #[u] 62)).drew := (N.bel.alloc N.bel.size _).drew
      have hpu := push_any LW N.B bW (by show ((fs.take j).map ptrs).length ≤ 1025; rw [List.length_map, List.length_take]; omega) (hfu.below bW) (HF4.out f (List.mem_of_getElem? hf))
      have cH : (wr.alloc (.cells #[u] 62)).cell? ⟨w2.heap.size + 1, 1, none⟩ = some Y.vt := by have := (N.L.alloc (.cells #[u] 62)).c1; rw [hY] at this; exact this
      have hHlt : w2.heap.size + 1 < wr.heap.size := by have := lt_of_block N.L.blk; rw [hY] at this; exact this
      have hYl : (((fs.take j).map ptrs).length) = j := by rw [List.length_map, List.length_take, HM.out]; omega
      have HT := hide (show (fs.take j).map ptrs ++ [ptrs f] = (fs.take (j + 1)).map ptrs by rw [take_snoc' hf]; simp)
      have HYl := hide hYl
      have HY := hide hY
      have HNB := hide N.B
      have hvt : Hid (∀ q, Y.vt.ownBlock = some q → q < wr.heap.size) := hide (fun q hq => (N.L.side_lt (.inr (.inr (.inl hq)))).2)
      have hpu2 : Calls Try.prog 26 #[u] (wr.alloc (.cells #[u] 62)).drew fun e w4 => ∃ ab nb cb, e = .returned (.slice ab nb cb) ∧ w4.cell? ⟨w2.heap.size + 1, 1, none⟩ = some Y.vt ∧ w4.cell? ⟨wr.heap.size, 0, none⟩ = some u ∧ wr.heap.size < w4.heap.size ∧ ∃ ga capa w5, (Builtin.append_ #[74, 74] 74 #[Y.vt, .slice (some ⟨w4.heap.size, 0, none⟩) 1 1]).run Try.prog (w4.alloc (.cells #[.slice ab nb cb] 65)) = .ok (.slice (some ⟨ga, 0, none⟩) (j + 1) capa) w5 ∧
          w5.frozen? ⟨w2.heap.size + 1, 1, none⟩ = false ∧ w5.cell? ⟨w2.heap.size + 1, 1, none⟩ = some Y.vt ∧ w5.cell? ⟨wr.heap.size, 0, none⟩ = some u ∧ Hid (∃ Y, Y.H = w2.heap.size + 1 ∧ Nm w (w5.setCell ⟨w2.heap.size + 1, 1, none⟩ (.slice (some ⟨ga, 0, none⟩) (j + 1) capa)) fs n (j + 1) Y) := by
        refine hpu.mono ?_
        rintro e w4 ⟨ab, nb, cb, rfl, hb4, hP⟩
        obtain ⟨ga, capa, w5, hrun, hfz, hc5, hg5, hL5, hB5⟩ := hP.out.ex
        have hz4 : wr.heap.size + 1 ≤ w4.heap.size := by have := hb4.size; simp at this; exact this
        have hblk : (wr.alloc (.cells #[u] 62)).heap[wr.heap.size]? = some (.cells #[u] 62 (0, 0)) := heap_new _ _ rfl
        have hblk4 : w4.heap[wr.heap.size]? = some (.cells #[u] 62 (0, 0)) := (hb4.block wr.heap.size (by simp)).trans hblk
        have hblk5 : w5.heap[wr.heap.size]? = some (.cells #[u] 62 (0, 0)) := by
          rw [hg5.block wr.heap.size (by simp; omega) (fun e => by have := hvt.out _ e.symm; omega), Below.heap_alloc _ _ _ (by omega)]; exact hblk4
        simp only [HYl.out] at hrun hL5 hB5
        rw [HY.out] at hfz hc5 hL5 hB5
        refine ⟨ab, nb, cb, rfl, ?_, by simp [World.cell?, hblk4], by omega, ga, capa, w5, hrun, hfz, hc5, by simp [World.cell?, hblk5], ⟨Y.X, w2.heap.size + 1, .slice (some ⟨ga, 0, none⟩) (j + 1) capa, Y.tv ++ [.slice ab nb cb], Y.bo⟩, rfl, ?_, HNB.out, hB5⟩
        · rw [World.cell?_of_block (a := ⟨w2.heap.size + 1, 1, none⟩) (hb4.block _ (by simp; omega))]; exact cH
        · rw [← HT.out]; exact hL5
      have cB : (wr.alloc (.cells #[u] 62)).cell? ⟨wr.heap.size, 0, none⟩ = some u := cell_new_sl wr u 62
      obtain ⟨au, cu, hue, _⟩ := hfu
      clear hpu LW bW N hf hcu hY hYl
      subst hue
      generalize f.length = fl at *
      go_wp2
      go_region_law (first
        | (go_simp; go_at_call 26; refine hpu2.mono ?_; rintro e w4 ⟨ab, nb, cb, rfl, d1, d2, d3, ga, capa, w5, hrun, hfz, d5, d6, hN⟩; have d4 : w2.heap.size + 1 < w4.heap.size := by omega)
        | (refine step_append_eq (by rfl) _ _ 74 (by rfl) (by rfl) (by rfl) hrun ?_))
      all_goals go_wp2
      all_goals go_roundw
      all_goals first | exact ⟨j + 1, by omega, by go_num, hN⟩ | (simp [intOf]; omega)
    · obtain rfl : j = m := by omega
      go_wp2
      go_ret2
      have hall : (fs.take j).map ptrs = fs.map ptrs := by rw [← HM.out, List.take_length]
      refine ⟨Y, by rw [show Y.p = .pointer (some ⟨w2.heap.size + 1, 0, none⟩) by unfold Hh.p; rw [hY]]; rfl, ?_, N.B, N.bel⟩
      have := N.L
      rw [hall] at this
      exact this
end
end Go.Proofs.Ytimpmgbahgganaa
