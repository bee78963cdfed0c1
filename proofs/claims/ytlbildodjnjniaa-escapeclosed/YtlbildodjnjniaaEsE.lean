/- graphOf: the walk. -/
import Derived.Test.YtlbildodjnjniaaEsD
namespace Go.Proofs.Ytlbildodjnjniaa
open Go.RowKit
set_option maxHeartbeats 2000000 in
theorem graphOf_any {w : World} {vp vf : Value} {ps : List Pt} {fs : List Fl} (R : PtsAt w vp ps) (F : FlsAt w vf fs) (G : Good ps fs) : Calls Try.prog 19 #[vp, vf] w fun e w' => (∃ v, e = .returned v ∧ GrAt w' v ps.length fs) ∧ Below w.heap.size w w' := by
  have b1 := G.pl
  have b2 := G.fl
  have hsn := G.snd
  obtain ⟨ao, cap, rfl, _⟩ := R
  obtain ⟨bo, cbp, rfl, F2⟩ := F
  have HF := hide F2
  have HG := hide hsn
  clear F2 G hsn
  generalize hn : ps.length = n at *
  generalize hm : fs.length = m at *
  have HM := hide hm
  have hmk := run_graph w n (by omega)
  have M0 := hide (Gb.new (w0 := w) (n := n) (Below.refl _ w))
  have c1 : (n : Int) ≤ 512 := by omega
  have c2 : (m : Int) ≤ 20000 := by omega
  clear hn hm
  go_enter Try.func19, Try.ntmps19
  go_wp2_with (go_at_call 26; refine (place_any _ (by omega) (by omega)).mono ?_; rintro e w2 ⟨rfl, rfl⟩)
  obtain ⟨W1, hW1⟩ : ∃ W1, w.alloc (.cells (reps (n + 1) (.slice none 0 0)) 57) = W1 := ⟨_, rfl⟩
  rw [hW1] at M0 ⊢
  clear hW1 hmk
  go_wp2
  go_loopw [15] (fun i wr => ∃ j : Nat, j ≤ m ∧ i = .int .i64 j ∧ ∃ f, Hid (Gb w wr w.heap.size n f (fs.take j))) (fun i _ => m - (intOf i).toNat)
  case atStart => exact ⟨0, Nat.zero_le _, rfl, _, M0⟩
  case round =>
    obtain ⟨j, hj, rfl, f, HJ⟩ := hrel
    by_cases hlt : j < m
    · obtain ⟨fl, hfl⟩ : ∃ fl, fs[j]? = some fl := ⟨fs[j]'(by rw [HM.out]; exact hlt), by simp⟩
      obtain ⟨g, o, rfl, hg, q0, q1, q2⟩ := HF.out j fl hfl
      rw [← HJ.out.bel.cell (p := ⟨g, o + j * 3, none⟩) hg] at q0
      rw [← HJ.out.bel.cell (p := ⟨g, o + j * 3 + 1, none⟩) hg] at q1
      rw [← HJ.out.bel.cell (p := ⟨g, o + j * 3 + 2, none⟩) hg] at q2
      obtain ⟨s1, s2, s3, s4, s5, s6⟩ := HG.out fl (List.mem_of_getElem? hfl)
      have bj : (j : Int) < (m : Int) := by omega
      obtain ⟨t, ht⟩ : ∃ t, pl fl.to = t := ⟨_, rfl⟩
      have et : fl.to + 1 = (t : Int) := by unfold pl at ht; omega
      have ef : fl.fr + 1 = ((pl fl.fr : Nat) : Int) := by unfold pl; omega
      have htn : t ≤ n := by omega
      have btn : (t : Int) < (n : Int) + 1 := by omega
      have hts : fs.take (j + 1) = fs.take j ++ [fl] := by rw [List.take_add_one, hfl]; rfl
      -- the flow's box
      obtain ⟨W2, hW2⟩ : ∃ W2, wr.alloc (.cells #[.int .i64 fl.to, .int .i64 fl.fr, .int .i64 fl.rf] 42) = W2 := ⟨_, rfl⟩
      have hb2 : Below wr.heap.size wr W2 := by rw [← hW2]; exact (Below.refl _ _).alloc (Nat.le_refl _) _
      have bx : W2.heap[wr.heap.size]? = some (.cells #[.int .i64 fl.to, .int .i64 fl.fr, .int .i64 fl.rf] 42 (0, 0)) := by rw [← hW2]; exact heap_new _ _ rfl
      have z2 : W2.heap.size = wr.heap.size + 1 := by rw [← hW2]; simp
      have M2 := hide (HJ.out.under hb2)
      have k0 := cell_of bx (o := 0) rfl
      have k1 := cell_of bx (o := 1) rfl
      have k2 := cell_of bx (o := 2) rfl
      obtain ⟨gc, gf, gl⟩ := M2.out.cell htn
      -- the row's box, the append
      obtain ⟨W3, hW3⟩ : ∃ W3, W2.alloc (.cells #[.int .i64 ((pl fl.fr : Nat) : Int), .int .i64 fl.rf] 59) = W3 := ⟨_, rfl⟩
      have hb3 : Below W2.heap.size W2 W3 := by rw [← hW3]; exact (Below.refl _ _).alloc (Nat.le_refl _) _
      have nb3 : W3.heap[W2.heap.size]? = some (.cells #[.int .i64 ((pl fl.fr : Nat) : Int), .int .i64 fl.rf] 59 (0, 0)) := by rw [← hW3]; exact heap_new _ _ rfl
      have z3 : W3.heap.size = W2.heap.size + 1 := by rw [← hW3]; simp
      obtain ⟨gc3, gf3, _⟩ := (M2.out.under hb3).cell htn
      have M3 := (M2.out.under hb3).under (below_drewN (Below.refl _ W3) 1)
      obtain ⟨ga, ca, w4, hrun, d0, d1, d2, hkeep, M4⟩ := M3.push htn ht (b := W2.heap.size) nb3 (by rw [List.length_take]; omega)
      have M5 := hide M4
      rw [← hts] at M5
      obtain ⟨ao', cp', hft⟩ := row_form (M2.out.rows t htn)
      have HRUN := hide hrun
      have HK := hide hkeep
      have wt1 : IntKind.i64.wrap (fl.to + 1) = (t : Int) := by rw [IntKind.wrap_i64]; omega
      clear hrun hkeep M3 M4 hts HJ hb2 hb3
      have p1 := place_any (w := W2) fl.to (by omega) (by omega)
      rw [et] at p1
      have p2 := place_any (w := W2.drew) fl.fr (by omega) (by omega)
      rw [ef] at p2
      rw [hft] at gc gc3 HRUN d0
      rw [z2] at HRUN
      go_wp2_with (go_at_call 26; refine p1.mono ?_; rintro e w2 ⟨rfl, rfl⟩)
      go_region_law (first
        | (go_simp; go_at_call 26; refine p2.mono ?_; rintro e w2 ⟨rfl, rfl⟩)
        | (refine step_append_eq (by rfl) _ _ 57 (by rfl) (by rfl) (by rfl) HRUN.out ?_))
      all_goals
        go_wp2
        go_roundw
        case rel => exact ⟨j + 1, by omega, by go_num, _, M5⟩
        case measure => simp [intOf]; omega
    · obtain rfl : j = m := by omega
      rw [List.take_of_length_le (by rw [HM.out]; exact Nat.le_refl _)] at HJ
      go_wp2
      go_ret
      exact ⟨⟨_, rfl, HJ.out.gr⟩, HJ.out.bel⟩
end Go.Proofs.Ytlbildodjnjniaa
