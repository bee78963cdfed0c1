/- Heap, and the simplest facts. -/
import Derived.Test.YtlbildodjnjniaaEsL
namespace Go.Proofs.Ytlbildodjnjniaa
open Go.RowKit

/-- Of the first j points those that have Alloc and are marked. -/
def heapL (ps : List Pt) (E : Nat → Bool) (j : Nat) : List Int := ((List.range j).filter fun (i : Nat) => E i && (ps[i]?.getD default).a).map fun (i : Nat) => (i : Int)
theorem heapL_succ (ps : List Pt) (E : Nat → Bool) (j : Nat) : heapL ps E (j + 1) = heapL ps E j ++ if (E j && (ps[j]?.getD default).a) = true then [(j : Int)] else [] := by
  unfold heapL
  rw [List.range_succ, List.filter_append, List.map_append]
  cases h : (E j && (ps[j]?.getD default).a) <;> simp [h]
theorem heapL_len (ps : List Pt) (E : Nat → Bool) (j : Nat) : (heapL ps E j).length ≤ j := by
  unfold heapL
  rw [List.length_map]
  exact Nat.le_trans (List.length_filter_le _ _) (by simp)
theorem heapL_eq {ps : List Pt} {E E' : Nat → Bool} {j : Nat} (h : ∀ i, i < j → E i = E' i) : heapL ps E j = heapL ps E' j := by
  induction j with
  | zero => rfl
  | succ j ih => rw [heapL_succ, heapL_succ, ih fun i hi => h i (by omega), h j (by omega)]
section
variable {w : World} {vp vf : Value} {ps : List Pt} {fs : List Fl}
theorem heap_bad (R : PtsAt w vp ps) (F : FlsAt w vf fs) (hb : faultN ps fs ≠ 0) : Calls Try.prog 15 #[vp, vf] w fun e w' => e = .returned (.tuple #[.slice none 0 0, .int .i64 (faultN ps fs)]) ∧ Below w.heap.size w w' := by
  have hs := solve_bad R F hb
  generalize faultN ps fs = c at *
  clear R F
  go_enter Try.func15, Try.ntmps15
  go_wp2_with fail
  refine hs.mono ?_
  rintro e w2 ⟨rfl, hb2⟩
  go_wp2
  go_loopg [8, 19] 0 (fun K v i wr => v = .slice none 0 0 ∧ i = .int .i64 0 ∧ wr = w2)
  case atStart => exact ⟨rfl, rfl, rfl⟩
  case round =>
    obtain ⟨rfl, rfl, rfl⟩ := hrel
    go_wp2
    go_ret2
    exact ⟨rfl, hb2⟩
set_option maxHeartbeats 1000000 in
theorem heap_ok (R : PtsAt w vp ps) (F : FlsAt w vf fs) (G : Good ps fs) : Calls Try.prog 15 #[vp, vf] w fun e w' => ∃ (v : Value) (E : Nat → Bool), e = .returned (.tuple #[v, .int .i64 0]) ∧ Hid (w'.ownsRow w.heap.size 3 1 v (heapL ps E ps.length).length (ints (heapL ps E ps.length)) ∧ ∀ x, x < ps.length → (E x = true ↔ Esc ps fs x)) ∧ Below w.heap.size w w' := by
  have hs := solve_ok R F G
  have hn2 := G.pl
  obtain ⟨ao, cap, rfl, hpt⟩ := R
  have HPT := hide hpt
  clear F G hpt
  generalize hn : ps.length = n at *
  have HN := hide hn
  have bn : (n : Int) ≤ 512 := by omega
  clear hn
  go_enter Try.func15, Try.ntmps15
  go_wp2_with fail
  refine hs.mono ?_
  rintro e w2 ⟨v, E, rfl, HV, hb2⟩
  obtain ⟨ae, ce, hv, hbc⟩ := HV.out.1
  rw [List.length_map, List.length_range] at hv
  subst hv
  have HBC := hide hbc
  have HE := hide HV.out.2
  have HB2 := hide hb2
  clear hbc HV hb2 hs
  go_wp2
  go_loopg [8, 19] n (fun K v i wr => ∃ j : Nat, i = .int .i64 j ∧ j ≤ n ∧ n - j ≤ K ∧ Hid (wr.ownsRow w2.heap.size 3 1 v (heapL ps E j).length (ints (heapL ps E j)) ∧ Below w2.heap.size w2 wr))
  case atStart => exact ⟨0, rfl, Nat.zero_le _, Nat.le_refl _, ⟨rfl, .inl ⟨rfl, rfl⟩⟩, Below.refl _ _⟩
  case round =>
    obtain ⟨j, rfl, hj, hk, HJ⟩ := hrel
    obtain ⟨av, cv, hv⟩ := row_form HJ.out.1
    subst hv
    by_cases hlt : j < n
    · obtain ⟨g, o, hao, hg, c0⟩ := HBC.out j (E j) (by rw [List.getElem?_map, List.getElem?_range hlt]; rfl)
      subst hao
      rw [← HJ.out.2.cell (p := ⟨g, o + j, none⟩) hg] at c0
      obtain ⟨p, hp⟩ : ∃ p, ps[j]? = some p := ⟨ps[j]'(by rw [HN.out]; exact hlt), by simp⟩
      obtain ⟨g2, o2, hao2, hg2, _, c1⟩ := HPT.out j p hp
      subst hao2
      have hbw := HB2.out.trans (HJ.out.2.mono HB2.out.size)
      rw [← hbw.cell (p := ⟨g2, o2 + j * 2 + 1, none⟩) hg2] at c1
      have hs := heapL_succ ps E j
      rw [hp, Option.getD_some] at hs
      have bj : (j : Int) < (n : Int) := by omega
      have hal := heapL_len ps E j
      obtain ⟨ej, hej⟩ : ∃ b, E j = b := ⟨_, rfl⟩
      obtain ⟨pa, hpa⟩ : ∃ b, p.a = b := ⟨_, rfl⟩
      rw [hej, hpa] at hs
      rw [hej] at c0
      rw [hpa] at c1
      clear hbw hp hej hpa
      cases hx : (ej && pa) with
      | true =>
        rw [hx, if_pos rfl] at hs
        rw [Bool.and_eq_true] at hx
        obtain ⟨rfl, rfl⟩ := hx
        obtain ⟨W3, hW3⟩ : ∃ W3, wr.alloc (.cells #[.int .i64 (j : Int)] 3) = W3 := ⟨_, rfl⟩
        have hb3 : Below wr.heap.size wr W3 := by rw [← hW3]; exact (Below.refl _ _).alloc (Nat.le_refl _) _
        have nb3 : W3.heap[wr.heap.size]? = some (.cells #[.int .i64 (j : Int)] 3 (0, 0)) := by rw [← hW3]; exact heap_new _ _ rfl
        have hb23 := HJ.out.2.trans (hb3.mono HJ.out.2.size)
        obtain ⟨ga, ca, w4, hrun, hown, hgrow, hat, hlt4⟩ := run_appI (C := w2.heap.size) (ownsRow_keep (w' := W3) HJ.out.1 fun g hg => hb3.block g (HJ.out.1.lt g hg).2) nb3 (by omega) hb23.size
        have hb24 : Below w2.heap.size w2 w4 := hb23.grown hgrow hb23.size (fun q hq => (HJ.out.1.lt q hq).1)
        have HJ4 := hide (show w4.ownsRow w2.heap.size 3 1 (.slice (some ⟨ga, 0, none⟩) ((heapL ps E j).length + 1) ca) (heapL ps E (j + 1)).length (ints (heapL ps E (j + 1))) ∧ Below w2.heap.size w2 w4 from by
          refine ⟨?_, hb24⟩
          rw [hs, List.length_append, show ints (heapL ps E j ++ [(j : Int)]) = ints (heapL ps E j) ++ [.int .i64 (j : Int)] by simp [ints]]
          exact hown)
        clear hb3 nb3 hb23 hown hgrow hat hb24 hs hal
        go_wp2_with (at_builtin; refine wpList_append_eq rfl _ _ 24 rfl rfl rfl hrun ?_)
        go_roundg (n - (j + 1))
        case measure => omega
        case rel => exact ⟨j + 1, by go_num, by omega, Nat.le_refl _, HJ4⟩
      | false =>
        rw [hx, if_neg (by simp), List.append_nil] at hs
        have HJ4 := HJ
        rw [← hs] at HJ4
        have hle : (heapL ps E j).length = (heapL ps E (j + 1)).length := by rw [hs]
        clear hs hal HJ
        cases ej with
        | false =>
          go_wp2
          go_roundg (n - (j + 1))
          case measure => omega
          case rel => exact ⟨j + 1, by go_num, by omega, Nat.le_refl _, by rw [hle]; exact HJ4⟩
        | true =>
          rw [Bool.true_and] at hx
          subst hx
          go_wp2
          go_roundg (n - (j + 1))
          case measure => omega
          case rel => exact ⟨j + 1, by go_num, by omega, Nat.le_refl _, by rw [hle]; exact HJ4⟩
    · obtain rfl : j = n := by omega
      go_wp2
      go_ret2
      exact ⟨.slice av (heapL ps E j).length cv, E, rfl, hide ⟨ownsRow_base HJ.out.1 HB2.out.size, HE.out⟩, HB2.out.trans (HJ.out.2.mono HB2.out.size)⟩
end
/-- The simplest graph's flow, and what escapes in it. -/
theorem good1 : Good [⟨1, true⟩] [⟨-1, 0, -1⟩] := fault_ok.1 (by decide)
theorem esc1 : Esc [⟨1, true⟩] [⟨-1, 0, -1⟩] 0 := by
  refine .heap ?_
  have := Way.step (fs := [⟨-1, 0, -1⟩]) (B := 51200) (root := -1) (f := ⟨-1, 0, -1⟩) (d := 0) (by simp) .root
  exact this
abbrev oP : Obj := .cells #[.int .i64 1, .bool true] 40
abbrev oF : Obj := .cells #[.int .i64 (-1), .int .i64 0, .int .i64 (-1)] 42
theorem awake_heap (w : World) : Calls Try.prog 15 #[.slice (some ⟨w.heap.size, 0, none⟩) 1 1, .slice (some ⟨w.heap.size + 1, 0, none⟩) 1 1] ((w.alloc oP).alloc oF) fun e w' => (∃ (g cp : Nat), e = .returned (.tuple #[.slice (some ⟨g, 0, none⟩) 1 cp, .int .i64 0]) ∧ w'.cell? ⟨g, 0, none⟩ = some (.int .i64 0)) ∧ Below w.heap.size w w' := by
  have hp : ((w.alloc oP).alloc oF).heap[w.heap.size]? = some oP := (Below.heap_alloc _ _ _ (by simp)).trans (heap_new _ _ rfl)
  have hf : ((w.alloc oP).alloc oF).heap[w.heap.size + 1]? = some oF := heap_new _ _ (by simp)
  have R : PtsAt ((w.alloc oP).alloc oF) (.slice (some ⟨w.heap.size, 0, none⟩) 1 1) [⟨1, true⟩] := ⟨_, _, rfl, fun j p hj => by
    cases j with
    | zero => simp at hj; subst hj; exact ⟨_, _, rfl, lt_of_block hp, cell_of hp rfl, cell_of hp rfl⟩
    | succ j => simp at hj⟩
  have F : FlsAt ((w.alloc oP).alloc oF) (.slice (some ⟨w.heap.size + 1, 0, none⟩) 1 1) [⟨-1, 0, -1⟩] := ⟨_, _, rfl, fun j p hj => by
    cases j with
    | zero => simp at hj; subst hj; exact ⟨_, _, rfl, lt_of_block hf, cell_of hf rfl, cell_of hf rfl, cell_of hf rfl⟩
    | succ j => simp at hj⟩
  refine (heap_ok R F good1).mono ?_
  rintro e w' ⟨v, E, rfl, H, hb⟩
  have h0 : E 0 = true := (H.out.2 0 (by simp)).2 esc1
  have hl : heapL [⟨1, true⟩] E 1 = [0] := by
    rw [heapL_succ]
    simp [heapL, h0]
  have ho := H.out.1
  rw [show ([⟨1, true⟩] : List Pt).length = 1 from rfl, hl] at ho
  obtain ⟨g, cp, hv, hc, _⟩ := row_cell ho (j := 0) (u := .int .i64 0) rfl
  refine ⟨⟨g, cp, by rw [hv]; rfl, hc⟩, ?_⟩
  exact (((Below.refl w.heap.size w).alloc (Nat.le_refl _) oP).alloc (by simp) oF).trans (hb.mono (by simp; omega))
set_option maxHeartbeats 1000000 in
theorem awake_any (w : World) : Calls Try.prog 10 #[] w fun e w' => e = .returned (.bool true) ∧ Below w.heap.size w w' := by
  have hh := awake_heap w
  go_enter Try.func10, Try.ntmps10
  go_wp2_with fail
  refine hh.mono ?_
  rintro e w2 ⟨⟨g, cp, rfl, hc⟩, hb⟩
  go_wp2
  go_ret
  exact ⟨rfl, hb⟩
end Go.Proofs.Ytlbildodjnjniaa
