/- The law ArenaAgain. -/
import Derived.Test.YteeadmkljcjjkaaArO
import Derived.OpenShut
namespace Go.Proofs.Yteeadmkljcjjkaa
open Go.RowKit Go.Maps

theorem hold_off {ps : List Pc} {b e i : Nat} {p : Pc} {x : Int} (h : Row b ps e) (hp : ps[i]? = some p) (h1 : (p.a : Int) ≤ x) (h2 : x < p.a + p.c) (h3 : (p.n : Int) ≤ x - p.a) : hold ps x = none := by
  have hc := h.cnt_at hp h1 h2
  unfold hold
  rw [hc, Nat.add_sub_cancel, hp]
  simp only
  rw [if_neg (by omega)]
theorem beg_off {ps : List Pc} {x : Int} (h : hold ps x = none) : beg ps x = none := by unfold beg; rw [h]
/-- The word of a piece right behind its Alloc. -/
theorem Given.zero {s s' : As} {n x : Nat} (G : Given s n x s') (j : Nat) (hj : j < n) : getP s' ((x + j : Nat) : Int) = (0, 0) := by
  obtain ⟨i, hp, _, _⟩ := G.piece
  have hr := G.inv.row.at hp
  have hw := G.within
  have hl := G.len
  have hf := G.inv.fits
  unfold getP
  rw [hold_mk G.inv.row hp (by simp only; omega) (by simp only; omega)]
  simp only [Int.toNat_natCast]
  rw [G.ws, clr_get (by simp only at hr; omega), if_pos (by omega)]
  rfl
theorem freed_any (b : Bool) (w : World) : Calls Try.prog 28 #[.bool b] w fun e w' => e = .returned (.int .i64 (if b then 0 else 6)) ∧ w' = w := by
  cases b
  · go_enter Try.func28, Try.ntmps28
    go_wp2
    go_ret
    exact ⟨rfl, rfl⟩
  · go_enter Try.func28, Try.ntmps28
    go_wp2
    go_ret
    exact ⟨rfl, rfl⟩
def ag1 (x : Nat) : As := markS (pushS (newS 3000) (clsN x)) 1 x
theorem cls_100 {x : Nat} (h1 : 1 ≤ x) (h2 : x ≤ 100) : 1 ≤ clsN x ∧ clsN x ≤ 128 := by
  have := (List.all_eq_true.1 (show (List.range 101).all (fun n => n == 0 || (decide (1 ≤ clsN n) && decide (clsN n ≤ 128))) = true by decide +kernel)) x (by simp; omega)
  simp at this; omega
theorem ag_alloc {x : Nat} (h1 : 1 ≤ x) (h2 : x ≤ 100) : allocS (newS 3000) x = some (1, ag1 x) := by
  have := cls_100 h1 h2
  unfold allocS
  rw [show (newS 3000).bk (clsN x) = [] from rfl]
  simp only [List.getLast?_nil]
  rw [if_pos (by rw [show (newS 3000).ws.length = 3000 from List.length_replicate, show (newS 3000).gv = 0 from rfl]; omega)]
  rfl
theorem ag_ps (x : Nat) : (ag1 x).ps = [⟨1, clsN x, x⟩] := by
  show mark [⟨0 + 1, clsN x, 0⟩] (cnt [⟨0 + 1, clsN x, 0⟩] ((1 : Nat) : Int) - 1) x = _
  rfl
/-- The second Alloc. -/
theorem ag_second {s : As} {c x y : Nat} (hc : c = clsN x) (h1 : 1 ≤ y) (h2 : y ≤ 100) (hc2 : c ≤ 128) (hbk : s.bk = upd (fun _ => []) c [1]) (hgv : s.gv = c) (hl : s.ws.length = 3000) :
    ∃ q s', allocS s y = some (q, s') ∧ ((c = clsN y ∧ q = 1) ∨ (c ≠ clsN y ∧ q = c + 1)) := by
  have := cls_100 h1 h2
  by_cases h : c = clsN y
  · refine ⟨1, markS (popS s (clsN y)) 1 y, ?_, .inl ⟨h, rfl⟩⟩
    unfold allocS
    rw [hbk, ← h, upd_same]
    rfl
  · refine ⟨c + 1, markS (pushS s (clsN y)) (c + 1) y, ?_, .inr ⟨h, rfl⟩⟩
    unfold allocS
    rw [hbk, upd_other _ _ (Ne.symm h)]
    simp only [List.getLast?_nil]
    rw [if_pos (by omega), hgv]
set_option maxHeartbeats 2000000 in
theorem again_law (n m : Nat) (hn : n ≤ 255) (hm : m ≤ 255) (w : World) : Calls Try.prog 7 #[.int .u8 n, .int .u8 m] w fun e w' => e = .returned (.bool true) ∧ Below w.heap.size w w' := by
  have n1 := new_any 3000 w (by decide) w.heap.size (Nat.le_refl _)
  have i0 : Inv (newS 3000) := inv_new (by decide)
  obtain ⟨x, hx⟩ : ∃ x, x = n % 100 + 1 := ⟨_, rfl⟩
  obtain ⟨y, hy⟩ : ∃ y, y = m % 100 + 1 := ⟨_, rfl⟩
  have x1 : 1 ≤ x := by omega
  have x2 : x ≤ 100 := by omega
  have y1 : 1 ≤ y := by omega
  have y2 : y ≤ 100 := by omega
  have hxv : (n : Int) % 100 + 1 = (x : Int) := by omega
  have hyv : (m : Int) % 100 + 1 = (y : Int) := by omega
  have G1 := alloc_given i0 x1 (by omega) (ag_alloc x1 x2)
  have HX := hide hxv
  have HY := hide hyv
  clear hx hy hxv hyv
  go_enter Try.func7, Try.ntmps7
  go_wp2_with fail
  refine n1.mono ?_
  rintro e w1 ⟨rfl, L1, b1⟩
  clear n1
  go_wp2_with fail
  refine (awake_any w1).mono ?_
  rintro e w2 ⟨rfl, b2⟩
  have L2 := L1.below b2
  have a1 := alloc_any L2 i0 x (by decide)
  rw [Int.toNat_natCast] at a1
  have c100 := cls_100 x1 x2
  go_wp2_with fail
  rw [HX.out, HY.out]
  refine a1.mono ?_
  rintro e w3 ⟨X3, S3, h⟩
  clear a1
  obtain ⟨rfl, L3⟩ : e = two (1, 0) ∧ Lies X3 w3 (ag1 x) 1 := by
    rcases h with ⟨h, _⟩ | ⟨_, h, _⟩ | ⟨q, s', _, h, he, hl⟩
    · omega
    · rw [ag_alloc x1 x2] at h; cases h
    · rw [ag_alloc x1 x2] at h; cases h; exact ⟨he, hl⟩
  clear h
  have B3 := S3.below L2 (b1.trans (b2.mono b1.size))
  have A3 : X3.A = (newX w.heap.size w).A := S3.A
  have BB3 : X3.B = w.heap.size := S3.B
  have hp1 : (ag1 x).ps[0]? = some ⟨1, clsN x, x⟩ := by rw [ag_ps]; rfl
  have hh1 : hold (ag1 x).ps 1 = some 0 := hold_mk G1.inv.row hp1 (by simp) (by simp only; omega)
  -- Set
  have s1 := set_any 1 5 w3 L3 G1.inv (by decide)
  unfold setP at s1
  rw [hh1, show X3.p = (newX w.heap.size w).p by simp [Wh.p, A3]] at s1
  clear S3 L1 L2 b2 b1
  go_wp2_with fail
  refine s1.mono ?_
  rintro e w4 ⟨rfl, L4, S4⟩
  clear s1
  have I4 := G1.inv.set (Int.toNat 1) 5
  have B4 := S4.below L3 (by rw [BB3]; exact B3)
  rw [BB3] at B4
  have hp4 : (setS (ag1 x) (Int.toNat 1) 5).ps[0]? = some ⟨1, clsN x, x⟩ := hp1
  -- Free
  have f1 := free_some L4 I4 hp4 (by show 0 < x; omega) (by decide)
  rw [show X3.p = (newX w.heap.size w).p by simp [Wh.p, A3], show (((1 : Nat) : Int)) = 1 from rfl] at f1
  go_wp2_with fail
  refine f1.mono ?_
  rintro e w5 ⟨rfl, X5, L5, S5⟩
  clear f1
  have I5 := I4.free hp4 (by show 0 < x; omega)
  have B5 := S5.below L4 (by rw [BB3]; exact B4)
  have A5 : X5.A = (newX w.heap.size w).A := S5.A.trans A3
  have BB5 : X5.B = w.heap.size := S5.B.trans BB3
  rw [BB3] at B5
  clear S5 S4 L4 L3
  -- the second Alloc
  obtain ⟨q, s6, ha6, hq⟩ := ag_second (s := freeS (setS (ag1 x) (Int.toNat 1) 5) 0 ⟨1, clsN x, x⟩) (c := clsN x) (x := x) (y := y) rfl y1 y2 c100.2 rfl (by show 0 + clsN x = clsN x; omega) (by
    have h1 := G1.len
    rw [show (newS 3000).ws.length = 3000 from List.length_replicate] at h1
    show ((ag1 x).ws.set _ _).length = 3000
    rw [List.length_set]; exact h1)
  have G6 := alloc_given I5 y1 (by omega) ha6
  have a2 := alloc_any L5 I5 y (by decide)
  rw [Int.toNat_natCast, show X5.p = (newX w.heap.size w).p by simp [Wh.p, A5]] at a2
  have c100y := cls_100 y1 y2
  go_wp2_with fail
  refine a2.mono ?_
  rintro e w6 ⟨X6, S6, h⟩
  clear a2
  obtain ⟨rfl, L6⟩ : e = two ((q : Int), 0) ∧ Lies X6 w6 s6 3 := by
    rcases h with ⟨h, _⟩ | ⟨_, h, _⟩ | ⟨q', s', _, h, he, hl⟩
    · omega
    · rw [ha6] at h; cases h
    · rw [ha6] at h; cases h; exact ⟨he, hl⟩
  clear h
  have B6 := S6.below L5 (by rw [BB5]; exact B5)
  rw [BB5] at B6
  have A6 : X6.A = (newX w.heap.size w).A := S6.A.trans A5
  have BB6 : X6.B = w.heap.size := S6.B.trans BB5
  -- Get
  have g1 := get_any q w6 L6 G6.inv (by have := G6.within; have := G6.inv.fits; have := G6.inv.small; omega)
  rw [show getP s6 (q : Int) = (0, 0) from G6.zero 0 (by omega), show X6.p = (newX w.heap.size w).p by simp [Wh.p, A6]] at g1
  have hrow6 := G6.inv.row
  -- the last Free
  have fr : ∀ b : Bool, b = decide (clsN x = clsN y) → beg s6.ps 1 = if b then beg s6.ps 1 else none := by
    intro b hb
    cases b with
    | true => rfl
    | false =>
      have hne : clsN x ≠ clsN y := by simpa using hb.symm
      obtain ⟨i, _, h2, h3⟩ := G6.piece
      have hps5 : (freeS (setS (ag1 x) (Int.toNat 1) 5) 0 ⟨1, clsN x, x⟩).ps = [⟨1, clsN x, 0⟩] := by
        show mark (ag1 x).ps 0 0 = _
        rw [ag_ps]; rfl
      have hi : 0 ≠ i := by
        intro e
        subst e
        rw [hps5] at h2
        rcases h2 with h2 | ⟨h2, _⟩
        · simp at h2; exact hne h2.2
        · simp at h2
      have h4 := h3 0 hi
      rw [hps5] at h4
      exact beg_off (hold_off hrow6 (p := ⟨1, clsN x, 0⟩) h4 (by simp) (by simp only; omega) (by simp))
  have frs : clsN x = clsN y → beg s6.ps 1 ≠ none := by
    intro he hno
    obtain ⟨i, hp, _, _⟩ := G6.piece
    have hq1 : q = 1 := by rcases hq with h | h; exact h.2; exact absurd he h.1
    have := beg_mk hrow6 hp (by show 0 < y; omega)
    rw [show (((⟨q, clsN y, y⟩ : Pc).a : Nat) : Int) = 1 by show (q : Int) = 1; omega, hno] at this
    cases this
  have I6 := G6.inv
  have f2 := fun w7 (L7 : Lies X6 w7 s6 3) => free_any L7 I6 1 (by decide) (by decide)
  rw [show X6.p = (newX w.heap.size w).p by simp [Wh.p, A6]] at f2
  have LH := hide L6
  clear S6 L5 L6 G6 G1 hp1 hh1 hp4 ha6 hrow6 I4 I5 i0
  go_wp2_with fail
  refine g1.mono ?_
  rintro e w7 ⟨rfl, b7⟩
  clear g1
  have cx := class_any x w7
  have cy := class_any y w7
  rw [Int.toNat_natCast] at cx cy
  have F2 := hide (f2 w7 (LH.out.below b7))
  have FR := hide fr
  have FS := hide frs
  clear f2 fr frs
  by_cases hcc : clsN x = clsN y
  · have hq1 : q = 1 := by rcases hq with h | h; exact h.2; exact absurd hcc h.1
    subst hq1
    rw [hcc] at cx
    have fs := FS.out hcc
    clear hcc hq FR FS
    generalize clsN y = cyv at *
    go_wp2_with fail
    refine cx.mono ?_
    rintro e w8 ⟨rfl, rfl⟩
    go_wp2_with fail
    refine cy.mono ?_
    rintro e w9 ⟨rfl, rfl⟩
    go_wp2_with fail
    refine F2.out.mono ?_
    rintro e w10 ⟨X7, S7, h⟩
    obtain rfl : e = .returned (.int .i64 0) := by
      rcases h with ⟨h, _⟩ | ⟨_, _, _, _, _, _, h, _⟩
      · exact absurd h fs
      · exact h
    have B10 := S7.below (LH.out.below b7) (by rw [BB6]; exact B6.trans (b7.mono B6.size))
    rw [BB6] at B10
    go_wp2_with fail
    refine (freed_any true _).mono ?_
    rintro e w11 ⟨rfl, rfl⟩
    go_wp2
    go_ret
    exact ⟨rfl, B10⟩
  · have hq1 : q = clsN x + 1 := by rcases hq with h | h; exact absurd h.1 hcc; exact h.2
    have d1 : ((clsN x : Int) == (clsN y : Int)) = false := by simp; omega
    have d2 : ((q : Int) == 1) = false := by simp; omega
    have fno := FR.out false (by simpa using hcc)
    simp only [Bool.false_eq_true, if_false] at fno
    clear hcc hq FR FS hq1
    generalize clsN y = cyv at *
    generalize clsN x = cxv at *
    go_wp2_with fail
    refine cx.mono ?_
    rintro e w8 ⟨rfl, rfl⟩
    go_wp2_with fail
    refine cy.mono ?_
    rintro e w9 ⟨rfl, rfl⟩
    go_wp2_with fail
    refine F2.out.mono ?_
    rintro e w10 ⟨X7, S7, h⟩
    obtain rfl : e = .returned (.int .i64 6) := by
      rcases h with ⟨_, h, _⟩ | ⟨_, _, h, _⟩
      · exact h
      · rw [fno] at h; cases h
    have B10 := S7.below (LH.out.below b7) (by rw [BB6]; exact B6.trans (b7.mono B6.size))
    rw [BB6] at B10
    go_wp2_with fail
    refine (freed_any false _).mono ?_
    rintro e w11 ⟨rfl, rfl⟩
    go_wp2
    go_ret
    exact ⟨rfl, B10⟩
end Go.Proofs.Yteeadmkljcjjkaa
