/- The law ArenaPlays. -/
import Derived.Test.YteeadmkljcjjkaaArRs
namespace Go.Proofs.Yteeadmkljcjjkaa
open Go.RowKit Go.Maps

/-- A script that lies in w. -/
def Scr (w : World) (v : Value) (l : List (Int × Int × Int)) : Prop := ∃ ao cap, v = .slice ao l.length cap ∧ ∀ (j : Nat) (u : Int × Int × Int), l[j]? = some u → u.2.1 ≤ 9223372036854775807 ∧ ∃ g o, ao = some ⟨g, o, none⟩ ∧ g < w.heap.size ∧ w.cell? ⟨g, o + j * 3, none⟩ = some (.int .i64 u.1) ∧ w.cell? ⟨g, o + j * 3 + 1, none⟩ = some (.int .i64 u.2.1) ∧ w.cell? ⟨g, o + j * 3 + 2, none⟩ = some (.int .i64 u.2.2)
/-- Ahead of the round i. -/
structure Rnd (w0 w : World) (P : Value) (b : Nat) (i : Value) : Prop where
  ex : ∃ (X : Wh) (s : As) (r : Rs) (vp vs : Value) (j : Nat), i = .int .i64 j ∧ j ≤ 300 ∧ Hid (X.p = P) ∧ Hid (Two w0 w X s r vp vs j b) ∧ Hid (Inv s) ∧ Hid (Sim s r) ∧ Hid (r.fd ≤ j)
/-- The two Allocs say the same. -/
def AllocPair : Prop := ∀ {w0 w : World} {X : Wh} {s : As} {r : Rs} {vp vs : Value} {k b : Nat}, Two w0 w X s r vp vs k b → Inv s → Sim s r → r.fd ≤ k → k < 1000 → ∀ n : Int,
    Calls Try.prog 11 #[X.p, .int .i64 n] w fun e w1 => ∃ (y f : Int) (X' : Wh) (s' : As), e = two (y, f) ∧ Hid (Kept X w w1) ∧ Hid (Two w0 w1 X' s' r vp vs (k + 1) b) ∧ Hid (X'.p = X.p) ∧ Hid (Calls Try.prog 12 #[rv r vp vs, .int .i64 n] w1 fun e2 w2 => ∃ r' vp' vs', e2 = .returned (.tuple #[.int .i64 y, .int .i64 f, rv r' vp' vs']) ∧ Hid (w2.heap[b]? = w1.heap[b]?) ∧ Hid (Two w0 (sto w2 b r' vp' vs') X' s' r' vp' vs' (k + 1) b ∧ Inv s' ∧ Sim s' r' ∧ r'.fd ≤ k + 1))
theorem op_cells {w : World} {b : Nat} {v0 v1 v2 : Value} {t : TypeId} (h : w.heap[b]? = some (.cells #[v0, v1, v2] t (0, 0))) :
    w.cell? ⟨b, 0, none⟩ = some v0 ∧ w.cell? ⟨b, 1, none⟩ = some v1 ∧ w.cell? ⟨b, 2, none⟩ = some v2 := by
  refine ⟨?_, ?_, ?_⟩ <;> simp [World.cell?, h]
set_option maxRecDepth 100000 in
set_option maxHeartbeats 40000000 in
theorem plays_law (hap : AllocPair) (n : Int) (v : Value) (l : List (Int × Int × Int)) (w : World) (hs : Scr w v l) : Calls Try.prog 3 #[.int .i64 n, v] w fun e w' => e = .returned (.bool true) ∧ Below w.heap.size w w' := by
  obtain ⟨ao, cap, rfl, hcell⟩ := hs
  have HC := hide hcell
  clear hcell
  generalize hN : l.length = N at *
  have HN := hide hN
  clear hN
  by_cases hbad : n < 0 ∨ 65536 < n
  · have n1 := new_err n w hbad
    by_cases hneg : n < 0
    · have d1 : decide (3000 < n) = false := by simp; omega
      have d2 : decide (0 ≤ n) = false := by simp; omega
      have d3 : decide (n < 0) = true := by simp; omega
      go_enter Try.func3, Try.ntmps3
      go_wp2_with fail
      refine n1.mono ?_
      rintro e w1 ⟨rfl, rfl⟩
      go_wp2_with fail
      refine (awake_any w1).mono ?_
      rintro e w2 ⟨rfl, b2⟩
      go_wp2
      go_ret
      exact ⟨rfl, b2⟩
    · have d1 : decide (3000 < n) = true := by simp; omega
      have d2 : decide (0 ≤ n) = true := by simp; omega
      have d3 : decide (n ≤ 65536) = false := by simp; omega
      have d4 : decide (65536 < n) = true := by simp; omega
      go_enter Try.func3, Try.ntmps3
      go_wp2_with fail
      refine n1.mono ?_
      rintro e w1 ⟨rfl, rfl⟩
      go_wp2_with fail
      refine (awake_any w1).mono ?_
      rintro e w2 ⟨rfl, b2⟩
      go_wp2
      go_ret
      exact ⟨rfl, b2⟩
  · obtain ⟨m0, rfl⟩ := Int.eq_ofNat_of_zero_le (show 0 ≤ n by omega)
    have hm0 : m0 ≤ 65536 := by omega
    by_cases hbig : 3000 < m0
    · as_aux_lemma =>
      have d1 : decide (3000 < (m0 : Int)) = true := by simp; omega
      have d2 : decide ((m0 : Int) ≤ 65536) = true := by simp; omega
      have d3 : decide (65536 < (m0 : Int)) = false := by simp; omega
      clear hbad
      go_enter Try.func3, Try.ntmps3
      go_wp2_with fail
      obtain ⟨m, hmm⟩ : ∃ m : Nat, (m0 : Int) % 3000 = (m : Int) := ⟨m0 % 3000, by omega⟩
      have hm : m ≤ 65536 := by omega
      rw [hmm]
      clear hmm d1 d2 d3 hbig
      have d2 : decide ((m : Int) ≤ 65536) = true := by simp; omega
      have d3 : decide (65536 < (m : Int)) = false := by simp; omega
      have d4 : decide (0 ≤ (m : Int)) = true := by simp
      have d5 : decide ((m : Int) < 0) = false := by simp
      refine (new_any m w hm w.heap.size (Nat.le_refl _)).mono ?_
      rintro e w1 ⟨rfl, L1, b1⟩
      go_wp2_with fail
      refine (awake_any w1).mono ?_
      rintro e w2 ⟨rfl, b2⟩
      have L2 := hide (L1.below b2)
      have B2 := hide (b1.trans (b2.mono b1.size))
      clear L1 b1 b2
      go_wp2_with fail
      refine (rnew_any m w2 hm w.heap.size B2.out.size).mono ?_
      rintro e w3 ⟨vp, vs, rfl, R3, b3, f1, f2⟩
      obtain ⟨aop, cpp, rfl⟩ := R3.pform
      obtain ⟨aos, cps, rfl⟩ := R3.sform
      have T3 := hide (two_new (w0 := w) (w2 := w2) (L2.out.below b3) R3 (B2.out.trans (b3.mono B2.out.size)) rfl (fun g h => (L2.out.own_lt h).2) b3.size f1 f2)
      clear R3 L2 B2 b3 f1 f2
      go_wp2
      clear d2 d3 d4 d5
      obtain ⟨P, hP⟩ : ∃ P, (newX w.heap.size w).p = P := ⟨_, rfl⟩
      rw [hP]
      have HP := hide hP
      clear hP
      go_loopw [8] (fun iv wr => Rnd w wr P w3.heap.size iv) (fun iv _ => 300 - (intOf iv).toNat)
      case atStart => exact ⟨_, _, _, _, _, 0, rfl, by decide, HP, T3, inv_new hm, sim_new m, Nat.le_refl _⟩
      case round =>
        obtain ⟨X, s, r, vp, vs, j, rfl, hj, hXP, T, I, S, hfd⟩ := hrel.ex
        clear hrel T3 HP
        generalize w3.heap.size = b at *
        have hPP := hXP.out
        subst hPP
        obtain ⟨aop, cpp, rfl⟩ := T.out.R.pform
        obtain ⟨aos, cps, rfl⟩ := T.out.R.sform
        by_cases hrun : j < N ∧ j < 300
        · obtain ⟨hr1, hr2⟩ := hrun
          have d1 : decide ((j : Int) < (N : Int)) = true := by simp; omega
          have d2 : decide ((j : Int) < 300) = true := by simp; omega
          obtain ⟨⟨kd, nn, vv⟩, hu⟩ : ∃ u, l[j]? = some u := ⟨l[j]'(by rw [HN.out]; exact hr1), by simp⟩
          obtain ⟨hx, g, o, rfl, hg, k0, k1, k2⟩ := HC.out j _ hu
          have q0 : wr.cell? ⟨g, o + j * 3, none⟩ = some (.int .i64 kd) := by rw [T.out.below.cell (p := ⟨g, o + j * 3, none⟩) hg]; exact k0
          have q1 : wr.cell? ⟨g, o + j * 3 + 1, none⟩ = some (.int .i64 nn) := by rw [T.out.below.cell (p := ⟨g, o + j * 3 + 1, none⟩) hg]; exact k1
          have q2 : wr.cell? ⟨g, o + j * 3 + 2, none⟩ = some (.int .i64 vv) := by rw [T.out.below.cell (p := ⟨g, o + j * 3 + 2, none⟩) hg]; exact k2
          have hnx : nn ≤ 9223372036854775807 := hx
          have hbN : (j : Int) < (N : Int) := by omega
          have hno := hide (show ¬ X.own wr.heap.size from fun h => by have := (T.out.L.own_lt h).2; omega)
          obtain ⟨W1, hW1⟩ : ∃ W1, wr.alloc (.cells #[.int .i64 kd, .int .i64 nn, .int .i64 vv] 34) = W1 := ⟨_, rfl⟩
          have T1 := hide (show Two w W1 X s r (.slice aop r.ps.length cpp) (.slice aos r.st.length cps) j b by rw [← hW1]; exact T.out.alloc _)
          have o1 := hide (show W1.heap[wr.heap.size]? = some (.cells #[.int .i64 kd, .int .i64 nn, .int .i64 vv] 34 (0, 0)) by rw [← hW1]; exact heap_new _ _ rfl)
          have z1 := hide (show wr.heap.size < W1.heap.size from lt_of_block o1.out)
          obtain ⟨x0, x1, x2⟩ := op_cells o1.out
          clear k0 k1 k2 hx hu
          by_cases h1 : kd = 1
          · subst h1
            as_aux_lemma =>
            have hc := hap T1.out I.out S.out hfd.out (by omega) nn
            go_upto_region 18 with fail
            try rw [hW1]
            clear hW1 q0 q1 q2
            go_wp2_with fail
            refine hc.mono ?_
            rintro e u1 ⟨y, f, X', s', rfl, hkp, T2, hp2, hc2⟩
            clear hc
            have o2 := hide ((hkp.out _ z1.out hno.out).trans o1.out)
            obtain ⟨y0, y1, y2⟩ := op_cells o2.out
            obtain ⟨c0, c1, c2, c3, c4, _⟩ := box_cells T2.out.box
            clear x0 x1 x2 T1
            go_wp2_with fail
            refine hc2.out.mono ?_
            rintro e u2 ⟨r', vp', vs', rfl, hbx, hfin⟩
            obtain ⟨ap', cp', rfl⟩ := hfin.out.1.R.pform
            obtain ⟨as', cs', rfl⟩ := hfin.out.1.R.sform
            obtain ⟨t0, t1, t2, t3, t4, e0, e1, e2, e3, e4⟩ := box_cells (hbx.out.trans T2.out.box)
            clear hc2 c0 c1 c2 c3 c4 y0 y1 y2 T2
            go_wp2
            go_roundw
            case rel => exact ⟨X', s', r', _, _, j + 1, by go_num, by omega, hp2, hfin.out.1, hfin.out.2.1, hfin.out.2.2.1, hfin.out.2.2.2⟩
            case measure => simp [intOf]; omega
          by_cases h2 : kd = 2
          · subst h2
            as_aux_lemma =>
            have hc := free_pair T1.out I.out S.out hfd.out (by omega) nn hnx
            go_upto_region 18 with fail
            try rw [hW1]
            clear hW1 q0 q1 q2
            go_wp2_with fail
            refine hc.mono ?_
            rintro e u1 ⟨f, X', s', rfl, hkp, T2, hp2, hc2⟩
            clear hc
            have o2 := hide ((hkp.out _ z1.out hno.out).trans o1.out)
            obtain ⟨y0, y1, y2⟩ := op_cells o2.out
            obtain ⟨c0, c1, c2, c3, c4, _⟩ := box_cells T2.out.box
            clear x0 x1 x2 T1
            go_wp2_with fail
            refine hc2.out.mono ?_
            rintro e u2 ⟨r', vp', vs', rfl, hbx, hfin⟩
            obtain ⟨ap', cp', rfl⟩ := hfin.out.1.R.pform
            obtain ⟨as', cs', rfl⟩ := hfin.out.1.R.sform
            obtain ⟨t0, t1, t2, t3, t4, e0, e1, e2, e3, e4⟩ := box_cells (hbx.out.trans T2.out.box)
            clear hc2 c0 c1 c2 c3 c4 y0 y1 y2 T2
            go_wp2
            go_roundw
            case rel => exact ⟨X', s', r', _, _, j + 1, by go_num, by omega, hp2, hfin.out.1, hfin.out.2.1, hfin.out.2.2.1, hfin.out.2.2.2⟩
            case measure => simp [intOf]; omega
          by_cases h3 : kd = 3
          · subst h3
            as_aux_lemma =>
            have hc := size_pair T1.out I.out S.out nn hnx
            go_upto_region 18 with fail
            try rw [hW1]
            clear hW1 q0 q1 q2
            go_wp2_with fail
            refine hc.mono ?_
            rintro e u1 ⟨y, f, rfl, hkp, T2, hc2⟩
            clear hc
            have o2 := hide ((hkp.out _ z1.out hno.out).trans o1.out)
            obtain ⟨y0, y1, y2⟩ := op_cells o2.out
            obtain ⟨c0, c1, c2, c3, c4, _⟩ := box_cells T2.out.box
            clear x0 x1 x2 T1
            go_wp2_with fail
            refine hc2.out.mono ?_
            rintro e u2 ⟨rfl, T4⟩
            clear hc2 c0 c1 c2 c3 c4 y0 y1 y2 T2
            go_wp2
            go_roundw
            case rel => exact ⟨X, s, r, _, _, j + 1, by go_num, by omega, hide rfl, T4.out.mono (Nat.le_succ _), I, S, Nat.le_succ_of_le hfd.out⟩
            case measure => simp [intOf]; omega
          by_cases h4 : kd = 4
          · subst h4
            as_aux_lemma =>
            have hc := get_pair T1.out I.out S.out nn hnx
            go_upto_region 18 with fail
            try rw [hW1]
            clear hW1 q0 q1 q2
            go_wp2_with fail
            refine hc.mono ?_
            rintro e u1 ⟨y, f, rfl, hkp, T2, hc2⟩
            clear hc
            have o2 := hide ((hkp.out _ z1.out hno.out).trans o1.out)
            obtain ⟨y0, y1, y2⟩ := op_cells o2.out
            obtain ⟨c0, c1, c2, c3, c4, _⟩ := box_cells T2.out.box
            clear x0 x1 x2 T1
            go_wp2_with fail
            refine hc2.out.mono ?_
            rintro e u2 ⟨rfl, T4⟩
            clear hc2 c0 c1 c2 c3 c4 y0 y1 y2 T2
            go_wp2
            go_roundw
            case rel => exact ⟨X, s, r, _, _, j + 1, by go_num, by omega, hide rfl, T4.out.mono (Nat.le_succ _), I, S, Nat.le_succ_of_le hfd.out⟩
            case measure => simp [intOf]; omega
          by_cases h5 : kd = 5
          · subst h5
            as_aux_lemma =>
            have hc := set_pair T1.out I.out S.out hfd.out nn vv hnx
            go_upto_region 18 with fail
            try rw [hW1]
            clear hW1 q0 q1 q2
            go_wp2_with fail
            refine hc.mono ?_
            rintro e u1 ⟨f, s', rfl, hkp, T2, hc2⟩
            clear hc
            have o2 := hide ((hkp.out _ z1.out hno.out).trans o1.out)
            obtain ⟨y0, y1, y2⟩ := op_cells o2.out
            obtain ⟨c0, c1, c2, c3, c4, _⟩ := box_cells T2.out.box
            clear x0 x1 x2 T1
            go_wp2_with fail
            refine hc2.out.mono ?_
            rintro e u2 ⟨r', vp', vs', rfl, hbx, hfin⟩
            obtain ⟨ap', cp', rfl⟩ := hfin.out.1.R.pform
            obtain ⟨as', cs', rfl⟩ := hfin.out.1.R.sform
            obtain ⟨t0, t1, t2, t3, t4, e0, e1, e2, e3, e4⟩ := box_cells (hbx.out.trans T2.out.box)
            clear hc2 c0 c1 c2 c3 c4 y0 y1 y2 T2
            go_wp2
            go_roundw
            case rel => exact ⟨X, s', r', _, _, j + 1, by go_num, by omega, hide rfl, hfin.out.1.mono (Nat.le_succ _), hfin.out.2.1, hfin.out.2.2.1, Nat.le_succ_of_le hfin.out.2.2.2⟩
            case measure => simp [intOf]; omega
          by_cases h6 : kd = 6
          · subst h6
            as_aux_lemma =>
            have hc := find_pair T1.out I.out S.out nn hnx
            go_upto_region 18 with fail
            try rw [hW1]
            clear hW1 q0 q1 q2
            go_wp2_with fail
            refine hc.mono ?_
            rintro e u1 ⟨y, f, rfl, hkp, T2, hc2⟩
            clear hc
            have o2 := hide ((hkp.out _ z1.out hno.out).trans o1.out)
            obtain ⟨y0, y1, y2⟩ := op_cells o2.out
            obtain ⟨c0, c1, c2, c3, c4, _⟩ := box_cells T2.out.box
            clear x0 x1 x2 T1
            go_wp2_with fail
            refine hc2.out.mono ?_
            rintro e u2 ⟨rfl, T4⟩
            clear hc2 c0 c1 c2 c3 c4 y0 y1 y2 T2
            go_wp2
            go_roundw
            case rel => exact ⟨X, s, r, _, _, j + 1, by go_num, by omega, hide rfl, T4.out.mono (Nat.le_succ _), I, S, Nat.le_succ_of_le hfd.out⟩
            case measure => simp [intOf]; omega
          as_aux_lemma =>
          have g1 : (kd == 1) = false := by simp; omega
          have g2 : (kd == 2) = false := by simp; omega
          have g3 : (kd == 3) = false := by simp; omega
          have g4 : (kd == 4) = false := by simp; omega
          have g5 : (kd == 5) = false := by simp; omega
          have g6 : (kd == 6) = false := by simp; omega
          clear h1 h2 h3 h4 h5 h6
          have hc := live_pair T1.out.drew I.out S.out
          obtain ⟨c0, c1, c2, c3, c4, _⟩ := box_cells T1.out.drew.box
          go_upto_region 18 with fail
          try rw [hW1]
          clear hW1 q0 q1 q2
          go_wp2
          go_region_with (first
            | (go_at_call 24; refine hc.mono ?_; rintro e u1 ⟨va, rfl, T2, hc2⟩; obtain ⟨c0', c1', c2', c3', c4', _⟩ := box_cells T2.out.box)
            | (go_at_call 25; refine hc2.out.mono ?_; rintro e u2 ⟨vb, rfl, T4, hc3⟩)
            | (go_at_call 23; refine (hc3.out _ rfl).mono ?_; rintro e u3 ⟨rfl, T5⟩))
          all_goals go_wp2
          all_goals (
            go_roundw
            case rel => exact ⟨X, s, r, _, _, j + 1, by go_num, by omega, hide rfl, T5.out.mono (Nat.le_succ _), I, S, Nat.le_succ_of_le hfd.out⟩
            case measure => simp [intOf]; omega)
        · as_aux_lemma =>
          have hc := live_pair T.out.drew I.out S.out
          obtain ⟨c0, c1, c2, c3, c4, _⟩ := box_cells T.out.drew.box
          have hstop : (decide ((j : Int) < (N : Int)) = false ∧ decide (j < N) = false) ∨ (decide ((j : Int) < (N : Int)) = true ∧ decide ((j : Int) < 300) = false ∧ decide (j < 300) = false) := by
            by_cases h1 : j < N
            · exact .inr ⟨by simp; omega, by simp; omega, by simp; omega⟩
            · exact .inl ⟨by simp; omega, by simp; omega⟩
          clear hrun
          rcases hstop with ⟨d1, d2⟩ | ⟨d1, d2, d3⟩
          all_goals go_wp2
          all_goals go_region_with (first
            | (go_at_call 24; refine hc.mono ?_; rintro e u1 ⟨va, rfl, T2, hc2⟩; obtain ⟨c0', c1', c2', c3', c4', _⟩ := box_cells T2.out.box)
            | (go_at_call 25; refine hc2.out.mono ?_; rintro e u2 ⟨vb, rfl, T4, hc3⟩)
            | (go_at_call 23; refine (hc3.out _ rfl).mono ?_; rintro e u3 ⟨rfl, T5⟩))
          all_goals go_wp2
          all_goals go_ret
          all_goals exact ⟨rfl, T5.out.below⟩
    · as_aux_lemma =>
      have d1 : decide (3000 < (m0 : Int)) = false := by simp; omega
      clear hbad
      go_enter Try.func3, Try.ntmps3
      go_wp2_with fail
      have hm := hm0
      generalize m0 = m at *
      clear d1 hm0 hbig
      have d2 : decide ((m : Int) ≤ 65536) = true := by simp; omega
      have d3 : decide (65536 < (m : Int)) = false := by simp; omega
      have d4 : decide (0 ≤ (m : Int)) = true := by simp
      have d5 : decide ((m : Int) < 0) = false := by simp
      refine (new_any m w hm w.heap.size (Nat.le_refl _)).mono ?_
      rintro e w1 ⟨rfl, L1, b1⟩
      go_wp2_with fail
      refine (awake_any w1).mono ?_
      rintro e w2 ⟨rfl, b2⟩
      have L2 := hide (L1.below b2)
      have B2 := hide (b1.trans (b2.mono b1.size))
      clear L1 b1 b2
      go_wp2_with fail
      refine (rnew_any m w2 hm w.heap.size B2.out.size).mono ?_
      rintro e w3 ⟨vp, vs, rfl, R3, b3, f1, f2⟩
      obtain ⟨aop, cpp, rfl⟩ := R3.pform
      obtain ⟨aos, cps, rfl⟩ := R3.sform
      have T3 := hide (two_new (w0 := w) (w2 := w2) (L2.out.below b3) R3 (B2.out.trans (b3.mono B2.out.size)) rfl (fun g h => (L2.out.own_lt h).2) b3.size f1 f2)
      clear R3 L2 B2 b3 f1 f2
      go_wp2
      clear d2 d3 d4 d5
      obtain ⟨P, hP⟩ : ∃ P, (newX w.heap.size w).p = P := ⟨_, rfl⟩
      rw [hP]
      have HP := hide hP
      clear hP
      go_loopw [8] (fun iv wr => Rnd w wr P w3.heap.size iv) (fun iv _ => 300 - (intOf iv).toNat)
      case atStart => exact ⟨_, _, _, _, _, 0, rfl, by decide, HP, T3, inv_new hm, sim_new m, Nat.le_refl _⟩
      case round =>
        obtain ⟨X, s, r, vp, vs, j, rfl, hj, hXP, T, I, S, hfd⟩ := hrel.ex
        clear hrel T3 HP
        generalize w3.heap.size = b at *
        have hPP := hXP.out
        subst hPP
        obtain ⟨aop, cpp, rfl⟩ := T.out.R.pform
        obtain ⟨aos, cps, rfl⟩ := T.out.R.sform
        by_cases hrun : j < N ∧ j < 300
        · obtain ⟨hr1, hr2⟩ := hrun
          have d1 : decide ((j : Int) < (N : Int)) = true := by simp; omega
          have d2 : decide ((j : Int) < 300) = true := by simp; omega
          obtain ⟨⟨kd, nn, vv⟩, hu⟩ : ∃ u, l[j]? = some u := ⟨l[j]'(by rw [HN.out]; exact hr1), by simp⟩
          obtain ⟨hx, g, o, rfl, hg, k0, k1, k2⟩ := HC.out j _ hu
          have q0 : wr.cell? ⟨g, o + j * 3, none⟩ = some (.int .i64 kd) := by rw [T.out.below.cell (p := ⟨g, o + j * 3, none⟩) hg]; exact k0
          have q1 : wr.cell? ⟨g, o + j * 3 + 1, none⟩ = some (.int .i64 nn) := by rw [T.out.below.cell (p := ⟨g, o + j * 3 + 1, none⟩) hg]; exact k1
          have q2 : wr.cell? ⟨g, o + j * 3 + 2, none⟩ = some (.int .i64 vv) := by rw [T.out.below.cell (p := ⟨g, o + j * 3 + 2, none⟩) hg]; exact k2
          have hnx : nn ≤ 9223372036854775807 := hx
          have hbN : (j : Int) < (N : Int) := by omega
          have hno := hide (show ¬ X.own wr.heap.size from fun h => by have := (T.out.L.own_lt h).2; omega)
          obtain ⟨W1, hW1⟩ : ∃ W1, wr.alloc (.cells #[.int .i64 kd, .int .i64 nn, .int .i64 vv] 34) = W1 := ⟨_, rfl⟩
          have T1 := hide (show Two w W1 X s r (.slice aop r.ps.length cpp) (.slice aos r.st.length cps) j b by rw [← hW1]; exact T.out.alloc _)
          have o1 := hide (show W1.heap[wr.heap.size]? = some (.cells #[.int .i64 kd, .int .i64 nn, .int .i64 vv] 34 (0, 0)) by rw [← hW1]; exact heap_new _ _ rfl)
          have z1 := hide (show wr.heap.size < W1.heap.size from lt_of_block o1.out)
          obtain ⟨x0, x1, x2⟩ := op_cells o1.out
          clear k0 k1 k2 hx hu
          by_cases h1 : kd = 1
          · subst h1
            as_aux_lemma =>
            have hc := hap T1.out I.out S.out hfd.out (by omega) nn
            go_upto_region 18 with fail
            try rw [hW1]
            clear hW1 q0 q1 q2
            go_wp2_with fail
            refine hc.mono ?_
            rintro e u1 ⟨y, f, X', s', rfl, hkp, T2, hp2, hc2⟩
            clear hc
            have o2 := hide ((hkp.out _ z1.out hno.out).trans o1.out)
            obtain ⟨y0, y1, y2⟩ := op_cells o2.out
            obtain ⟨c0, c1, c2, c3, c4, _⟩ := box_cells T2.out.box
            clear x0 x1 x2 T1
            go_wp2_with fail
            refine hc2.out.mono ?_
            rintro e u2 ⟨r', vp', vs', rfl, hbx, hfin⟩
            obtain ⟨ap', cp', rfl⟩ := hfin.out.1.R.pform
            obtain ⟨as', cs', rfl⟩ := hfin.out.1.R.sform
            obtain ⟨t0, t1, t2, t3, t4, e0, e1, e2, e3, e4⟩ := box_cells (hbx.out.trans T2.out.box)
            clear hc2 c0 c1 c2 c3 c4 y0 y1 y2 T2
            go_wp2
            go_roundw
            case rel => exact ⟨X', s', r', _, _, j + 1, by go_num, by omega, hp2, hfin.out.1, hfin.out.2.1, hfin.out.2.2.1, hfin.out.2.2.2⟩
            case measure => simp [intOf]; omega
          by_cases h2 : kd = 2
          · subst h2
            as_aux_lemma =>
            have hc := free_pair T1.out I.out S.out hfd.out (by omega) nn hnx
            go_upto_region 18 with fail
            try rw [hW1]
            clear hW1 q0 q1 q2
            go_wp2_with fail
            refine hc.mono ?_
            rintro e u1 ⟨f, X', s', rfl, hkp, T2, hp2, hc2⟩
            clear hc
            have o2 := hide ((hkp.out _ z1.out hno.out).trans o1.out)
            obtain ⟨y0, y1, y2⟩ := op_cells o2.out
            obtain ⟨c0, c1, c2, c3, c4, _⟩ := box_cells T2.out.box
            clear x0 x1 x2 T1
            go_wp2_with fail
            refine hc2.out.mono ?_
            rintro e u2 ⟨r', vp', vs', rfl, hbx, hfin⟩
            obtain ⟨ap', cp', rfl⟩ := hfin.out.1.R.pform
            obtain ⟨as', cs', rfl⟩ := hfin.out.1.R.sform
            obtain ⟨t0, t1, t2, t3, t4, e0, e1, e2, e3, e4⟩ := box_cells (hbx.out.trans T2.out.box)
            clear hc2 c0 c1 c2 c3 c4 y0 y1 y2 T2
            go_wp2
            go_roundw
            case rel => exact ⟨X', s', r', _, _, j + 1, by go_num, by omega, hp2, hfin.out.1, hfin.out.2.1, hfin.out.2.2.1, hfin.out.2.2.2⟩
            case measure => simp [intOf]; omega
          by_cases h3 : kd = 3
          · subst h3
            as_aux_lemma =>
            have hc := size_pair T1.out I.out S.out nn hnx
            go_upto_region 18 with fail
            try rw [hW1]
            clear hW1 q0 q1 q2
            go_wp2_with fail
            refine hc.mono ?_
            rintro e u1 ⟨y, f, rfl, hkp, T2, hc2⟩
            clear hc
            have o2 := hide ((hkp.out _ z1.out hno.out).trans o1.out)
            obtain ⟨y0, y1, y2⟩ := op_cells o2.out
            obtain ⟨c0, c1, c2, c3, c4, _⟩ := box_cells T2.out.box
            clear x0 x1 x2 T1
            go_wp2_with fail
            refine hc2.out.mono ?_
            rintro e u2 ⟨rfl, T4⟩
            clear hc2 c0 c1 c2 c3 c4 y0 y1 y2 T2
            go_wp2
            go_roundw
            case rel => exact ⟨X, s, r, _, _, j + 1, by go_num, by omega, hide rfl, T4.out.mono (Nat.le_succ _), I, S, Nat.le_succ_of_le hfd.out⟩
            case measure => simp [intOf]; omega
          by_cases h4 : kd = 4
          · subst h4
            as_aux_lemma =>
            have hc := get_pair T1.out I.out S.out nn hnx
            go_upto_region 18 with fail
            try rw [hW1]
            clear hW1 q0 q1 q2
            go_wp2_with fail
            refine hc.mono ?_
            rintro e u1 ⟨y, f, rfl, hkp, T2, hc2⟩
            clear hc
            have o2 := hide ((hkp.out _ z1.out hno.out).trans o1.out)
            obtain ⟨y0, y1, y2⟩ := op_cells o2.out
            obtain ⟨c0, c1, c2, c3, c4, _⟩ := box_cells T2.out.box
            clear x0 x1 x2 T1
            go_wp2_with fail
            refine hc2.out.mono ?_
            rintro e u2 ⟨rfl, T4⟩
            clear hc2 c0 c1 c2 c3 c4 y0 y1 y2 T2
            go_wp2
            go_roundw
            case rel => exact ⟨X, s, r, _, _, j + 1, by go_num, by omega, hide rfl, T4.out.mono (Nat.le_succ _), I, S, Nat.le_succ_of_le hfd.out⟩
            case measure => simp [intOf]; omega
          by_cases h5 : kd = 5
          · subst h5
            as_aux_lemma =>
            have hc := set_pair T1.out I.out S.out hfd.out nn vv hnx
            go_upto_region 18 with fail
            try rw [hW1]
            clear hW1 q0 q1 q2
            go_wp2_with fail
            refine hc.mono ?_
            rintro e u1 ⟨f, s', rfl, hkp, T2, hc2⟩
            clear hc
            have o2 := hide ((hkp.out _ z1.out hno.out).trans o1.out)
            obtain ⟨y0, y1, y2⟩ := op_cells o2.out
            obtain ⟨c0, c1, c2, c3, c4, _⟩ := box_cells T2.out.box
            clear x0 x1 x2 T1
            go_wp2_with fail
            refine hc2.out.mono ?_
            rintro e u2 ⟨r', vp', vs', rfl, hbx, hfin⟩
            obtain ⟨ap', cp', rfl⟩ := hfin.out.1.R.pform
            obtain ⟨as', cs', rfl⟩ := hfin.out.1.R.sform
            obtain ⟨t0, t1, t2, t3, t4, e0, e1, e2, e3, e4⟩ := box_cells (hbx.out.trans T2.out.box)
            clear hc2 c0 c1 c2 c3 c4 y0 y1 y2 T2
            go_wp2
            go_roundw
            case rel => exact ⟨X, s', r', _, _, j + 1, by go_num, by omega, hide rfl, hfin.out.1.mono (Nat.le_succ _), hfin.out.2.1, hfin.out.2.2.1, Nat.le_succ_of_le hfin.out.2.2.2⟩
            case measure => simp [intOf]; omega
          by_cases h6 : kd = 6
          · subst h6
            as_aux_lemma =>
            have hc := find_pair T1.out I.out S.out nn hnx
            go_upto_region 18 with fail
            try rw [hW1]
            clear hW1 q0 q1 q2
            go_wp2_with fail
            refine hc.mono ?_
            rintro e u1 ⟨y, f, rfl, hkp, T2, hc2⟩
            clear hc
            have o2 := hide ((hkp.out _ z1.out hno.out).trans o1.out)
            obtain ⟨y0, y1, y2⟩ := op_cells o2.out
            obtain ⟨c0, c1, c2, c3, c4, _⟩ := box_cells T2.out.box
            clear x0 x1 x2 T1
            go_wp2_with fail
            refine hc2.out.mono ?_
            rintro e u2 ⟨rfl, T4⟩
            clear hc2 c0 c1 c2 c3 c4 y0 y1 y2 T2
            go_wp2
            go_roundw
            case rel => exact ⟨X, s, r, _, _, j + 1, by go_num, by omega, hide rfl, T4.out.mono (Nat.le_succ _), I, S, Nat.le_succ_of_le hfd.out⟩
            case measure => simp [intOf]; omega
          as_aux_lemma =>
          have g1 : (kd == 1) = false := by simp; omega
          have g2 : (kd == 2) = false := by simp; omega
          have g3 : (kd == 3) = false := by simp; omega
          have g4 : (kd == 4) = false := by simp; omega
          have g5 : (kd == 5) = false := by simp; omega
          have g6 : (kd == 6) = false := by simp; omega
          clear h1 h2 h3 h4 h5 h6
          have hc := live_pair T1.out.drew I.out S.out
          obtain ⟨c0, c1, c2, c3, c4, _⟩ := box_cells T1.out.drew.box
          go_upto_region 18 with fail
          try rw [hW1]
          clear hW1 q0 q1 q2
          go_wp2
          go_region_with (first
            | (go_at_call 24; refine hc.mono ?_; rintro e u1 ⟨va, rfl, T2, hc2⟩; obtain ⟨c0', c1', c2', c3', c4', _⟩ := box_cells T2.out.box)
            | (go_at_call 25; refine hc2.out.mono ?_; rintro e u2 ⟨vb, rfl, T4, hc3⟩)
            | (go_at_call 23; refine (hc3.out _ rfl).mono ?_; rintro e u3 ⟨rfl, T5⟩))
          all_goals go_wp2
          all_goals (
            go_roundw
            case rel => exact ⟨X, s, r, _, _, j + 1, by go_num, by omega, hide rfl, T5.out.mono (Nat.le_succ _), I, S, Nat.le_succ_of_le hfd.out⟩
            case measure => simp [intOf]; omega)
        · as_aux_lemma =>
          have hc := live_pair T.out.drew I.out S.out
          obtain ⟨c0, c1, c2, c3, c4, _⟩ := box_cells T.out.drew.box
          have hstop : (decide ((j : Int) < (N : Int)) = false ∧ decide (j < N) = false) ∨ (decide ((j : Int) < (N : Int)) = true ∧ decide ((j : Int) < 300) = false ∧ decide (j < 300) = false) := by
            by_cases h1 : j < N
            · exact .inr ⟨by simp; omega, by simp; omega, by simp; omega⟩
            · exact .inl ⟨by simp; omega, by simp; omega⟩
          clear hrun
          rcases hstop with ⟨d1, d2⟩ | ⟨d1, d2, d3⟩
          all_goals go_wp2
          all_goals go_region_with (first
            | (go_at_call 24; refine hc.mono ?_; rintro e u1 ⟨va, rfl, T2, hc2⟩; obtain ⟨c0', c1', c2', c3', c4', _⟩ := box_cells T2.out.box)
            | (go_at_call 25; refine hc2.out.mono ?_; rintro e u2 ⟨vb, rfl, T4, hc3⟩)
            | (go_at_call 23; refine (hc3.out _ rfl).mono ?_; rintro e u3 ⟨rfl, T5⟩))
          all_goals go_wp2
          all_goals go_ret
          all_goals exact ⟨rfl, T5.out.below⟩
end Go.Proofs.Yteeadmkljcjjkaa
