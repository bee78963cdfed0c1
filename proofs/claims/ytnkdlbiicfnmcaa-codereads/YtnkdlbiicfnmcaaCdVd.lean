/- Decode. -/
import Derived.Test.YtnkdlbiicfnmcaaCdSTJt
namespace Go.Proofs.Ytnkdlbiicfnmcaa
open Go.RowKit
theorem PgR.keepX {w w' : World} {v1 v2 v3 v4 : Value} {p : Pg} (h : PgR w v1 v2 v3 v4 p) (hs : SmX [27] w w') : PgR w' v1 v2 v3 v4 p :=
  ⟨h.ty.keep (rlst_keep (by decide)) (by decide) hs, h.fu.keep (rfd_keep (by decide) (by decide)) (by decide) hs, h.ta.keep (rlst_keep (by decide)) (by decide) hs, h.st.keep (str_keep _) (by decide) hs⟩
def set4 (w : World) (b : Nat) (u0 u1 u2 u3 : Value) : World := (((w.setCell ⟨b, 0, none⟩ u0).setCell ⟨b, 1, none⟩ u1).setCell ⟨b, 2, none⟩ u2).setCell ⟨b, 3, none⟩ u3
theorem set4_other {w : World} {b j : Nat} (u0 u1 u2 u3 : Value) (h : j ≠ b) : (set4 w b u0 u1 u2 u3).heap[j]? = w.heap[j]? := by
  unfold set4
  rw [Below.heap_setCell _ _ _ j h, Below.heap_setCell _ _ _ j h, Below.heap_setCell _ _ _ j h, Below.heap_setCell _ _ _ j h]
theorem set4_below {B : Nat} {a w : World} (h : Below B a w) {b : Nat} (hb : B ≤ b) (u0 u1 u2 u3 : Value) : Below B a (set4 w b u0 u1 u2 u3) :=
  h.trans ⟨rfl, rfl, rfl, by simp [set4], fun j hj => set4_other u0 u1 u2 u3 (by omega)⟩
theorem set4_sm {w : World} {b : Nat} {c : Array Value} {f : Nat × Nat} (hb : w.heap[b]? = some (.cells c 27 f)) (u0 u1 u2 u3 : Value) : SmX [27] w (set4 w b u0 u1 u2 u3) := fun j d t f' hj ht =>
  set4_other u0 u1 u2 u3 (fun e => by subst e; rw [hb] at hj; cases hj; exact ht (by simp))
theorem set4_cells {w : World} {b : Nat} {x0 x1 x2 x3 : Value} {t : TypeId} {f : Nat × Nat} (h : w.heap[b]? = some (.cells #[x0, x1, x2, x3] t f)) (u0 u1 u2 u3 : Value) :
    (set4 w b u0 u1 u2 u3).cell? ⟨b, 0, none⟩ = some u0 ∧ (set4 w b u0 u1 u2 u3).cell? ⟨b, 1, none⟩ = some u1 ∧ (set4 w b u0 u1 u2 u3).cell? ⟨b, 2, none⟩ = some u2 ∧ (set4 w b u0 u1 u2 u3).cell? ⟨b, 3, none⟩ = some u3 := by
  have h1 := heap_setCell_same w b 0 u0 h
  have h2 := heap_setCell_same _ b 1 u1 h1
  have h3 := heap_setCell_same _ b 2 u2 h2
  have h4 := heap_setCell_same _ b 3 u3 h3
  exact ⟨cell_of h4 rfl, cell_of h4 rfl, cell_of h4 rfl, cell_of h4 rfl⟩
section
variable {w : World} {B : Nat}
set_option maxRecDepth 100000 in
set_option maxHeartbeats 2000000 in
theorem decode_any {v : Value} {b : By} (R : BytesAt B w v b) (hB : B ≤ w.heap.size) :
    Calls Try.prog 13 #[v] w fun e w' => ∃ v1 v2 v3 v4, e = .returned (.tuple #[.agg #[v1, v2, v3, v4], .int .i64 (decP b).2]) ∧ PgAt w'.heap.size w' v1 v2 v3 v4 (decP b).1 ∧ Below w.heap.size w w' := by
  have HR := hide R
  obtain ⟨ao, cap, hv, hcap, hcm, _⟩ := R
  subst hv
  have B0 := hide (show Below w.heap.size w (w.alloc (.cells #[.slice none 0 0, .slice none 0 0, .slice none 0 0, .slice none 0 0] 27)) from (Below.refl _ _).alloc (Nat.le_refl _) _)
  by_cases hm : MB < b.length
  · have HD := hide (show decP b = (pg0, 13) by unfold decP; rw [if_pos hm])
    have d1 : decide (4194304 < (b.length : Int)) = true := by simp only [MB] at hm; simp; omega
    clear hm hcap hcm
    generalize b.length = n at *
    go_enter Try.func13, Try.ntmps13
    go_wp2
    go_returns
    rw [HD.out]
    exact ⟨_, _, _, _, rfl, pg0_at _ _, B0.out⟩
  · have d1 : decide (4194304 < (b.length : Int)) = false := by simp only [MB] at hm; simp; omega
    have b1 : (b.length : Int) ≤ 4194304 := by simp only [MB] at hm; omega
    have HM := hide (show b.length ≤ MB by omega)
    obtain ⟨W1, hW1⟩ : ∃ W1, w.alloc (.cells #[.slice none 0 0, .slice none 0 0, .slice none 0 0, .slice none 0 0] 27) = W1 := ⟨_, rfl⟩
    have hz1 : W1.heap.size = w.heap.size + 1 := by rw [← hW1]; simp
    obtain ⟨W2, hW2⟩ : ∃ W2, W1.alloc (.cells #[.slice none 0 0, .slice none 0 0, .slice none 0 0, .slice none 0 0] 27) = W2 := ⟨_, rfl⟩
    have hz2 : W2.heap.size = w.heap.size + 2 := by rw [← hW2]; simp [hz1]
    obtain ⟨W3, hW3⟩ : ∃ W3, W2.alloc (.cells #[.slice ao b.length cap, .bool false] 71) = W3 := ⟨_, rfl⟩
    have hz3 : W3.heap.size = w.heap.size + 3 := by rw [← hW3]; simp [hz2]
    have Bw3 : Below w.heap.size w W3 := by rw [← hW3, ← hW2, ← hW1]; exact (((Below.refl _ _).alloc (Nat.le_refl _) _).alloc (by simp) _).alloc (by simp; omega) _
    have e1 : W3.heap[w.heap.size]? = some (.cells #[.slice none 0 0, .slice none 0 0, .slice none 0 0, .slice none 0 0] 27 (0, 0)) := by
      rw [← hW3, Below.heap_alloc _ _ _ (by omega), ← hW2, Below.heap_alloc _ _ _ (by omega), ← hW1]; exact heap_new _ _ rfl
    have e2 : W3.heap[w.heap.size + 1]? = some (.cells #[.slice none 0 0, .slice none 0 0, .slice none 0 0, .slice none 0 0] 27 (0, 0)) := by
      rw [← hW3, Below.heap_alloc _ _ _ (by omega), ← hW2]; exact heap_new _ _ hz1.symm
    have e3 : W3.heap[w.heap.size + 2]? = some (.cells #[.slice ao b.length cap, .bool false] 71 (0, 0)) := by
      rw [← hW3]; exact heap_new _ _ hz2.symm
    have L3 : Rl B W2.heap.size W3 ⟨b, false⟩ := ⟨by omega, _, by rw [hz2]; exact e3, HR.out.keep fun j hj => Bw3.block j (by omega)⟩
    have C1 := hide (rprog_any L3 HM.out (g := w.heap.size + 1) e2 (by omega) (by omega))
    have HB3 := hide Bw3
    have HE1 := hide e1
    have HE2 := hide e2
    have HZ2 := hide hz2
    have HZ3 := hide hz3
    have HBB := hide hB
    have HDE := hide (show decP b = if (pgR ⟨b, false⟩).2.bad = true ∨ 0 < (pgR ⟨b, false⟩).2.rest.length then (pg0, 3) else if sndP (pgR ⟨b, false⟩).1 = true then ((pgR ⟨b, false⟩).1, 0) else (pg0, 2) by unfold decP; rw [if_neg hm])
    clear L3 Bw3 e1 e2 e3 hz3 hcap hcm hB hm hz2
    generalize pgR ⟨b, false⟩ = r at *
    go_enter Try.func13, Try.ntmps13
    go_wp2_with fail
    refine C1.out.mono ?_
    rintro e w4 ⟨rfl, v1, v2, v3, v4, L4, PG4, P4⟩
    have B4 := hide (show Below w.heap.size w w4 from HB3.out.trans ⟨P4.os, P4.tape, P4.output, P4.size, fun j hj => P4.block j (by have := HZ3.out; omega) (by have := HZ2.out; omega) (by omega)⟩)
    have hr4 : w4.heap[w.heap.size]? = some (.cells #[.slice none 0 0, .slice none 0 0, .slice none 0 0, .slice none 0 0] 27 (0, 0)) := (P4.block _ (by have := HZ3.out; omega) (by have := HZ2.out; omega) (by omega)).trans HE1.out
    obtain ⟨c', hp4, hps, hpc, _⟩ := P4.self _ _ HE2.out
    have hp0 : c'[0]? = some v1 := by have := hpc 0 _ rfl; simpa using this
    have hp1 : c'[1]? = some v2 := by have := hpc 1 _ rfl; simpa using this
    have hp2 : c'[2]? = some v3 := by have := hpc 2 _ rfl; simpa using this
    have hp3 : c'[3]? = some v4 := by have := hpc 3 _ rfl; simpa using this
    have q0 : w4.cell? ⟨w.heap.size + 1, 0, none⟩ = some v1 := cell_of hp4 hp0
    have q1 : w4.cell? ⟨w.heap.size + 1, 1, none⟩ = some v2 := cell_of hp4 hp1
    have q2 : w4.cell? ⟨w.heap.size + 1, 2, none⟩ = some v3 := cell_of hp4 hp2
    have q3 : w4.cell? ⟨w.heap.size + 1, 3, none⟩ = some v4 := cell_of hp4 hp3
    have HP4 := hide hp4
    have HR4 := hide hr4
    have C2 := hide (rgoing_any L4)
    have C3 := hide (sound_any PG4.at (Nat.le_refl _))
    have HPG := hide PG4
    obtain ⟨_, vr, hrA, hbytes⟩ := L4
    obtain ⟨ra, rc, hvr, _⟩ := hbytes
    subst hvr
    have k0 : w4.cell? ⟨W2.heap.size, 0, none⟩ = some (.slice ra r.2.rest.length rc) := cell_of hrA rfl
    have PA := PG4.at
    obtain ⟨a1, n1, hv1, _⟩ := PA.ty
    obtain ⟨a2, n2, hv2, _⟩ := PA.fu
    obtain ⟨a3, n3, hv3, _⟩ := PA.ta
    obtain ⟨a4, n4, hv4, _⟩ := PA.st
    subst hv1 hv2 hv3 hv4
    have s0 : w4.cell? ⟨w.heap.size, 0, none⟩ = some (.slice none 0 0) := cell_of hr4 rfl
    have s1 : w4.cell? ⟨w.heap.size, 1, none⟩ = some (.slice none 0 0) := cell_of hr4 rfl
    have s2 : w4.cell? ⟨w.heap.size, 2, none⟩ = some (.slice none 0 0) := cell_of hr4 rfl
    have s3 : w4.cell? ⟨w.heap.size, 3, none⟩ = some (.slice none 0 0) := cell_of hr4 rfl
    have f0 : w4.frozen? ⟨w.heap.size, 0, none⟩ = false := by simp [World.frozen?, hr4]
    have f1 : w4.frozen? ⟨w.heap.size, 1, none⟩ = false := by simp [World.frozen?, hr4]
    have f2 : w4.frozen? ⟨w.heap.size, 2, none⟩ = false := by simp [World.frozen?, hr4]
    have f3 : w4.frozen? ⟨w.heap.size, 3, none⟩ = false := by simp [World.frozen?, hr4]
    have hlt4 := lt_of_block hr4
    clear C1 PG4 P4 PA hr4 hp4 hps hpc hp0 hp1 hp2 hp3 hrA hW1 hW2 hW3 HE1 HE2 HB3 HR B0
    generalize hrl : r.2.rest.length = rl at *
    generalize hbd : r.2.bad = bd at *
    generalize hsn : sndP r.1 = sn at *
    clear hrl hbd hsn
    go_wp2_with fail
    refine C2.out.mono ?_
    rintro e w5 ⟨rfl, rfl⟩
    clear C2
    cases bd with
    | true =>
      obtain ⟨WF, hWF⟩ : ∃ WF, set4 w5 w.heap.size (.slice none 0 0) (.slice none 0 0) (.slice none 0 0) (.slice none 0 0) = WF := ⟨_, rfl⟩
      obtain ⟨y0, y1, y2, y3⟩ : WF.cell? ⟨w.heap.size, 0, none⟩ = some (.slice none 0 0) ∧ WF.cell? ⟨w.heap.size, 1, none⟩ = some (.slice none 0 0) ∧ WF.cell? ⟨w.heap.size, 2, none⟩ = some (.slice none 0 0) ∧ WF.cell? ⟨w.heap.size, 3, none⟩ = some (.slice none 0 0) := by rw [← hWF]; exact set4_cells HR4.out _ _ _ _
      have HBF := hide (show Below w.heap.size w WF from hWF ▸ set4_below B4.out (Nat.le_refl _) _ _ _ _)
      unfold set4 at hWF
      go_wp2
      refine bodyPost_ret (by simp [results, Try.results13, go_sem, y0, y1, y2, y3]; try rfl) rfl ?_
      rw [HDE.out]
      exact ⟨_, _, _, _, rfl, pg0_at _ _, HBF.out⟩
    | false =>
      by_cases hrl : 0 < rl
      · have e1 : decide (0 < rl) = true := by simpa using hrl
        have e2 : decide ((0 : Int) < (rl : Int)) = true := by simp; omega
        have HRL := hide hrl
        clear hrl
        obtain ⟨WF, hWF⟩ : ∃ WF, set4 w5 w.heap.size (.slice none 0 0) (.slice none 0 0) (.slice none 0 0) (.slice none 0 0) = WF := ⟨_, rfl⟩
        obtain ⟨y0, y1, y2, y3⟩ : WF.cell? ⟨w.heap.size, 0, none⟩ = some (.slice none 0 0) ∧ WF.cell? ⟨w.heap.size, 1, none⟩ = some (.slice none 0 0) ∧ WF.cell? ⟨w.heap.size, 2, none⟩ = some (.slice none 0 0) ∧ WF.cell? ⟨w.heap.size, 3, none⟩ = some (.slice none 0 0) := by rw [← hWF]; exact set4_cells HR4.out _ _ _ _
        have HBF := hide (show Below w.heap.size w WF from hWF ▸ set4_below B4.out (Nat.le_refl _) _ _ _ _)
        unfold set4 at hWF
        go_wp2
        refine bodyPost_ret (by simp [results, Try.results13, go_sem, y0, y1, y2, y3]; try rfl) rfl ?_
        rw [HDE.out, if_pos (.inr HRL.out)]
        exact ⟨_, _, _, _, rfl, pg0_at _ _, HBF.out⟩
      · have e1 : decide (0 < rl) = false := by simpa using hrl
        have e2 : decide ((0 : Int) < (rl : Int)) = false := by simp; omega
        have HRL := hide hrl
        clear hrl
        go_wp2_with fail
        refine C3.out.mono ?_
        rintro e w6 ⟨rfl, hb6⟩
        have hr6 : w6.heap[w.heap.size]? = some (.cells #[.slice none 0 0, .slice none 0 0, .slice none 0 0, .slice none 0 0] 27 (0, 0)) := (hb6.block _ hlt4).trans HR4.out
        have hp6 := (hb6.block _ (lt_of_block HP4.out)).trans HP4.out
        have B6 := hide (B4.out.trans (hb6.mono B4.out.size))
        have HSM := hide (show ∀ (u0 u1 u2 u3 : Value), SmX [27] w5 (set4 w6 w.heap.size u0 u1 u2 u3) from fun u0 u1 u2 u3 => (SmX.of_below hb6).trans (set4_sm hr6 u0 u1 u2 u3))
        have t0 : w6.cell? ⟨w.heap.size, 0, none⟩ = some (.slice none 0 0) := cell_of hr6 rfl
        have t1 : w6.cell? ⟨w.heap.size, 1, none⟩ = some (.slice none 0 0) := cell_of hr6 rfl
        have t2 : w6.cell? ⟨w.heap.size, 2, none⟩ = some (.slice none 0 0) := cell_of hr6 rfl
        have t3 : w6.cell? ⟨w.heap.size, 3, none⟩ = some (.slice none 0 0) := cell_of hr6 rfl
        have g0 : w6.frozen? ⟨w.heap.size, 0, none⟩ = false := by simp [World.frozen?, hr6]
        have g1 : w6.frozen? ⟨w.heap.size, 1, none⟩ = false := by simp [World.frozen?, hr6]
        have g2 : w6.frozen? ⟨w.heap.size, 2, none⟩ = false := by simp [World.frozen?, hr6]
        have g3 : w6.frozen? ⟨w.heap.size, 3, none⟩ = false := by simp [World.frozen?, hr6]
        have hlt6 := lt_of_block hr6
        have p0 : w6.cell? ⟨w.heap.size + 1, 0, none⟩ = some (.slice a1 r.1.ty.length n1) := (hb6.cell (p := ⟨w.heap.size + 1, 0, none⟩) (lt_of_block HP4.out)).trans q0
        have p1 : w6.cell? ⟨w.heap.size + 1, 1, none⟩ = some (.slice a2 r.1.fu.length n2) := (hb6.cell (p := ⟨w.heap.size + 1, 1, none⟩) (lt_of_block HP4.out)).trans q1
        have p2 : w6.cell? ⟨w.heap.size + 1, 2, none⟩ = some (.slice a3 r.1.ta.length n3) := (hb6.cell (p := ⟨w.heap.size + 1, 2, none⟩) (lt_of_block HP4.out)).trans q2
        have p3 : w6.cell? ⟨w.heap.size + 1, 3, none⟩ = some (.slice a4 r.1.st.length n4) := (hb6.cell (p := ⟨w.heap.size + 1, 3, none⟩) (lt_of_block HP4.out)).trans q3
        have HR6 := hide hr6
        clear C3 hb6 hr6 hp6 q0 q1 q2 q3 s0 s1 s2 s3 f0 f1 f2 f3 hlt4 k0
        cases sn with
        | false =>
          obtain ⟨WF, hWF⟩ : ∃ WF, set4 w6 w.heap.size (.slice none 0 0) (.slice none 0 0) (.slice none 0 0) (.slice none 0 0) = WF := ⟨_, rfl⟩
          obtain ⟨y0, y1, y2, y3⟩ : WF.cell? ⟨w.heap.size, 0, none⟩ = some (.slice none 0 0) ∧ WF.cell? ⟨w.heap.size, 1, none⟩ = some (.slice none 0 0) ∧ WF.cell? ⟨w.heap.size, 2, none⟩ = some (.slice none 0 0) ∧ WF.cell? ⟨w.heap.size, 3, none⟩ = some (.slice none 0 0) := by rw [← hWF]; exact set4_cells HR6.out _ _ _ _
          have HBF := hide (show Below w.heap.size w WF from hWF ▸ set4_below B6.out (Nat.le_refl _) _ _ _ _)
          unfold set4 at hWF
          go_wp2
          refine bodyPost_ret (by simp [results, Try.results13, go_sem, y0, y1, y2, y3]; try rfl) rfl ?_
          rw [HDE.out, if_neg (by rintro (h | h); · cases h
                                  · exact HRL.out h), if_neg (by decide)]
          exact ⟨_, _, _, _, rfl, pg0_at _ _, HBF.out⟩
        | true =>
          obtain ⟨WF, hWF⟩ : ∃ WF, set4 w6 w.heap.size (.slice a1 r.1.ty.length n1) (.slice a2 r.1.fu.length n2) (.slice a3 r.1.ta.length n3) (.slice a4 r.1.st.length n4) = WF := ⟨_, rfl⟩
          obtain ⟨y0, y1, y2, y3⟩ : WF.cell? ⟨w.heap.size, 0, none⟩ = some (.slice a1 r.1.ty.length n1) ∧ WF.cell? ⟨w.heap.size, 1, none⟩ = some (.slice a2 r.1.fu.length n2) ∧ WF.cell? ⟨w.heap.size, 2, none⟩ = some (.slice a3 r.1.ta.length n3) ∧ WF.cell? ⟨w.heap.size, 3, none⟩ = some (.slice a4 r.1.st.length n4) := by rw [← hWF]; exact set4_cells HR6.out _ _ _ _
          have HBF := hide (show Below w.heap.size w WF from hWF ▸ set4_below B6.out (Nat.le_refl _) _ _ _ _)
          have HPF := hide (show PgR WF (.slice a1 r.1.ty.length n1) (.slice a2 r.1.fu.length n2) (.slice a3 r.1.ta.length n3) (.slice a4 r.1.st.length n4) r.1 from hWF ▸ HPG.out.keepX (HSM.out _ _ _ _))
          unfold set4 at hWF
          go_wp2
          refine bodyPost_ret (by simp [results, Try.results13, go_sem, y0, y1, y2, y3]; try rfl) rfl ?_
          rw [HDE.out, if_neg (by rintro (h | h); · cases h
                                  · exact HRL.out h), if_pos (by trivial)]
          exact ⟨_, _, _, _, rfl, HPF.out.at, HBF.out⟩
end
end Go.Proofs.Ytnkdlbiicfnmcaa
