/- Push: a frame more. -/
import Derived.Test.YtjapfckadikjiaaStD
namespace Go.Proofs.Ytjapfckadikjiaa
open Go.RowKit
section
variable {X : Sx} {s : Sk} {w : World}
theorem sta_push (s : Sk) (ps : List Bool) : sta 0 (pushS s ps).fr = sta 0 s.fr ++ [s.ws.length] := by
  unfold pushS; rw [sta_snoc]; simp [Sk.ws]
set_option maxHeartbeats 4000000 in
theorem push_ok (w : World) (L : Sl X w s) (I : SInv s) {v : Value} {ps : List Bool} (hv : BoolsAt X w v ps) (h : pushOk s ps.length = true) :
    Calls Try.prog 10 #[X.p, v] w fun e w' => e = .returned (.int .i64 0) ∧ ∃ X', Sl X' w' (pushS s ps) ∧ Stp X X' w w' := by
  have c1 := L.c1
  have c2 := L.c2
  have c3 := L.c3
  obtain ⟨a1, p1, h1⟩ := L.wlen
  obtain ⟨a2, p2, h2⟩ := L.slen
  obtain ⟨ao, cap, rfl⟩ := hv.form
  rw [h1] at c2
  rw [h2] at c3
  have hm0 := I.m0
  have hm1 := I.m1
  have h' := of_decide_eq_true h
  have b1 : (s.ws.length : Int) ≤ 65536 := by omega
  have b2 : (s.fr.length : Int) < 1000 := by omega
  have b3 : (ps.length : Int) ≤ 65536 := by omega
  have d1 : decide (1000 ≤ (s.fr.length : Int)) = false := by simp; omega
  have d2 : decide (1000 ≤ s.fr.length) = false := by simp; omega
  have d3 : decide (s.most - (s.ws.length : Int) < (ps.length : Int)) = false := by simp; omega
  have LH := hide L
  have HP := hide hv
  have HW := hide h1
  have HS := hide h2
  have HK := hide h'
  clear h h' h1 h2 L I hv
  generalize hm : s.most = mo at *
  generalize hnw : s.ws.length = nw at *
  generalize hnf : s.fr.length = nf at *
  have Hm := hide hm
  have Hnw := hide hnw
  have Hnf := hide hnf
  clear hm hnw hnf
  go_enter Try.func10, Try.ntmps10
  go_wp2
  go_quiet (fail)
  have L2 := hide (LH.out.drewN nq)
  have S2 := hide (Stp.of_below (X := X) (below_drewN (Below.refl w.heap.size w) nq))
  have HP2 : Hid (BoolsAt X (w.drewN nq) (.slice ao ps.length cap) ps) := HP
  have c2 : (w.drewN nq).cell? ⟨X.A, 2, none⟩ = _ := c2
  have c3 : (w.drewN nq).cell? ⟨X.A, 3, none⟩ = _ := c3
  revert L2 S2 HP2 c2 c3
  generalize w.drewN nq = w2
  intro L2 S2 HP2 c2 c3
  have hAlt : X.A < w2.heap.size := lt_of_block L2.out.blk
  obtain ⟨W3, hW3⟩ : ∃ W3, (w2.alloc (.cells #[.int .i64 (nw : Int)] 3)).drew = W3 := ⟨_, rfl⟩
  have z3 : W3.heap.size = w2.heap.size + 1 := by rw [← hW3]; show (w2.alloc _).heap.size = _; rw [World.size_alloc]
  have M3 : Mid X W3 s.base s.most s.ws (sta 0 s.fr) := by rw [← hW3]; exact (L2.out.alloc _).drew.mid
  have hnb : W3.heap[w2.heap.size]? = some (.cells #[.int .i64 (nw : Int)] 3 (0, 0)) := by rw [← hW3]; show (w2.alloc _).heap[_]? = _; rw [heap_new _ _ rfl]
  obtain ⟨g, cp, w4, hrun, hown, hgrow, hat, hlt⟩ := run_app1 M3.sts hnb (by rw [sta_length, Hnf.out]; omega) (by have := L2.out.hB; omega)
  have hst : (sta 0 s.fr).length + 1 = (sta 0 s.fr ++ [s.ws.length]).length := by simp
  have hown' : w4.ownsRow X.B 3 1 (.slice (some ⟨g, 0, none⟩) (sta 0 s.fr ++ [s.ws.length]).length cp) (sta 0 s.fr ++ [s.ws.length]).length (addrs (sta 0 s.fr ++ [s.ws.length])) := by
    rw [← hst, show addrs (sta 0 s.fr ++ [s.ws.length]) = addrs (sta 0 s.fr) ++ [.int .i64 (nw : Int)] by simp [addrs, Hnw.out]]; exact hown
  obtain ⟨M4, S4⟩ := M3.appS hgrow hat hown'
  have hS3 : Stp X X w2 W3 := Stp.of_below (by rw [← hW3]; exact ((Below.refl _ _).alloc (Nat.le_refl _) _).drew)
  have hA4 : w4.heap[X.A]? = W3.heap[X.A]? := hgrow.block X.A (lt_of_block M3.blk) (fun e => M3.ne.2.1 X.A e.symm rfl)
  have c4 : w4.cell? ⟨X.A, 3, none⟩ = some X.vs := by simp [World.cell?, hA4, M3.blk]
  have f4 : w4.frozen? ⟨X.A, 3, none⟩ = false := by simp [World.frozen?, hA4, M3.blk]
  have hlen : (sta 0 s.fr ++ [s.ws.length]).length = nf + 1 := by rw [← hst, sta_length, Hnf.out]
  rw [hlen] at M4 S4
  rw [sta_length, Hnf.out, HS.out] at hrun
  rw [HS.out] at c4
  obtain ⟨st, hst0⟩ : ∃ st, sta 0 s.fr ++ [s.ws.length] = st := ⟨_, rfl⟩
  rw [hst0] at M4
  have HST := hide hst0
  have M4h := hide M4
  have S4h := hide (S2.out.trans (hS3.trans S4))
  clear M4 S4 hst0 hown hown' hgrow hat hlt M3 hnb hA4 hS3 z3 hst hlen
  subst hW3
  go_wp2
  go_region_law (refine step_append_eq rfl _ _ 50 rfl rfl rfl hrun ?_)
  all_goals
    go_wp2
    go_loopw [48] (fun i wr => ∃ (j : Nat) (Y : Sx), j ≤ ps.length ∧ i = .int .i64 j ∧ Y.A = X.A ∧ Y.B = X.B ∧ Mid Y wr s.base s.most (pw s ps j) st ∧ Stp X Y w wr) (fun i _ => ps.length - (intOf i).toNat)
    case atStart => exact ⟨0, { X with vs := .slice (some ⟨g, 0, none⟩) (nf + 1) cp }, Nat.zero_le _, rfl, rfl, rfl, by rw [show pw s ps 0 = s.ws by simp [pw]]; exact M4h.out, S4h.out⟩
    case round =>
      obtain ⟨j, Y, hj, rfl, hYA, hYB, M, S⟩ := hrel
      by_cases hlt : j < ps.length
      · obtain ⟨q, hq⟩ : ∃ q, ps[j]? = some q := ⟨ps[j], by simp [hlt]⟩
        obtain ⟨b, off, hao, cb⟩ : ∃ b off, ao = some ⟨b, off, none⟩ ∧ wr.cell? ⟨b, off + j, none⟩ = some (.bool q) := by
          rcases HP.out with ⟨h1, _⟩ | ⟨b, off, cap', h1, h2, h3, h4⟩
          · rw [h1] at hlt; simp at hlt
          · cases h1
            exact ⟨b, off, rfl, (World.cell?_of_block (w := w) (S.block b h2 h3)).trans (h4 j q hq)⟩
        subst hao
        have HQ := hide (pw_cells (s := s) hq)
        have HPL := hide (pw_length (s := s) (show j + 1 ≤ ps.length by omega))
        have HPL0 := hide (pw_length (s := s) hj)
        obtain ⟨W3, hW3⟩ : ∃ W3, wr.alloc (.cells #[.int .i64 0, .bool q] 65) = W3 := ⟨_, rfl⟩
        have z3 : W3.heap.size = wr.heap.size + 1 := by rw [← hW3, World.size_alloc]
        have M3 : Mid Y W3 s.base s.most (pw s ps j) st := by rw [← hW3]; exact M.alloc _
        have hnb : W3.heap[wr.heap.size]? = some (.cells #[.int .i64 0, .bool q] 65 (0, 0)) := by rw [← hW3, heap_new _ _ rfl]
        obtain ⟨g, cp, w5, hrun, hown, hgrow, hat, hltg⟩ := run_appW M3.wds hnb (by rw [HPL0.out, Hnw.out]; omega) (by have := M.hB; omega)
        have hln : (pw s ps j).length + 1 = (pw s ps (j + 1)).length := by rw [HPL.out, HPL0.out]; omega
        rw [hln, ← HQ.out] at hown
        obtain ⟨M5, S5⟩ := M3.appW hgrow hat hown
        have hS3 : Stp Y Y wr W3 := Stp.of_below (by rw [← hW3]; exact (Below.refl _ _).alloc (Nat.le_refl _) _)
        have hA5 : w5.heap[Y.A]? = W3.heap[Y.A]? := hgrow.block Y.A (lt_of_block M3.blk) (fun e => M3.ne.1 Y.A e.symm rfl)
        obtain ⟨ay, py, hvy⟩ : ∃ ay py, Y.vw = .slice ay (nw + j) py := by
          rcases M.wds.2 with ⟨h1, h2⟩ | ⟨g', cap', cur, h1, _⟩
          · exact ⟨none, 0, by rw [h1]; rw [HPL0.out, Hnw.out] at h2; rw [h2]⟩
          · exact ⟨_, cap', by rw [h1, HPL0.out, Hnw.out]⟩
        have cy : wr.cell? ⟨X.A, 2, none⟩ = some (.slice ay (nw + j) py) := by rw [← hvy, ← hYA]; simp [World.cell?, M.blk]
        have c5 : w5.cell? ⟨X.A, 2, none⟩ = some (.slice ay (nw + j) py) := by rw [← hvy, ← hYA]; simp [World.cell?, hA5, M3.blk]
        have f5 : w5.frozen? ⟨X.A, 2, none⟩ = false := by rw [← hYA]; simp [World.frozen?, hA5, M3.blk]
        rw [hvy, HPL0.out, Hnw.out] at hrun
        rw [HPL.out, Hnw.out, hYA, ← Nat.add_assoc] at M5 S5
        have M5h := hide M5
        have S5h := hide (S.trans (hS3.trans S5))
        have bj : (j : Int) < (ps.length : Int) := by omega
        have bn : (nw : Int) + j ≤ 131072 := by omega
        have HYA := hide hYA
        have HYB := hide hYB
        clear M5 S5 hown hgrow hat hltg M3 hnb hA5 hS3 z3 hln hvy M S hYA hYB hq HQ HPL HPL0
        subst hW3
        go_wp2_with (at_builtin; refine wpList_append_eq rfl _ _ 61 rfl rfl rfl hrun ?_)
        go_wp2
        go_roundw
        case rel => exact ⟨j + 1, { B := Y.B, A := X.A, vw := .slice (some ⟨g, 0, none⟩) (nw + j + 1) cp, vs := Y.vs }, by omega, by go_num, rfl, HYB.out, M5h.out, S5h.out⟩
        case measure => simp [intOf]; omega
      · obtain rfl : j = ps.length := by omega
        go_wp2
        go_ret
        refine ⟨rfl, Y, Mid.sl ?_, S⟩
        rw [sta_push, HST.out, pushS_ws]
        have h1 : pw s ps ps.length = s.ws ++ ps.map fun b => ⟨0, b⟩ := by simp [pw]
        rw [h1] at M
        exact M
end
end Go.Proofs.Ytjapfckadikjiaa
