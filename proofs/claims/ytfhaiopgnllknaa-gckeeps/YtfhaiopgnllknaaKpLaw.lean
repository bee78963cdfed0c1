/- The law GcKeeps. -/
import Derived.Test.YtfhaiopgnllknaaKpG
import Derived.Deep.DrawnRows
import Derived.Deep.CutRange
import Derived.Deep.RegionHeld3
namespace Go.Proofs.Ytfhaiopgnllknaa
open Go.RowKit Go.Maps

set_option maxRecDepth 100000 in
set_option maxHeartbeats 20000000 in
theorem keeps_law (v0 v1 : Value) (la lb : List Nat) (w : World) (hs0 : B16 w v0 la) (hs1 : Bts w v1 lb) : Calls Try.prog 4 #[v0, v1] w fun e w' => e = .returned (.bool true) ∧ Below w.heap.size w w' := by
  obtain ⟨W1, hW1⟩ : ∃ W1, (w.alloc (.cells #[.int .i64 0, .int .i64 2, .int .i64 2] 3)).alloc (.cells #[.slice (some ⟨w.heap.size, 0, none⟩) 3 3] 62) = W1 := ⟨_, rfl⟩
  have hB1 : Below w.heap.size w W1 := by rw [← hW1]; exact ((Below.refl _ w).alloc (Nat.le_refl _) _).alloc (by simp) _
  have hR : LaysAt W1 (.slice (some ⟨w.heap.size + 1, 0, none⟩) 1 1) [[0, 2, 2]] := by
    have h0 : W1.heap[w.heap.size]? = some (.cells (ints [0, 2, 2]).toArray 3 (0, 0)) := by rw [← hW1, Below.heap_alloc _ _ _ (by simp), heap_new _ _ rfl]; rfl
    have h1 : W1.heap[w.heap.size + 1]? = some (.cells #[.slice (some ⟨w.heap.size, 0, none⟩) 3 3] 62 (0, 0)) := by rw [← hW1, heap_new _ _ (by simp)]
    refine ⟨_, _, rfl, fun j f hf => ?_⟩
    match j, hf with
    | 0, hf =>
      simp at hf; subst hf
      exact ⟨w.heap.size + 1, 0, _, rfl, lt_of_block h1, by simp [World.cell?, h1], ints_block h0 (by intro x hx; simp at hx; omega) 3⟩
    | j + 1, hf => simp at hf
  have hnew := hp_new (n := 3000) (by decide) hR (by decide)
  obtain ⟨a0, c0, rfl, hb0⟩ := hs0
  obtain ⟨a1, c1, rfl, hb1⟩ := hs1
  have HB0 := hide hb0
  have HB1 := hide hb1
  clear hb0 hb1
  generalize hn0 : la.length = n0 at *
  generalize hn1 : lb.length = n1' at *
  have HN0 := hide hn0
  have HN1 := hide hn1
  have HB := hide hB1
  have HW := hide hW1
  clear hn0 hn1 hB1 hR
  rw [show ((3000 : Nat) : Int) = 3000 from rfl] at hnew
  clear hW1
  go_enter Try.func4, Try.ntmps4
  go_wp2_with fail
  rw [HW.out]
  refine hnew.mono ?_
  rintro e w1 ⟨H, rfl, P1⟩
  clear hnew HW
  go_wp2_with fail
  refine (awake_any w1).mono ?_
  rintro e w2 ⟨rfl, hb2⟩
  have P2 := hide (P1.out.under hb2)
  clear P1 hb2
  go_wp2
  go_loopw [7, 8] (fun va i wr => J1 W1 wr H va i) (fun _ i _ => 20 - (intOf i).toNat)
  case atStart => exact J1.new P2.out
  case round =>
    clear P2
    obtain ⟨m, h, vs, hm, rfl, rfl, hvs, K, M⟩ := hrel.ex
    clear hrel
    have HK := hide K
    have HM := hide M
    have HV := hide hvs
    clear K M hvs
    by_cases hm20 : m < 20
    · have d1 : decide ((m : Int) < 20) = true := by simp; omega
      as_aux_lemma =>
        obtain ⟨s', ha, K1⟩ := HK.out.make hm20 (fun q h1 h2 => by
          unfold Wf
          rw [wl0_get]
          split
          · rw [if_neg (by omega)]
          · rfl)
        obtain ⟨x, hx⟩ : ∃ x, x = 6 * m + 1 := ⟨_, rfl⟩
        have HX := hide hx
        rw [← hx] at ha K1
        obtain ⟨hset, K2⟩ : setHP (makeH h 0 2 x s') (x : Int) m = (0, setH (makeH h 0 2 x s') x m) ∧ Ks (setH (makeH h 0 2 x s') x m) (m + 1) (m + 1) wl0 := by rw [hx] at K1 ⊢; exact K1.number hm20
        have hmk := me_make HM.out (m := 0) (n := 2) (x := x) (f := [false, true, true]) (s' := s') (by rw [HK.out.ty]; rfl) (by decide) (by omega) (by decide) ha
        have HS := hide hset
        have HK2 := hide K2
        have bm : (m : Int) < 20 := by omega
        have bx : (x : Int) ≤ 200 := by omega
        clear ha K1 K2 hset hx HM HK
        go_wp2_with fail
        refine hmk.mono ?_
        rintro e w3 ⟨rfl, M3⟩
        have hst := me_set M3.out.1 (x := (x : Int)) (v := (m : Int)) (by omega) (by omega) HS.out HK2.out.inv
        clear hmk M3
        go_wp2_with fail
        refine hst.mono ?_
        rintro e w4 ⟨rfl, M4⟩
        obtain ⟨v', w5, hr, M5, _⟩ := M4.out.1.app1 20 (x : Int) (by rw [T1_at, ats_len]; omega)
        have HM5 := hide M5
        clear hst M4 M5
        go_wp2_with (at_builtin; refine wpList_append_eq rfl _ _ 31 rfl rfl rfl hr ?_)
        go_roundw
        case rel =>
          refine ⟨m + 1, _, _, by omega, by go_num, (upd_same _ _ _).symm, fun j hj => (upd_other _ _ hj).trans (HV.out j hj), HK2.out, ?_⟩
          have := HM5.out
          rw [T1_at, show (x : Int) = ((6 * m + 1 : Nat) : Int) by rw [HX.out], ats_snoc, show upd (T1 m) 20 (ats (m + 1)) = T1 (m + 1) from upd_upd _ _ _ _] at this
          exact this
        case measure => simp [intOf]; omega
    · obtain rfl : m = 20 := by omega
      have hmk1 := mkTo
      have hmk2 := mkWord
      obtain ⟨gA, oA, cA, hva⟩ := HM.out.addrs (T1_at 20)
      have HVA := hide hva
      have HJ := hide (J2.new (n0 := n0) HK.out HM.out)
      clear HK HM
      go_upto_region 14 with fail
      rw [hva]
      clear hva hmk1 hmk2
      revert HJ
      generalize (wr.alloc (.cells (Array.replicate 20 nilv) 31)).alloc (.cells (ints wl0).toArray 3) = W2
      obtain ⟨gT, hgT⟩ : ∃ gT, gT = wr.heap.size := ⟨_, rfl⟩
      obtain ⟨gW, hgW⟩ : ∃ gW, gW = gT + 1 := ⟨_, rfl⟩
      rw [← hgT, ← hgW]
      intro HJ
      have HG := hide hgW
      clear hgT hgW
      iterate 7 go_step
      go_cut [13, 14, 15, 16, 17] from 79 to 144 (fun a _ _ _ _ wc => J2 W1 wc H gT gW n0 vs a)
      case first =>
        go_wp2
        go_loopw [13] (fun i wr => J2 W1 wr H gT gW n0 vs i) (fun i _ => 60 - (intOf i).toNat)
        case atStart => exact HJ.out
        case round =>
          clear HJ
          obtain ⟨j, h2, wl, hj0, hj60, rfl, K, L, M, bW, bT⟩ := hrel.ex
          clear hrel
          have HK := hide K
          have HL := hide L
          have HM := hide M
          have HBW := hide bW
          have HBT := hide bT
          have HBE := hide (HB.out.trans (M.bel.mono HB.out.size))
          clear K L M bW bT
          by_cases hrun : j < n0 ∧ j < 60
          · obtain ⟨hr1, hr2⟩ := hrun
            have d1 : decide ((j : Int) < (n0 : Int)) = true := by simp; omega
            have d2 : decide ((j : Int) < 60) = true := by simp; omega
            obtain ⟨u, hu⟩ : ∃ u, la[j]? = some u := ⟨la[j]'(by rw [HN0.out]; exact hr1), by simp⟩
            obtain ⟨hu1, g0, o0, rfl, hg0, hcu⟩ := HB0.out _ u hu
            have cu : wr.cell? ⟨g0, o0 + j, none⟩ = some (.int .u16 (u : Int)) := by rw [HBE.out.cell (p := ⟨g0, o0 + j, none⟩) hg0]; exact hcu
            obtain ⟨n4, hn4⟩ : ∃ n4, n4 = u / 400 := ⟨_, rfl⟩
            obtain ⟨n2, hn2⟩ : ∃ n2, n2 = u / 20 := ⟨_, rfl⟩
            obtain ⟨n1, hn1⟩ : ∃ n1, n1 = u / 1600 := ⟨_, rfl⟩
            obtain ⟨c, hc⟩ : ∃ c, c = n4 % 4 := ⟨_, rfl⟩
            obtain ⟨p, hp⟩ : ∃ p, p = u % 20 := ⟨_, rfl⟩
            obtain ⟨t, ht⟩ : ∃ t, t = n2 % 20 := ⟨_, rfl⟩
            obtain ⟨i6, hi6⟩ : ∃ i6, i6 = n1 % 6 := ⟨_, rfl⟩
            have q4 : (u : Int).tdiv 400 = (n4 : Int) := by rw [Int.tdiv_eq_ediv_of_nonneg (by omega)]; omega
            have q4' : (u : Int) / 400 = (n4 : Int) := by omega
            have q2 : (u : Int).tdiv 20 = (n2 : Int) := by rw [Int.tdiv_eq_ediv_of_nonneg (by omega)]; omega
            have q2' : (u : Int) / 20 = (n2 : Int) := by omega
            have q1 : (u : Int).tdiv 1600 = (n1 : Int) := by rw [Int.tdiv_eq_ediv_of_nonneg (by omega)]; omega
            have q1' : (u : Int) / 1600 = (n1 : Int) := by omega
            have r4 : (n4 : Int).tmod 4 = (c : Int) := by rw [Int.tmod_eq_emod_of_nonneg (by omega)]; omega
            have r4' : (n4 : Int) % 4 = (c : Int) := by omega
            have r2 : (n2 : Int).tmod 20 = (t : Int) := by rw [Int.tmod_eq_emod_of_nonneg (by omega)]; omega
            have r2' : (n2 : Int) % 20 = (t : Int) := by omega
            have r1 : (n1 : Int).tmod 6 = (i6 : Int) := by rw [Int.tmod_eq_emod_of_nonneg (by omega)]; omega
            have r1' : (n1 : Int) % 6 = (i6 : Int) := by omega
            have r0 : (u : Int).tmod 20 = (p : Int) := by rw [Int.tmod_eq_emod_of_nonneg (by omega)]; omega
            have r0' : (u : Int) % 20 = (p : Int) := by omega
            have hc4 : c < 4 := by omega
            have hp20 : p < 20 := by omega
            have ht20 : t < 20 := by omega
            have hi66 : i6 < 6 := by omega
            have b4 : (n4 : Int) ≤ 163 := by omega
            have b2 : (n2 : Int) ≤ 3276 := by omega
            have b1 : (n1 : Int) ≤ 40 := by omega
            have bc : (c : Int) < 4 := by omega
            have bp : (p : Int) < 20 := by omega
            have bt : (t : Int) < 20 := by omega
            have bi : (i6 : Int) < 6 := by omega
            obtain ⟨f, hf6, hf3, hfc⟩ := field c hc4
            have bf : (f : Int) < 6 := by omega
            have hu2 : (u : Int) ≤ 65535 := by omega
            clear hn4 hn2 hn1 hc hp ht hi6
            have x1 : IntKind.u16.wrap (n4 : Int) = n4 := by rw [IntKind.wrap_u16]; omega
            have x2 : IntKind.u16.wrap (n2 : Int) = n2 := by rw [IntKind.wrap_u16]; omega
            have x3 : IntKind.u16.wrap (n1 : Int) = n1 := by rw [IntKind.wrap_u16]; omega
            have x4 : IntKind.i64.wrap (p : Int) = p := by rw [IntKind.wrap_i64]; omega
            have x5 : IntKind.i64.wrap (t : Int) = t := by rw [IntKind.wrap_i64]; omega
            have x6 : IntKind.i64.wrap (i6 : Int) = i6 := by rw [IntKind.wrap_i64]; omega
            clear hu hcu
            go_upto_region 17 with fail
            go_cut [14, 15, 16] from 79 to 144 (fun a b d wc => a = .int .i64 (p : Int) ∧ b = .int .i64 (t : Int) ∧ d = .int .i64 (f : Int) ∧ Hid (Below wr.heap.size wr wc))
            case first =>
              have hdc : decide ((c : Int) < 4) = true := by simp; omega
              have hgl : g0 < wr.heap.size := Nat.lt_of_lt_of_le hg0 HBE.out.size
              refine wp_region_held_drew (S := fun w' => w'.cell? ⟨g0, o0 + j, none⟩ = some (.int .u16 (u : Int))) (by kernel_rfl) cu (fun hHeld => ?_)
              refine wpAnyH_take (i := 0) (v := ?v1) rfl (by kernel_rfl) (by kernel_rfl) (by kernel_rfl) (fun _ _ _ h => h) (Or.inl ⟨by rfl, ?hy1⟩) (by assumption) ?rest1
              case hy1 => (intro w hSw; (try dsimp only at hSw); go_simp; try with_reducible rfl)
              simp only [Act.put, List.setIfInBounds_toArray]
              refine wpAnyH_take (i := 1) (v := ?v2) rfl (by kernel_rfl) (by kernel_rfl) (by kernel_rfl) (fun _ _ _ h => h) (Or.inl ⟨by rfl, ?hy2⟩) (by assumption) ?rest2
              case hy2 => (intro w hSw; (try dsimp only at hSw); go_simp; try with_reducible rfl)
              simp only [Act.put]
              refine wpAnyH_take (i := 2) (v := ?v3) rfl (by kernel_rfl) (by kernel_rfl) (by kernel_rfl) (fun _ _ _ h => h) (Or.inl ⟨by rfl, ?hy3⟩) (by assumption) ?rest3
              case hy3 => (intro w hSw; (try dsimp only at hSw); go_simp; try with_reducible rfl)
              simp only [Act.put]
              refine wpAnyH_take (i := 3) (v := ?v4) rfl (by kernel_rfl) (by kernel_rfl) (by kernel_rfl) (fun _ _ _ h => h) (Or.inl ⟨by rfl, ?hy4⟩) (by assumption) ?rest4
              case hy4 => (intro w hSw; (try dsimp only at hSw); go_simp; try with_reducible rfl)
              simp only [Act.put]
              refine wpAnyH_take (i := 4) (v := ?v5) rfl (by kernel_rfl) (by kernel_rfl) (by kernel_rfl) (fun _ _ _ h => h) (Or.inl ⟨by rfl, ?hy5⟩) (by assumption) ?rest5
              case hy5 => (intro w hSw; (try dsimp only at hSw); go_simp; try with_reducible rfl)
              simp only [Act.put]
              refine wpAnyH_take (i := 5) (v := ?v6) rfl (by kernel_rfl) (by kernel_rfl) (by kernel_rfl) (fun _ _ _ h => h) (Or.inl ⟨by rfl, ?hy6⟩) (by assumption) ?rest6
              case hy6 => (intro w hSw; (try dsimp only at hSw); go_simp; try with_reducible rfl)
              simp only [Act.put]
              refine wpAnyH_take (i := 6) (v := ?v7) rfl (by kernel_rfl) (by kernel_rfl) (by kernel_rfl) (fun _ _ _ h => h) (Or.inl ⟨by rfl, ?hy7⟩) (by assumption) ?rest7
              case hy7 => (intro w hSw; (try dsimp only at hSw); go_simp; try with_reducible rfl)
              simp only [Act.put]
              refine wpAnyH_take (i := 7) (v := ?v8) rfl (by kernel_rfl) (by kernel_rfl) (by kernel_rfl) (fun _ _ _ h => h) (Or.inl ⟨by rfl, ?hy8⟩) (by assumption) ?rest8
              case hy8 => (intro w hSw; (try dsimp only at hSw); go_simp; try with_reducible rfl)
              simp only [Act.put]
              refine wpAnyH_take (i := 8) (v := ?v9) rfl (by kernel_rfl) (by kernel_rfl) (by kernel_rfl) (fun _ _ _ h => h) (Or.inl ⟨by rfl, ?hy9⟩) (by assumption) ?rest9
              case hy9 => (intro w hSw; (try dsimp only at hSw); go_simp; try with_reducible rfl)
              simp only [Act.put]
              refine wpAnyH_take (i := 9) (v := ?v10) rfl (by kernel_rfl) (by kernel_rfl) (by kernel_rfl) (fun _ _ _ h => h) (Or.inl ⟨by rfl, ?hy10⟩) (by assumption) ?rest10
              case hy10 => (intro w hSw; (try dsimp only at hSw); go_simp; try with_reducible rfl)
              simp only [Act.put]
              refine wpAnyH_take (i := 10) (v := ?v11) rfl (by kernel_rfl) (by kernel_rfl) (by kernel_rfl) (fun _ _ _ h => h) (Or.inl ⟨by rfl, ?hy11⟩) (by assumption) ?rest11
              case hy11 => (intro w hSw; (try dsimp only at hSw); go_simp; try with_reducible rfl)
              simp only [Act.put]
              refine wpAnyH_take (i := 11) (v := ?v12) rfl (by kernel_rfl) (by kernel_rfl) (by kernel_rfl) (fun _ _ _ h => h) (Or.inl ⟨by rfl, ?hy12⟩) (by assumption) ?rest12
              case hy12 => (intro w hSw; (try dsimp only at hSw); go_simp; try with_reducible rfl)
              simp only [Act.put]
              refine wpAnyH_take (i := 12) (v := ?v13) rfl (by kernel_rfl) (by kernel_rfl) (by kernel_rfl) (fun _ _ _ h => h) (Or.inl ⟨by rfl, ?hy13⟩) (by assumption) ?rest13
              case hy13 => (intro w hSw; (try dsimp only at hSw); go_simp; try with_reducible rfl)
              simp only [Act.put]
              refine wpAnyH_take (i := 14) (v := ?v14) rfl (by kernel_rfl) (by kernel_rfl) (by kernel_rfl) (fun _ _ _ h => h) (Or.inl ⟨by rfl, ?hy14⟩) (by assumption) ?rest14
              case hy14 => (intro w hSw; (try dsimp only at hSw); go_simp; try with_reducible rfl)
              simp only [Act.put]
              refine wpAnyH_take (i := 15) (v := ?v15) rfl (by kernel_rfl) (by kernel_rfl) (by kernel_rfl) (fun _ _ _ h => h) (Or.inl ⟨by rfl, ?hy15⟩) (by assumption) ?rest15
              case hy15 => (intro w hSw; (try dsimp only at hSw); go_simp; try with_reducible rfl)
              simp only [Act.put]
              refine wpAnyH_take (i := 16) (v := ?v16) rfl (by kernel_rfl) (by kernel_rfl) (by kernel_rfl) (fun _ _ _ h => h) (Or.inl ⟨by rfl, ?hy16⟩) (by assumption) ?rest16
              case hy16 => (intro w hSw; (try dsimp only at hSw); go_simp; try with_reducible rfl)
              simp only [Act.put]
              refine wpAnyH_take (i := 17) (v := ?v17) rfl (by kernel_rfl) (by kernel_rfl) (by kernel_rfl) (fun _ _ _ h => h) (Or.inl ⟨by rfl, ?hy17⟩) (by assumption) ?rest17
              case hy17 => (intro w hSw; (try dsimp only at hSw); go_simp; try with_reducible rfl)
              simp only [Act.put]
              refine wpAnyH_take (i := 18) (v := ?v18) rfl (by kernel_rfl) (by kernel_rfl) (by kernel_rfl) (fun _ _ _ h => h) (Or.inl ⟨by rfl, ?hy18⟩) (by assumption) ?rest18
              case hy18 => (intro w hSw; (try dsimp only at hSw); go_simp; try with_reducible rfl)
              simp only [Act.put]
              refine wpAnyH_take (i := 19) (v := ?v19) rfl (by kernel_rfl) (by kernel_rfl) (by kernel_rfl) (fun _ _ _ h => h) (Or.inl ⟨by rfl, ?hy19⟩) (by assumption) ?rest19
              case hy19 => (intro w hSw; (try dsimp only at hSw); go_simp; try with_reducible rfl)
              simp only [Act.put]
              refine wpAnyH_take (i := 22) (v := ?v20) rfl (by kernel_rfl) (by kernel_rfl) (by kernel_rfl) (fun _ _ _ h => h) (Or.inl ⟨by rfl, ?hy20⟩) (by assumption) ?rest20
              case hy20 => (intro w hSw; (try dsimp only at hSw); go_simp; try with_reducible rfl)
              simp only [Act.put]
              refine wpAnyH_take (i := 23) (v := ?v21) rfl (by kernel_rfl) (by kernel_rfl) (by kernel_rfl) (fun _ _ _ h => h) (Or.inl ⟨by rfl, ?hy21⟩) (by assumption) ?rest21
              case hy21 => (intro w hSw; (try dsimp only at hSw); go_simp; try with_reducible rfl)
              simp only [Act.put]
              refine wpAnyH_ready (rs := [13]) (by kernel_rfl) (by simp) ?_
              refine AllReadyH.cons (o := _) rfl (fun K hK => ?_) AllReadyH.nil
              go_simp
              refine hK.out _ _ ?_ (fun hHeld0 => ?_)
              · first | assumption | go_keep
              clear hK K
              refine wpAnyH_ready (rs := [20]) (by kernel_rfl) (by simp) ?_
              refine AllReadyH.cons (o := _) rfl (fun K hK => ?_) AllReadyH.nil
              go_simp
              refine hK.out _ _ ?_ (fun hHeld1 => ?_)
              · first | assumption | go_keep
              clear hK K
              refine wpAnyH_ready (rs := [21]) (by kernel_rfl) (by simp) ?_
              refine AllReadyH.cons (o := _) rfl (fun K hK => ?_) AllReadyH.nil
              go_simp
              refine hK.out _ _ ?_ (fun hHeld2 => ?_)
              · first | assumption | go_keep
              clear hK K
              refine wpAnyH_ready (rs := [24]) (by kernel_rfl) (by simp) ?_
              refine AllReadyH.cons (o := _) rfl (fun K hK => ?_) AllReadyH.nil
              go_simp
              refine hK.out _ _ ?_ (fun hHeld3 => ?_)
              · first | assumption | go_keep
              clear hK K
              refine wpAnyH_done (by kernel_rfl) ?_ _
              go_wp2_with fail
              go_meet
              exact ⟨rfl, rfl, (by rcases (show c = 0 ∨ c = 1 ∨ c = 2 ∨ c = 3 by omega) with rfl | rfl | rfl | rfl <;> simpa using hfc), hide ((below_drewN (Below.refl _ wr) 1).alloc (Nat.le_refl _) _)⟩
            case rest =>
              obtain ⟨rfl, rfl, rfl, hb⟩ := hcut
              obtain ⟨M1, S1⟩ := HM.out.under hb.out
              have c1' : wc.cell? ⟨g0, o0 + j, none⟩ = some (.int .u16 (u : Int)) := by rw [hb.out.cell (p := ⟨g0, o0 + j, none⟩) (Nat.lt_of_lt_of_le hg0 HBE.out.size)]; exact cu
              have ca := M1.addr (T1_at 20) HVA.out hp20
              have ct := M1.addr (T1_at 20) HVA.out ht20
              obtain ⟨at1, hat1⟩ : ∃ a, a = 6 * p + 1 := ⟨_, rfl⟩
              obtain ⟨at2, hat2⟩ : ∃ a, a = 6 * t + 1 := ⟨_, rfl⟩
              rw [← hat1] at ca
              rw [← hat2] at ct
              obtain ⟨hset, K2, L2⟩ := HK.out.link HL.out (i := p) (f := f) (p := 6 * t + i6) hp20 hf6 hf3 (by omega)
              have M1' : Me W1 wc.drew H h2 40 [gW, gT] vs (T1 20) := (M1.under (below_drewN (Below.refl _ wc) 1)).1
              have hst := me_set M1' (x := ((6 * p + f + 1 : Nat) : Int)) (v := ((6 * t + i6 + 1 : Nat) : Int)) (by omega) (by omega) hset K2.inv
              rw [show ((6 * p + f + 1 : Nat) : Int) = (at1 : Int) + f by omega, show ((6 * t + i6 + 1 : Nat) : Int) = (at2 : Int) + i6 by omega] at hst
              have HK2 := hide K2
              have HL2 := hide L2
              have HBW1 := hide ((S1 gW (by simp)).trans HBW.out)
              have HBT1 := hide ((S1 gT (by simp)).trans HBT.out)
              have HA := hide (And.intro hat1 hat2)
              have ba1 : (at1 : Int) ≤ 200 := by omega
              have ba2 : (at2 : Int) ≤ 200 := by omega
              have ba3 : 0 ≤ (at1 : Int) := by omega
              have ba4 : 0 ≤ (at2 : Int) := by omega
              have y1 : IntKind.i64.wrap ((at1 : Int) + f) = (at1 : Int) + f := by rw [IntKind.wrap_i64]; omega
              have y2 : IntKind.i64.wrap ((at2 : Int) + i6) = (at2 : Int) + i6 := by rw [IntKind.wrap_i64]; omega
              clear M1 M1' S1 HM HK HL HBW HBT hset K2 L2 cu hat1 hat2 hb
              go_upto_region 19 with fail
              go_region_with (go_at_call 15; refine hst.mono ?_; rintro e w4 ⟨rfl, M4⟩)
              all_goals
                have ct4 := M4.out.1.addr (T1_at 20) HVA.out ht20
                rw [← HA.out.2] at ct4
                have bW4 := (M4.out.2 gW (by simp)).trans HBW1.out
                have bT4 := (M4.out.2 gT (by simp)).trans HBT1.out
                obtain ⟨x, hx⟩ : ∃ x, x = 6 * p + f := ⟨_, rfl⟩
                have hx2 : 6 * (p : Int) + f = (x : Int) := by omega
                have hx3 : x < 120 := by omega
                have hx4 : (x : Int) < 120 := by omega
                have hlw : wl.length = 120 := by have := HL2.out.len; rwa [List.length_set] at this
                obtain ⟨cw4, fw4⟩ := word_cell bW4 (q := x) (by omega)
                have e1 : (at2 : Int) + i6 = ((6 * t + i6 + 1 : Nat) : Int) := by have := HA.out.2; omega
                have HK3 := HK2
                have HL3 := HL2
                have HM4 := hide M4.out.1
                rw [← hx, ← e1] at HK3 HL3
                rw [← hx] at HM4
                have HJ := hide (J2.link hr1 hr2 HG.out HK3.out HL3.out HM4.out bW4 bT4)
                clear HK2 HL2 HK3 HL3 M4 HM4 bW4 bT4 hst HBW1 HBT1 e1 hx hlw ca ct
                go_wp2
                go_roundw
                case rel => (repeat apply Exists.intro); exact ⟨by first | exact HJ.out | simpa using HJ.out, rfl⟩
                case measure => simp [intOf]; omega
          · have hr : ¬ (j < n0) ∨ (j < n0 ∧ ¬ j < 60) := by omega
            have HJ := hide (⟨j, h2, wl, hj0, hj60, rfl, HK.out, HL.out, HM.out, HBW.out, HBT.out⟩ : J2 W1 wr H gT gW n0 vs (.int .i64 j))
            clear HK HL HM HBW HBT HBE
            rcases hr with hr | ⟨hr1, hr2⟩
            · have d1 : decide ((j : Int) < (n0 : Int)) = false := by simp; omega
              have d1' : decide (j < n0) = false := by simp; omega
              go_wp2
              go_meet
              exact HJ.out
            · have d1 : decide ((j : Int) < (n0 : Int)) = true := by simp; omega
              have d1' : decide (j < n0) = true := by simp; omega
              have d2 : decide ((j : Int) < 60) = false := by simp; omega
              have d2' : decide (j < 60) = false := by simp; omega
              go_wp2
              go_meet
              exact HJ.out
      case rest =>
        clear HJ
        obtain ⟨j, h2, wl, hj0, hj60, rfl, K, L, M, bW, bT⟩ := hcut.ex
        have HK := hide K
        have HL := hide L
        have HJ := hide (Jt.new HV.out HVA.out M bW bT)
        clear hcut K L M bW bT HV hj0 hj60
        go_upto_region 22 with fail
        iterate 7 go_step
        go_cut [18, 19, 20, 21] from 145 to 188 (fun _ _ _ _ wc => Jt W1 wc H gT gW h2 wl (.slice (some ⟨gA, oA, none⟩) 20 cA) (T3 wl 20 0))
        case first =>
          as_aux_lemma =>
            go_wp2
            go_loopw [18] (fun iv wr => ∃ i : Nat, i ≤ 20 ∧ iv = .int .i64 i ∧ Hid (Jt W1 wr H gT gW h2 wl (.slice (some ⟨gA, oA, none⟩) 20 cA) (T3 wl i 0))) (fun iv _ => 20 - (intOf iv).toNat)
            case atStart => exact ⟨0, by decide, rfl, HJ⟩
            case round =>
              clear HJ
              obtain ⟨i, hi, rfl, HJ⟩ := hrel
              by_cases hi20 : i < 20
              · have di : decide ((i : Int) < 20) = true := by simp; omega
                have bi : (i : Int) < 20 := by omega
                go_wp2
                go_loopw [19] (fun kv wr => ∃ k : Nat, k ≤ 6 ∧ kv = .int .i64 k ∧ Hid (Jt W1 wr H gT gW h2 wl (.slice (some ⟨gA, oA, none⟩) 20 cA) (T3 wl i k))) (fun kv _ => 6 - (intOf kv).toNat)
                case atStart => exact ⟨0, by decide, rfl, HJ⟩
                case round =>
                  clear HJ
                  obtain ⟨k, hk, rfl, HJ⟩ := hrel
                  by_cases hk6 : k < 6
                  · have dk : decide ((k : Int) < 6) = true := by simp; omega
                    have bk : (k : Int) < 6 := by omega
                    obtain ⟨q, hq⟩ : ∃ q, q = 6 * i + k := ⟨_, rfl⟩
                    have hq2 : 6 * (i : Int) + k = (q : Int) := by omega
                    have bq : (q : Int) < 120 := by omega
                    have HQ := hide hq
                    have hql : q < wl.length := by rw [HL.out.len]; omega
                    have HQL := hide hql
                    clear hq hql
                    rw [← T4_new wl k hi20] at HJ
                    go_wp2
                    go_loopw [20] (fun nv wr => ∃ n : Nat, n ≤ 20 ∧ nv = .int .i64 n ∧ Hid (Jt W1 wr H gT gW h2 wl (.slice (some ⟨gA, oA, none⟩) 20 cA) (T4 wl i k n))) (fun nv _ => 20 - (intOf nv).toNat)
                    case atStart => exact ⟨0, by decide, rfl, HJ⟩
                    case round =>
                      clear HJ
                      obtain ⟨n, hn, rfl, HJ⟩ := hrel
                      by_cases hn20 : n < 20
                      · have dn : decide ((n : Int) < 20) = true := by simp; omega
                        have bn : (n : Int) < 20 := by omega
                        obtain ⟨cw, _⟩ := word_cell HJ.out.word (q := q) HQL.out
                        have ca := HJ.out.addr (T4_at wl k n hi20) rfl hn20
                        obtain ⟨an, han⟩ : ∃ an, an = 6 * n + 1 := ⟨_, rfl⟩
                        rw [← han] at ca
                        obtain ⟨x, hx⟩ : ∃ x, x = wl.getD q 0 := ⟨_, rfl⟩
                        rw [← hx] at cw
                        have HX := hide (show wl.getD (6 * i + k) 0 = x by rw [hx, HQ.out])
                        have hwx := HL.out.word q
                        rw [← hx] at hwx
                        have bx1 : 0 ≤ x := by omega
                        have bx2 : x ≤ 120 := by omega
                        have ba1 : (an : Int) ≤ 200 := by omega
                        have ba0 : 0 ≤ (an : Int) := by omega
                        clear hx hwx
                        by_cases hin : ((an : Int) ≤ x ∧ x < (an : Int) + 6)
                        · obtain ⟨e1, e2⟩ := hin
                          have f1 : decide ((an : Int) ≤ x) = true := by simp; omega
                          have f2 : decide (x < (an : Int) + 6) = true := by simp; omega
                          have f3 : decide (x < (an : Int)) = false := by simp; omega
                          obtain ⟨v, ao, len, cap, w', cv, hrun, cv', fv', HJ2⟩ := HJ.out.push HG.out hi20 (n : Int) (T4_len (by omega))
                          rw [← T4_some (by rw [HX.out]; omega) (by rw [HX.out]; omega)] at HJ2
                          clear HJ
                          go_wp2_with (at_builtin; refine wpList_append_eq rfl _ _ 31 rfl rfl rfl hrun ?_)
                          go_roundw
                          case rel => (repeat apply Exists.intro); exact ⟨⟨n + 1, by omega, by go_num, HJ2⟩, rfl⟩
                          case measure => simp [intOf]; omega
                        · rw [← T4_none HL.out (by rw [HX.out]; omega)] at HJ
                          by_cases e1 : (an : Int) ≤ x
                          · have f1 : decide ((an : Int) ≤ x) = true := by simp; omega
                            have f2 : decide (x < (an : Int) + 6) = false := by simp; omega
                            have f3 : decide (x < (an : Int)) = false := by simp; omega
                            have f4 : (an : Int) + 6 ≤ x := by omega
                            clear hin
                            go_wp2
                            go_roundw
                            case rel => first | exact ⟨n + 1, by omega, by go_num, HJ⟩ | ((repeat apply Exists.intro); exact ⟨⟨n + 1, by omega, by go_num, HJ⟩, rfl⟩)
                            case measure => simp [intOf]; omega
                          · have f1 : decide ((an : Int) ≤ x) = false := by simp; omega
                            have f3 : decide (x < (an : Int)) = true := by simp; omega
                            clear hin
                            go_wp2
                            go_roundw
                            case rel => first | exact ⟨n + 1, by omega, by go_num, HJ⟩ | ((repeat apply Exists.intro); exact ⟨⟨n + 1, by omega, by go_num, HJ⟩, rfl⟩)
                            case measure => simp [intOf]; omega
                      · obtain rfl : n = 20 := by omega
                        rw [T4_done HL.out hi20] at HJ
                        go_wp2
                        go_roundw
                        case rel => exact ⟨k + 1, by omega, by go_num, HJ⟩
                        case measure => simp [intOf]; omega
                  · obtain rfl : k = 6 := by omega
                    rw [T3_next] at HJ
                    go_wp2
                    go_roundw
                    case rel => exact ⟨i + 1, by omega, by go_num, HJ⟩
                    case measure => simp [intOf]; omega
              · obtain rfl : i = 20 := by omega
                go_wp2
                go_meet
                exact HJ.out
        case rest =>
          clear HJ
          have hmk3 := mkStays
          have HJ := hide (J5.new (n1 := n1') (Jb.new hcut))
          clear hcut
          go_upto_region 35 with fail
          clear hmk3
          revert HJ
          generalize ((wc.alloc (.cells (bools s0).toArray 4)).alloc (.cells #[] 3)).alloc (.cells #[.int .i64 0] 3) = W4
          obtain ⟨gS, hgS⟩ : ∃ gS, gS = wc.heap.size := ⟨_, rfl⟩
          rw [← hgS]
          intro HJ
          clear hgS
          iterate 7 go_step
          go_cut [23, 24, 25] from 192 to 229 (fun vk vl iv wc => J5 W1 wc H gT gW gS n1' h2 wl (.slice (some ⟨gA, oA, none⟩) 20 cA) vk vl iv)
          case first =>
            as_aux_lemma =>
              go_wp2
              go_loopw [23, 24, 25] (fun vk vl iv wr => J5 W1 wr H gT gW gS n1' h2 wl (.slice (some ⟨gA, oA, none⟩) 20 cA) vk vl iv) (fun _ _ iv _ => 5 - (intOf iv).toNat)
              case atStart => exact HJ.out
              case round =>
                clear HJ
                obtain ⟨i, rs, l, hi1, hi5, rfl, hrl, hll, R, J⟩ := hrel.ex
                clear hrel
                have HBE := hide (HB.out.trans (J.bel.mono HB.out.size))
                have HR := hide R
                have HJ := hide J
                have HRL := hide (And.intro hrl hll)
                clear R J hrl hll
                by_cases hrun : i < n1' ∧ i < 5
                · obtain ⟨hr1, hr2⟩ := hrun
                  have d1 : decide ((i : Int) < (n1' : Int)) = true := by simp; omega
                  have d2 : decide ((i : Int) < 5) = true := by simp; omega
                  obtain ⟨u, hu⟩ : ∃ u, lb[i]? = some u := ⟨lb[i]'(by rw [HN1.out]; exact hr1), by simp⟩
                  obtain ⟨hu1, g1, o1, rfl, hg1, hcu⟩ := HB1.out _ u hu
                  have cu : wr.cell? ⟨g1, o1 + i, none⟩ = some (.int .u8 (u : Int)) := by rw [HBE.out.cell (p := ⟨g1, o1 + i, none⟩) hg1]; exact hcu
                  obtain ⟨n2, hn2⟩ : ∃ n2, n2 = u / 20 := ⟨_, rfl⟩
                  obtain ⟨p, hp⟩ : ∃ p, p = u % 20 := ⟨_, rfl⟩
                  obtain ⟨t, ht⟩ : ∃ t, t = n2 % 6 := ⟨_, rfl⟩
                  have q2 : (u : Int).tdiv 20 = (n2 : Int) := by rw [Int.tdiv_eq_ediv_of_nonneg (by omega)]; omega
                  have q2' : (u : Int) / 20 = (n2 : Int) := by omega
                  have r2 : (n2 : Int).tmod 6 = (t : Int) := by rw [Int.tmod_eq_emod_of_nonneg (by omega)]; omega
                  have r2' : (n2 : Int) % 6 = (t : Int) := by omega
                  have r0 : (u : Int).tmod 20 = (p : Int) := by rw [Int.tmod_eq_emod_of_nonneg (by omega)]; omega
                  have r0' : (u : Int) % 20 = (p : Int) := by omega
                  have hp20 : p < 20 := by omega
                  have ht6 : t < 6 := by omega
                  have b2 : (n2 : Int) ≤ 12 := by omega
                  have bp : (p : Int) < 20 := by omega
                  have bt : (t : Int) < 6 := by omega
                  have hu2 : (u : Int) ≤ 255 := by omega
                  have x1 : IntKind.u8.wrap (n2 : Int) = n2 := by rw [IntKind.wrap_u8]; omega
                  have x4 : IntKind.i64.wrap (p : Int) = p := by rw [IntKind.wrap_i64]; omega
                  have x5 : IntKind.i64.wrap (t : Int) = t := by rw [IntKind.wrap_i64]; omega
                  obtain ⟨vk', w5, hrun1, HJ5⟩ := HJ.out.work (p : Int) (by rw [nats_len, HRL.out.1]; omega)
                  rw [nats_snoc] at HJ5
                  have cu5 : w5.cell? ⟨g1, o1 + i, none⟩ = some (.int .u8 (u : Int)) := by rw [(HB.out.trans (HJ5.out.bel.mono HB.out.size)).cell (p := ⟨g1, o1 + i, none⟩) hg1]; exact hcu
                  obtain ⟨an, han⟩ : ∃ an, an = 6 * p + 1 := ⟨_, rfl⟩
                  have ca5 := HJ5.out.addr rfl hp20
                  rw [← han] at ca5
                  have J6d : Jb W1 w5.drew H gT gW gS h2 wl (.slice (some ⟨gA, oA, none⟩) 20 cA) vk' _ (nats (rs ++ [p])) l s0 := HJ5.out.under (below_drewN (Below.refl _ w5) 1)
                  obtain ⟨vl', w7, hrun2, HJ7⟩ := J6d.list ((an : Int) + t) (by rw [HRL.out.2]; omega)
                  have cu7 : w7.cell? ⟨g1, o1 + i, none⟩ = some (.int .u8 (u : Int)) := by rw [(HB.out.trans (HJ7.out.bel.mono HB.out.size)).cell (p := ⟨g1, o1 + i, none⟩) hg1]; exact hcu
                  have ca7 := HJ7.out.addr rfl hp20
                  rw [← han] at ca7
                  have HR7 := hide (HR.out.snoc hp20 ht6)
                  have e1 : ((6 * p + t + 1 : Nat) : Int) = (an : Int) + t := by omega
                  rw [e1] at HR7
                  have ba : (an : Int) ≤ 200 := by omega
                  have ba0 : 0 ≤ (an : Int) := by omega
                  have y1 : IntKind.i64.wrap ((an : Int) + t) = (an : Int) + t := by rw [IntKind.wrap_i64]; omega
                  have HJN := hide (⟨i + 1, rs ++ [p], _, by omega, by omega, rfl, by rw [List.length_append, HRL.out.1]; rfl, by rw [List.length_append, HRL.out.2]; rfl, HR7.out, HJ7.out⟩ : J5 W1 w7 H gT gW gS n1' h2 wl (.slice (some ⟨gA, oA, none⟩) 20 cA) vk' vl' (.int .i64 ((i + 1 : Nat) : Int)))
                  clear hu hcu hn2 hp ht han HJ HJ5 J6d HJ7 HR HR7 e1 HRL HBE
                  go_upto_region 39 with (at_builtin; refine wpList_append_eq rfl _ _ 31 rfl rfl rfl hrun1 ?_)
                  go_region_held3 (fun w' => w'.cell? ⟨g1, o1 + i, none⟩ = some (.int .u8 (u : Int)) ∧ w'.cell? ⟨gA, oA + p, none⟩ = some (.int .i64 (an : Int))) (first | go_keep | exact ⟨cu7, ca7⟩) (refine step_append_eq (by rfl) _ _ 31 (by rfl) (by rfl) (by rfl) hrun2 ?_)
                  go_wp2
                  go_roundw
                  case rel => first | exact HJN.out | (simpa using HJN.out) | ((repeat apply Exists.intro); exact ⟨by first | exact HJN.out | simpa using HJN.out, rfl⟩)
                  case measure => simp [intOf]; omega
                · have hr : ¬ (i < n1') ∨ (i < n1' ∧ ¬ i < 5) := by omega
                  have HJN := hide (⟨i, rs, l, hi1, hi5, rfl, HRL.out.1, HRL.out.2, HR.out, HJ.out⟩ : J5 W1 wr H gT gW gS n1' h2 wl (.slice (some ⟨gA, oA, none⟩) 20 cA) _ _ (.int .i64 (i : Int)))
                  clear HR HJ HRL HBE
                  rcases hr with hr | ⟨hr1, hr2⟩
                  · have d1 : decide ((i : Int) < (n1' : Int)) = false := by simp; omega
                    have d1' : decide (i < n1') = false := by simp; omega
                    go_wp2
                    go_meet
                    exact HJN.out
                  · have d1 : decide ((i : Int) < (n1' : Int)) = true := by simp; omega
                    have d1' : decide (i < n1') = true := by simp; omega
                    have d2 : decide ((i : Int) < 5) = false := by simp; omega
                    have d2' : decide (i < 5) = false := by simp; omega
                    go_wp2
                    go_meet
                    exact HJN.out
          case rest =>
            clear HJ
            obtain ⟨i0, rs, l, hi1, hi5, rfl, hrl, hll, R, J⟩ := hcut.ex
            have HR := hide R
            have HLL := hide (show l.length ≤ 6 by omega)
            have HJ := hide (⟨J, linv_new R.lt, by rw [show s0.count true = 0 by decide]; omega, Nat.le_refl _⟩ : J6 W1 wc H gT gW gS h2 wl (.slice (some ⟨gA, oA, none⟩) 20 cA) u23 u24 rs rs l s0 145)
            clear hcut R J hrl hll hi1 hi5
            go_wp2
            go_loopg [23, 26] 145 (fun K vk cv wr => ∃ (wk : List Nat) (S : List Bool), cv = .int .i64 ((S.count true : Nat) : Int) ∧ Hid (J6 W1 wr H gT gW gS h2 wl (.slice (some ⟨gA, oA, none⟩) 20 cA) vk u24 rs wk l S K))
            case atStart => exact ⟨rs, s0, by rw [show s0.count true = 0 by decide]; rfl, HJ⟩
            case round =>
              clear HJ
              obtain ⟨wk, S, rfl, HJ⟩ := hrel
              cases wk with
              | cons x wk =>
                as_aux_lemma =>
                  obtain ⟨g, off, cap, rfl, cx, hcap, HP, HP0⟩ := Jb.pop (wk := nats wk) HJ.out.J
                  have hx20 : x < 20 := HJ.out.inv.lt x (by simp)
                  have hsl := HJ.out.inv.len
                  obtain ⟨cs, fs⟩ := stay_cell HJ.out.J.stays (q := x) (by omega)
                  have hms := HJ.out.meas
                  have hke := HJ.out.le
                  have hgt := HJ.out.J.gt
                  rw [nats_len] at hcap HP HP0 ⊢
                  simp only [List.length_cons] at hms
                  have hgk : gk - 1 < gk := by omega
                  have hcl : S.count true ≤ 20 := by rw [← hsl]; exact List.count_le_length
                  have bx : (x : Int) < 20 := by omega
                  have bn : (wk.length : Int) ≤ 145 := by omega
                  have bc : (wk.length : Int) + 1 ≤ (cap : Int) := by omega
                  have bs : ((S.count true : Nat) : Int) ≤ 20 := by omega
                  have hne : gT ≠ gS := by omega
                  have hne' : gS ≠ gT := by omega
                  by_cases hcap1 : cap = 1
                  · obtain rfl : wk = [] := List.eq_nil_of_length_eq_zero (by omega)
                    have HPz := hide (HP0.out hcap1)
                    clear HP
                    subst hcap1
                    clear HP0
                    cases hb : S.getD x false with
                    | true =>
                      rw [hb] at cs
                      have HN := hide (⟨HPz.out, HJ.out.inv.skip hb, by (simp at hms ⊢; omega), by omega⟩ : J6 W1 wr H gT gW gS h2 wl (.slice (some ⟨gA, oA, none⟩) 20 cA) _ u24 rs [] l S (gk - 1))
                      clear HPz HJ hms hke hgt hsl hb
                      go_wp2
                      go_roundg (gk - 1)
                      case measure => exact hgk
                      case rel => exact ⟨_, S, rfl, HN⟩
                    | false =>
                      rw [hb] at cs
                      obtain ⟨v, vk', w', cv, hrun, HJ3⟩ := (HPz.out.stay x).more hx20 (by simp [nats])
                      have cv0 : wr.cell? ⟨gT, x, none⟩ = some v := by
                        rw [← cv]
                        exact (World.cell?_of_block (a := ⟨gT, x, none⟩) (heap_clear_other hne [.bool true] x wr)).symm
                      rw [nats_app] at HJ3
                      have hcs := count_set (S := S) (i := x) (by omega) hb
                      have hcl2 : (S.set x true).count true ≤ 20 := by have := List.count_le_length (a := true) (l := S.set x true); rw [List.length_set, hsl] at this; exact this
                      have htl := tl_len wl x 6
                      have HN := hide (⟨HJ3.out, HJ.out.inv.take HL.out, by rw [List.length_append, hcs]; (simp at hms ⊢; omega), by omega⟩ : J6 W1 w' H gT gW gS h2 wl (.slice (some ⟨gA, oA, none⟩) 20 cA) vk' u24 rs ([] ++ tl wl x 6) l (S.set x true) (gk - 1))
                      have HCS := hide hcs
                      clear HPz HJ HJ3 hms hke hgt hsl hb hcs hcl2 htl
                      go_upto_region 47 with fail
                      revert cv hrun
                      generalize wr.setCell ⟨gS, x, none⟩ (.bool true) = W6
                      intro cv hrun
                      clear cv0 cs fs cx
                      go_wp2_with (at_builtin; refine wpList_append_eq rfl _ _ 31 rfl rfl rfl hrun ?_)
                      go_roundg (gk - 1)
                      case measure => exact hgk
                      case rel => exact ⟨_, _, by rw [HCS.out]; go_num, HN⟩
                  · have hc1 : ¬ cap - 1 = 0 := by omega
                    have hc2 : ¬ cap = 1 := hcap1
                    have hc3 : 1 < cap := by omega
                    have hc4 : (1 : Int) < (cap : Int) := by omega
                    clear HP0
                    cases hb : S.getD x false with
                    | true =>
                      rw [hb] at cs
                      have HN := hide (⟨HP.out, HJ.out.inv.skip hb, by omega, by omega⟩ : J6 W1 wr H gT gW gS h2 wl (.slice (some ⟨gA, oA, none⟩) 20 cA) _ u24 rs wk l S (gk - 1))
                      clear HP HJ hms hke hgt hsl hb
                      go_wp2
                      go_roundg (gk - 1)
                      case measure => exact hgk
                      case rel => exact ⟨_, S, rfl, HN⟩
                    | false =>
                      rw [hb] at cs
                      obtain ⟨v, vk', w', cv, hrun, HJ3⟩ := (HP.out.stay x).more hx20 (by rw [nats_len]; omega)
                      have cv0 : wr.cell? ⟨gT, x, none⟩ = some v := by
                        rw [← cv]
                        exact (World.cell?_of_block (a := ⟨gT, x, none⟩) (heap_clear_other hne [.bool true] x wr)).symm
                      rw [nats_app] at HJ3
                      have hcs := count_set (S := S) (i := x) (by omega) hb
                      have hcl2 : (S.set x true).count true ≤ 20 := by have := List.count_le_length (a := true) (l := S.set x true); rw [List.length_set, hsl] at this; exact this
                      have htl := tl_len wl x 6
                      have HN := hide (⟨HJ3.out, HJ.out.inv.take HL.out, by rw [List.length_append, hcs]; omega, by omega⟩ : J6 W1 w' H gT gW gS h2 wl (.slice (some ⟨gA, oA, none⟩) 20 cA) vk' u24 rs (wk ++ tl wl x 6) l (S.set x true) (gk - 1))
                      have HCS := hide hcs
                      clear HP HJ HJ3 hms hke hgt hsl hb hcs hcl2 htl
                      go_upto_region 47 with fail
                      revert cv hrun
                      generalize wr.setCell ⟨gS, x, none⟩ (.bool true) = W6
                      intro cv hrun
                      clear cv0 cs fs cx
                      go_wp2_with (at_builtin; refine wpList_append_eq rfl _ _ 31 rfl rfl rfl hrun ?_)
                      go_roundg (gk - 1)
                      case measure => exact hgk
                      case rel => exact ⟨_, _, by rw [HCS.out]; go_num, HN⟩
              | nil =>
                obtain ⟨ao, cpk, hvk⟩ := HJ.out.J.form
                have X : Fin20 h2 wl l rs S := ⟨HK.out, HL.out, HR.out, HJ.out.inv⟩
                have HX := hide X
                have HSL := hide HJ.out.inv.len
                have hcl : S.count true ≤ 20 := by rw [← HSL.out]; exact List.count_le_length
                have hco := jz_collect HJ.out.J.z HR.out.le (by have := HLL.out; omega) (by decide) (fun x hx => X.names hx)
                subst hvk
                clear X HJ
                go_wp2_with fail
                refine hco.mono ?_
                rintro e w5 ⟨F, hF, rfl, Z5⟩
                have HLF := hide (lft_gone HK.out.inv F)
                have hgn := HX.out.goneN hF.out
                have HLV := hide (HX.out.live1 hF.out HLF.out)
                have hco2 := jz_collect Z5.out HR.out.le (by have := HLL.out; omega) (by decide) (fun x hx => HLF.out.names HK.out.inv hF.out hx (HX.out.names hx))
                have HAG := hide (fun (G : Nat → Bool) hG => HLF.out.again (G := G) HK.out.inv hF.out hG)
                have HGET := hide (fun (i k : Nat) (hi : i < 20) (hk : k < 6) => HX.out.get hF.out HLF.out hi hk)
                clear hco Z5
                generalize freeAll h2 (gone h2 F) = h1 at *
                generalize (gone h2 F).length = gn at *
                clear HLF
                go_wp2_with fail
                refine hco2.mono ?_
                rintro e w6 ⟨G, hG, rfl, Z6⟩
                have hg0 := HAG.out G hG.out
                rw [hg0] at Z6
                rw [hg0, show (([] : List Nat).length : Int) = 0 from rfl]
                rw [show freeAll h1 [] = h1 from rfl] at Z6
                have hlv := jz_live Z6.out (by decide) HLV.out
                clear hco2 HAG hg0 hG Z6 HLV hF
                generalize hc : S.count true = c at *
                have e1 : 20 - (c : Int) = (gn : Int) := by omega
                have bc : (c : Int) ≤ 20 := by omega
                clear hc hgn
                go_wp2_with fail
                refine hlv.mono ?_
                rintro e w7 ⟨ao7, cp7, rfl, Z7⟩
                clear hlv
                go_wp2
                as_aux_lemma =>
                  go_loopw [32] (fun iv wr => ∃ i : Nat, i ≤ 20 ∧ iv = .int .i64 i ∧ Hid (Jz W1 wr H gT gW gS (40 + 65536 + 65536) h1 wl (.slice (some ⟨gA, oA, none⟩) 20 cA) u24 l S)) (fun iv _ => 20 - (intOf iv).toNat)
                  case atStart => exact ⟨0, by decide, rfl, Z7⟩
                  case round =>
                    clear Z7
                    obtain ⟨i, hi, rfl, Z⟩ := hrel
                    by_cases hi20 : i < 20
                    · have di : decide ((i : Int) < 20) = true := by simp; omega
                      have bi : (i : Int) < 20 := by omega
                      go_wp2
                      go_loopw [33] (fun kv wr => ∃ k : Nat, k ≤ 6 ∧ kv = .int .i64 k ∧ Hid (Jz W1 wr H gT gW gS (40 + 65536 + 65536) h1 wl (.slice (some ⟨gA, oA, none⟩) 20 cA) u24 l S)) (fun kv _ => 6 - (intOf kv).toNat)
                      case atStart => exact ⟨0, by decide, rfl, Z⟩
                      case round =>
                        clear Z
                        obtain ⟨k, hk, rfl, Z⟩ := hrel
                        by_cases hk6 : k < 6
                        · have dk : decide ((k : Int) < 6) = true := by simp; omega
                          have bk : (k : Int) < 6 := by omega
                          obtain ⟨q, hq⟩ : ∃ q, q = 6 * i + k := ⟨_, rfl⟩
                          have hq2 : 6 * (i : Int) + k = (q : Int) := by omega
                          have bq : (q : Int) < 120 := by omega
                          have ca := Z.out.addr rfl hi20
                          obtain ⟨an, han⟩ : ∃ an, an = 6 * i + 1 := ⟨_, rfl⟩
                          rw [← han] at ca
                          have hg := HGET.out i k hi20 hk6
                          rw [← hq] at hg
                          have ba : (an : Int) ≤ 200 := by omega
                          have ba0 : 0 ≤ (an : Int) := by omega
                          have hget := jz_get Z.out (x := ((q + 1 : Nat) : Int)) (by omega) hg
                          rw [show ((q + 1 : Nat) : Int) = (an : Int) + k by omega] at hget
                          have HQL := hide (show q < wl.length by rw [HL.out.len]; omega)
                          clear hg hq han Z
                          go_wp2_with fail
                          refine hget.mono ?_
                          rintro e w8 ⟨rfl, Z8⟩
                          clear hget
                          obtain ⟨cw, _⟩ := word_cell Z8.out.word (q := q) HQL.out
                          obtain ⟨cs, _⟩ := stay_cell Z8.out.stays (q := i) (by rw [HSL.out]; exact hi20)
                          generalize wl.getD q 0 = x at *
                          cases hb : S.getD i false with
                          | true =>
                            rw [hb] at cs
                            by_cases hk0 : k = 0
                            · rw [if_pos rfl, if_pos hk0]
                              have dk0 : decide ((k : Int) = 0) = true := by simp; omega
                              have dk3 : decide (k = 0) = true := by simp; omega
                              have dk4 : (k == 0) = true := by simp; omega
                              have dk2 : ((k : Int) == 0) = true := by simp; omega
                              have HK0 := hide hk0
                              clear hk0
                              clear hb
                              go_wp2
                              go_roundw
                              case rel => first | exact ⟨k + 1, by omega, by go_num, Z8⟩ | ((repeat apply Exists.intro); exact ⟨⟨k + 1, by omega, by go_num, Z8⟩, rfl⟩)
                              case measure => simp [intOf]; omega
                            · rw [if_pos rfl, if_neg hk0]
                              have dk0 : decide ((k : Int) = 0) = false := by simp; omega
                              have dk3 : decide (k = 0) = false := by simp; omega
                              have dk4 : (k == 0) = false := by simp; omega
                              have dk2 : ((k : Int) == 0) = false := by simp; omega
                              clear hb
                              go_wp2
                              go_roundw
                              case rel => first | exact ⟨k + 1, by omega, by go_num, Z8⟩ | ((repeat apply Exists.intro); exact ⟨⟨k + 1, by omega, by go_num, Z8⟩, rfl⟩)
                              case measure => simp [intOf]; omega
                          | false =>
                            rw [hb] at cs
                            rw [if_neg (by simp)]
                            clear hb
                            by_cases hk0 : k = 0
                            · have dk0 : decide ((k : Int) = 0) = true := by simp; omega
                              have dk3 : decide (k = 0) = true := by simp; omega
                              have dk4 : (k == 0) = true := by simp; omega
                              have dk2 : ((k : Int) == 0) = true := by simp; omega
                              have HK0 := hide hk0
                              clear hk0
                              go_wp2
                              go_roundw
                              case rel => first | exact ⟨k + 1, by omega, by go_num, Z8⟩ | ((repeat apply Exists.intro); exact ⟨⟨k + 1, by omega, by go_num, Z8⟩, rfl⟩)
                              case measure => simp [intOf]; omega
                            · have dk0 : decide ((k : Int) = 0) = false := by simp; omega
                              have dk3 : decide (k = 0) = false := by simp; omega
                              have dk4 : (k == 0) = false := by simp; omega
                              have dk2 : ((k : Int) == 0) = false := by simp; omega
                              go_wp2
                              go_roundw
                              case rel => first | exact ⟨k + 1, by omega, by go_num, Z8⟩ | ((repeat apply Exists.intro); exact ⟨⟨k + 1, by omega, by go_num, Z8⟩, rfl⟩)
                              case measure => simp [intOf]; omega
                        · obtain rfl : k = 6 := by omega
                          go_wp2
                          go_roundw
                          case rel => first | exact ⟨i + 1, by omega, by go_num, Z⟩ | ((repeat apply Exists.intro); exact ⟨⟨i + 1, by omega, by go_num, Z⟩, rfl⟩)
                          case measure => simp [intOf]; omega
                    · obtain rfl : i = 20 := by omega
                      go_wp2
                      go_ret
                      exact ⟨rfl, HB.out.trans (Z.out.bel.mono HB.out.size)⟩
end Go.Proofs.Ytfhaiopgnllknaa
