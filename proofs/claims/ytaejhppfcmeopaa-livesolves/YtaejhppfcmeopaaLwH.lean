/- The document's Solve, walked. -/
import Derived.Test.YtaejhppfcmeopaaLwG
namespace Go.Proofs.Ytaejhppfcmeopaa
open Go.RowKit
section
variable {w : World}
set_option maxRecDepth 100000 in
set_option maxHeartbeats 4000000 in
theorem rsolve_any {vv : Value} {bs : List Blk} {K : Nat} (S : Snd bs K) (R : BlksAt w vv bs) : Calls Try.prog 13 #[vv, .int .i64 K] w fun e w' => (∃ v1 v2, e = .returned (.tuple #[v1, v2]) ∧ LsAt w' v1 (resIn bs K) ∧ LsAt w' v2 (resOut bs K)) ∧ Below w.heap.size w w' := by
  have hl := S.l
  have hK := S.v
  have HR := hide R
  have HS := hide S
  obtain ⟨ao, cap, rfl, _⟩ := R
  obtain ⟨n, hn⟩ : ∃ n, bs.length = n := ⟨_, rfl⟩
  have HN := hide hn
  rw [hn] at hl HR ⊢
  have hn2 : (n : Int) ≤ 512 := by omega
  have hk2 : (K : Int) ≤ 4096 := by omega
  clear hn S
  go_enter Try.func13, Try.ntmps13
  go_upto_region 1 with (fail)
  go_cut [6, 7] from 14 to 19 (fun v6 v7 wq => ∃ A1 A2, v6 = .slice (some ⟨A1, 0, none⟩) n n ∧ v7 = .slice (some ⟨A2, 0, none⟩) n n ∧ Hid (NC w wq n A1 A2))
  case first =>
    have r1 : ∀ W : World, (Instr.makeSlice 23 (.int .i64 n) (.int .i64 n)).run Try.prog W = .ok (.slice (some ⟨W.heap.size, 0, none⟩) n n) (W.alloc (.cells (reps n (.slice none 0 0)) 34)) := fun W => run_lists W n (by omega)
    go_region
    · go_wp2_with fail
      go_meet
      exact ⟨_, _, rfl, rfl, hide (nc_mk (.inl ⟨rfl, rfl⟩))⟩
    · go_wp2_with fail
      go_meet
      exact ⟨_, _, rfl, rfl, hide (nc_mk (.inr ⟨rfl, rfl⟩))⟩
  case rest =>
    obtain ⟨A1, A2, rfl, rfl, HN0⟩ := hcut
    obtain ⟨W0, hW0⟩ : ∃ W, W = wc := ⟨wc, rfl⟩
    rw [← hW0] at HN0 ⊢
    clear hW0 wc
    go_wp2
    go_loopw [8, 9, 10, 11, 12, 13] (fun v8 _ _ _ _ _ wr => ∃ v : Nat, v ≤ K ∧ v8 = .int .i64 v ∧ Hid (∃ f, Fm wr w.heap.size (n + n) (lbF n A1 A2) (loF n) f (LV bs n v) ∧ Below w.heap.size w wr)) (fun v8 _ _ _ _ _ _ => K - (intOf v8).toNat)
    case atStart => exact ⟨0, Nat.zero_le _, rfl, hide ⟨_, HN0.out.fm, HN0.out.bel⟩⟩
    case round =>
      obtain ⟨v, hv, rfl, HF⟩ := hrel
      obtain ⟨W1, rfl⟩ : ∃ X, X = wr := ⟨wr, rfl⟩
      by_cases hlt : v < K
      · have bv : (v : Int) < (K : Int) := by omega
        clear HN0 W0
        go_wp2
        go_loopw [9, 10] (fun v9 v10 wr => ∃ i : Nat, i ≤ n ∧ v10 = .int .i64 i ∧ v9 = .bool ((bs.take i).any fun b => hasI b.u v) ∧ wr = W1) (fun _ v10 _ => n - (intOf v10).toNat)
        case atStart => exact ⟨0, Nat.zero_le _, rfl, rfl, rfl⟩
        case round =>
          obtain ⟨i, hi, rfl, rfl, hwr⟩ := hrel
          obtain ⟨Y, hY⟩ : ∃ X, X = W1 := ⟨W1, rfl⟩
          rw [← hY] at hwr
          rw [← hY] at HF
          rw [← hY]
          clear hY
          rw [hwr]
          clear hwr wr W1
          by_cases hil : i < n
          · obtain ⟨b, hb⟩ : ∃ b, bs[i]? = some b := ⟨bs[i]'(by rw [HN.out]; exact hil), by simp⟩
            obtain ⟨g, o, au, cu, ad, cd, an, cn, rfl, hg, e0, e1, e2, IU0, ID0, IN0⟩ := HR.out.get hb
            obtain ⟨f, F, hB⟩ := HF.out
            rw [← keep_cell hB hg] at e0
            have hg2 := Nat.lt_of_lt_of_le hg hB.size
            have hhu := has13_any v (IU0.below hB)
            have hnx : ((bs.take (i + 1)).any fun b => hasI b.u v) = (((bs.take i).any fun b => hasI b.u v) || hasI b.u v) := by rw [List.take_add_one, hb]; simp
            have HNX := hide hnx
            have bi : (i : Int) < (n : Int) := by omega
            clear e1 e2 IU0 ID0 IN0 hB F f hb hnx
            cases hf : (bs.take i).any fun b => hasI b.u v with
            | true =>
              rw [hf, Bool.true_or] at HNX
              clear hhu
              go_wp2
              go_roundw
              case rel => exact ⟨i + 1, by omega, by go_num, by rw [HNX.out], trivial⟩
              case measure => simp [intOf]; omega
            | false =>
              rw [hf, Bool.false_or] at HNX
              go_wp2_with (first | (go_at_call 20; refine hhu.mono ?_; rintro e w6 ⟨rfl, hw6⟩; rw [hw6]; clear hw6))
              go_roundw
              case rel => exact ⟨i + 1, by omega, by go_num, by rw [HNX.out], trivial⟩
              case measure => simp [intOf]; omega
          · obtain rfl : n = i := by omega
            have htk : ((bs.take n).any fun b => hasI b.u v) = bs.any fun b => hasI b.u v := by rw [List.take_of_length_le (by rw [HN.out]; exact Nat.le_refl _)]
            rw [htk]
            clear htk
            cases hnm : bs.any fun b => hasI b.u v with
            | false =>
              have hno : ∀ (i : Nat) (b : Blk), bs[i]? = some b → hasI b.u v = false := fun i b hb => by
                cases e : hasI b.u v with
                | false => rfl
                | true =>
                  have : (bs.any fun b => hasI b.u v) = true := List.any_eq_true.mpr ⟨b, List.mem_of_getElem? hb, e⟩
                  rw [hnm] at this; cases this
              have H2 : Hid (∃ f, Fm Y w.heap.size (n + n) (lbF n A1 A2) (loF n) f (LV bs n (v + 1)) ∧ Below w.heap.size w Y) := hide (by
                obtain ⟨f, F, hB⟩ := HF.out
                exact ⟨f, F.congr fun t ht => LV_none HS.out hno (by omega) ht, hB⟩)
              clear hno
              go_wp2
              go_roundw
              case rel => exact ⟨v + 1, by omega, by go_num, H2⟩
              case measure => simp [intOf]; omega
            | true =>
              have hnd := needed17_any (v := v) HS.out (HR.out.below (by obtain ⟨f, F, hB⟩ := HF.out; exact hB)) hlt
              rw [HN.out] at hnd
              go_wp2_with (first | (go_at_call 24; with_reducible refine hnd.mono ?_; rintro e w5 ⟨bi, bo, rfl, M5⟩; have H5 := hide M5; clear M5))
              have V0 : Hid (∃ f, Sv w w5 n A1 A2 bi bo (fun i => (nd bs v).1.testBit i) (fun i => (nd bs v).2.testBit i) f (L3 bs n v 0 0)) := hide (by
                obtain ⟨f, F, hB⟩ := HF.out
                have hb5 := H5.out.bel
                exact ⟨f, (F.under hb5).congr fun t _ => L3_zero t, hB.trans (hb5.mono hB.size), H5.out.i, H5.out.o⟩)
              clear H5 HF hnd
              go_loopw [13] (fun v13 wr => ∃ j : Nat, j ≤ n ∧ v13 = .int .i64 j ∧ Hid (∃ f, Sv w wr n A1 A2 bi bo (fun i => (nd bs v).1.testBit i) (fun i => (nd bs v).2.testBit i) f (L3 bs n v j j))) (fun v13 _ => n - (intOf v13).toNat)
              case atStart => exact ⟨0, Nat.zero_le _, rfl, V0⟩
              case round =>
                clear V0
                obtain ⟨j, hj, rfl, HV⟩ := hrel
                obtain ⟨W6, rfl⟩ : ∃ X, X = wr := ⟨wr, rfl⟩
                by_cases hjl : j < n
                · obtain ⟨f, V⟩ := HV.out
                  clear HV
                  have ki := (V.i.cell hjl).1
                  have li := V.i.lt
                  have bj : (j : Int) < (n : Int) := by omega
                  have e1 : lbF n A1 A2 j = A1 := if_pos hjl
                  have e2 : loF n j = j := if_pos hjl
                  have e3 : lbF n A1 A2 (n + j) = A2 := if_neg (by omega)
                  have e4 : loF n (n + j) = j := by unfold loF; rw [if_neg (by omega)]; omega
                  cases hbI : (nd bs v).1.testBit j with
                  | true =>
                    obtain ⟨g1, p1, w7, hr1, c1, z1, l1, V1⟩ := V.push (t := j) (x := (v : Int)) (by omega) (by have := L3_len (bs := bs) (n := n) (v := v) (x := j) (y := j) j; omega)
                    obtain ⟨d1, _, m1⟩ := V.fm.lcell (t := j) (by omega)
                    have V1 : ∃ f, Sv w _ n A1 A2 bi bo (fun i => (nd bs v).1.testBit i) (fun i => (nd bs v).2.testBit i) f (L3 bs n v (j + 1) j) := ⟨_, V1.fm.congr (fun t _ => L3_step1 hjl hbI t), V1.bel, V1.i, V1.o⟩
                    rw [e1] at l1 m1
                    rw [e1, e2] at c1 z1 V1 d1
                    rw [hbI] at ki
                    clear V
                    obtain ⟨W7, hW7⟩ : ∃ X, w7.setCell ⟨A1, j, none⟩ (.slice (some ⟨g1, 0, none⟩) ((L3 bs n v j j j).length + 1) p1) = X := ⟨_, rfl⟩
                    rw [hW7] at V1
                    have HRA := hide hr1
                    clear hr1
                    go_upto_region 17 with (refine wpList_append_eq (by rfl) _ _ 34 (by rfl) (by rfl) (by rfl) HRA.out ?_)
                    clear hW7 HRA c1 z1 l1 d1 m1 ki li
                    obtain ⟨f1, V1⟩ := V1
                    have ko := (V1.o.cell hjl).1
                    have lo := V1.o.lt
                    cases hbO : (nd bs v).2.testBit j with
                    | true =>
                      obtain ⟨g2, p2, w8, hr2, c2, z2, l2, V2⟩ := V1.push (t := n + j) (x := (v : Int)) (by omega) (by have := L3_len (bs := bs) (n := n) (v := v) (x := j + 1) (y := j) (n + j); omega)
                      obtain ⟨d2, _, m2⟩ := V1.fm.lcell (t := n + j) (by omega)
                      have V3 : Hid (∃ f, Sv w _ n A1 A2 bi bo (fun i => (nd bs v).1.testBit i) (fun i => (nd bs v).2.testBit i) f (L3 bs n v (j + 1) (j + 1))) := hide ⟨_, V2.fm.congr (fun t _ => L3_step2 hbO t), V2.bel, V2.i, V2.o⟩
                      rw [e3] at l2 m2
                      rw [e3, e4] at c2 z2 V3 d2
                      rw [hbO] at ko
                      have HRB := hide hr2
                      clear V1 V2 hr2
                      go_wp2_with (refine wpList_append_eq (by rfl) _ _ 34 (by rfl) (by rfl) (by rfl) HRB.out ?_)
                      go_roundw
                      case rel => exact ⟨j + 1, by omega, by go_num, V3⟩
                      case measure => simp [intOf]; omega
                    | false =>
                      have V3 : Hid (∃ f, Sv w W7 n A1 A2 bi bo (fun i => (nd bs v).1.testBit i) (fun i => (nd bs v).2.testBit i) f (L3 bs n v (j + 1) (j + 1))) := hide ⟨_, V1.fm.congr (fun t _ => L3_skip2 hbO t), V1.bel, V1.i, V1.o⟩
                      rw [hbO] at ko
                      clear V1
                      go_wp2_with fail
                      go_roundw
                      case rel => exact ⟨j + 1, by omega, by go_num, V3⟩
                      case measure => simp [intOf]; omega
                  | false =>
                    have V1 : Sv w W6 n A1 A2 bi bo (fun i => (nd bs v).1.testBit i) (fun i => (nd bs v).2.testBit i) f (L3 bs n v (j + 1) j) := ⟨V.fm.congr (fun t _ => L3_skip1 hbI t), V.bel, V.i, V.o⟩
                    rw [hbI] at ki
                    clear V
                    go_upto_region 17 with (fail)
                    clear ki li
                    obtain ⟨W7, rfl⟩ : ∃ X, X = W6 := ⟨W6, rfl⟩
                    have ko := (V1.o.cell hjl).1
                    have lo := V1.o.lt
                    cases hbO : (nd bs v).2.testBit j with
                    | true =>
                      obtain ⟨g2, p2, w8, hr2, c2, z2, l2, V2⟩ := V1.push (t := n + j) (x := (v : Int)) (by omega) (by have := L3_len (bs := bs) (n := n) (v := v) (x := j + 1) (y := j) (n + j); omega)
                      obtain ⟨d2, _, m2⟩ := V1.fm.lcell (t := n + j) (by omega)
                      have V3 : Hid (∃ f, Sv w _ n A1 A2 bi bo (fun i => (nd bs v).1.testBit i) (fun i => (nd bs v).2.testBit i) f (L3 bs n v (j + 1) (j + 1))) := hide ⟨_, V2.fm.congr (fun t _ => L3_step2 hbO t), V2.bel, V2.i, V2.o⟩
                      rw [e3] at l2 m2
                      rw [e3, e4] at c2 z2 V3 d2
                      rw [hbO] at ko
                      have HRB := hide hr2
                      clear V1 V2 hr2
                      go_wp2_with (refine wpList_append_eq (by rfl) _ _ 34 (by rfl) (by rfl) (by rfl) HRB.out ?_)
                      go_roundw
                      case rel => exact ⟨j + 1, by omega, by go_num, V3⟩
                      case measure => simp [intOf]; omega
                    | false =>
                      have V3 : Hid (∃ f, Sv w W7 n A1 A2 bi bo (fun i => (nd bs v).1.testBit i) (fun i => (nd bs v).2.testBit i) f (L3 bs n v (j + 1) (j + 1))) := hide ⟨_, V1.fm.congr (fun t _ => L3_skip2 hbO t), V1.bel, V1.i, V1.o⟩
                      rw [hbO] at ko
                      clear V1
                      go_wp2_with fail
                      go_roundw
                      case rel => exact ⟨j + 1, by omega, by go_num, V3⟩
                      case measure => simp [intOf]; omega
                · obtain rfl : n = j := by omega
                  have H2 : Hid (∃ f, Fm W6 w.heap.size (n + n) (lbF n A1 A2) (loF n) f (LV bs n (v + 1)) ∧ Below w.heap.size w W6) := hide (by
                    obtain ⟨f, V⟩ := HV.out
                    exact ⟨f, V.fm.congr fun t ht => L3_full (by omega) ht, V.bel⟩)
                  go_wp2
                  go_roundw
                  case rel => exact ⟨v + 1, by omega, by go_num, H2⟩
                  case measure => simp [intOf]; omega
      · obtain rfl : K = v := by omega
        go_wp2
        refine bodyPost_ret (by simp [results, Try.results13, go_sem]; try rfl) rfl ?_
        obtain ⟨f, F, hB⟩ := HF.out
        exact ⟨⟨_, _, rfl, F.ls1 HN.out (by omega), F.ls2 HN.out (by omega)⟩, hB⟩
end
end Go.Proofs.Ytaejhppfcmeopaa
