/- The document's Needed. -/
import Derived.Test.YtaejhppfcmeopaaLwE
namespace Go.Proofs.Ytaejhppfcmeopaa
open Go.RowKit
theorem info_bool : (Try.prog.info? 4).map (fun i => (i.zero, i.size, i.bytes)) = some (some (.bool false), 1, 1) := by kernel_rfl
theorem run_bools (w : World) (n : Nat) (hn : n ≤ 100000) : (Instr.makeSlice 47 (.int .i64 n) (.int .i64 n)).run Try.prog w = .ok (.slice (some ⟨w.heap.size, 0, none⟩) n n) (w.alloc (.cells (reps n (.bool false)) 4)) := by
  obtain ⟨i0, hi, hz0, hz1, hz2⟩ := info_parts info_bool
  have hmk := run_make (P := Try.prog) w 47 4 i0 (.bool false) Try.underlying47 hi hz0 .i64 .i64 n n (by omega) (Int.le_refl _) (by rw [hz2]; omega) (by omega)
  rw [hz1] at hmk
  simp only [Int.toNat_natCast, Nat.mul_one] at hmk
  rw [show (Value.bool false).cells = #[Value.bool false] from rfl, made_one] at hmk
  exact hmk
/-- Truths of all blocks lie at g. -/
structure Tr1 (w : World) (g n : Nat) (I : Nat → Bool) : Prop where
  c : ∃ arr, w.heap[g]? = some (.cells arr 4 (0, 0)) ∧ arr.size = n ∧ ∀ i, i < n → arr[i]? = some (.bool (I i))
/-- The truths' memory. -/
structure Nm (W0 w : World) (n bi bo : Nat) (I O : Nat → Bool) : Prop where
  i : Tr1 w bi n I
  o : Tr1 w bo n O
  ne : bi ≠ bo
  bel : Below W0.heap.size W0 w
  lo : W0.heap.size ≤ bi ∧ W0.heap.size ≤ bo
section
variable {W0 w w' : World} {n bi bo : Nat} {I O : Nat → Bool}
theorem Tr1.lt {g : Nat} (T : Tr1 w g n I) : g < w.heap.size := by
  obtain ⟨arr, h, _⟩ := T.c
  exact lt_of_block h
theorem Tr1.cell {g i : Nat} (T : Tr1 w g n I) (hi : i < n) : w.cell? ⟨g, i, none⟩ = some (.bool (I i)) ∧ w.frozen? ⟨g, i, none⟩ = false := by
  obtain ⟨arr, h, _, h2⟩ := T.c
  exact ⟨cell_of h (h2 i hi), fz_of _ h⟩
theorem Tr1.keep {g : Nat} (T : Tr1 w g n I) (h : w'.heap[g]? = w.heap[g]?) : Tr1 w' g n I := by
  obtain ⟨arr, h1, h2⟩ := T.c
  exact ⟨arr, h.trans h1, h2⟩
theorem Tr1.set {g i : Nat} (T : Tr1 w g n I) (a : Bool) : Tr1 (w.setCell ⟨g, i, none⟩ (.bool a)) g n (up I i a) := by
  obtain ⟨arr, h1, h2, h3⟩ := T.c
  refine ⟨_, heap_setCell_same _ _ _ _ h1, by simpa using h2, fun j hj => ?_⟩
  rw [Array.getElem?_setIfInBounds]
  by_cases e : i = j
  · subst e; rw [if_pos rfl, if_pos (by omega), up_same]
  · rw [if_neg e, up_other _ _ (fun h => e h.symm)]; exact h3 j hj
theorem Nm.under (M : Nm W0 w n bi bo I O) (h : Below w.heap.size w w') : Nm W0 w' n bi bo I O := ⟨M.i.keep (h.block _ M.i.lt), M.o.keep (h.block _ M.o.lt), M.ne, M.bel.trans (h.mono M.bel.size), M.lo⟩
theorem Nm.set (M : Nm W0 w n bi bo I O) (k : Nat) (a c : Bool) : Nm W0 ((w.setCell ⟨bi, k, none⟩ (.bool a)).setCell ⟨bo, k, none⟩ (.bool c)) n bi bo (up I k a) (up O k c) :=
  ⟨(M.i.set a).keep (Below.heap_setCell _ _ _ _ M.ne), (M.o.keep (Below.heap_setCell _ _ _ _ M.ne.symm)).set c, M.ne, (M.bel.setCell M.lo.1 _).setCell M.lo.2 _, M.lo⟩
theorem nm_mk {W : World} {a b : Nat} (h : (a = W.heap.size ∧ b = W.heap.size + 1) ∨ (a = W.heap.size + 1 ∧ b = W.heap.size)) : Nm W ((W.alloc (.cells (reps n (.bool false)) 4)).alloc (.cells (reps n (.bool false)) 4)).drew n a b (fun _ => false) (fun _ => false) := by
  have e1 : ((W.alloc (.cells (reps n (.bool false)) 4)).alloc (.cells (reps n (.bool false)) 4)).heap[W.heap.size]? = some (.cells (reps n (.bool false)) 4 (0, 0)) := by rw [heap_under _ _ (by simp)]; exact heap_new _ _ rfl
  have e2 : ((W.alloc (.cells (reps n (.bool false)) 4)).alloc (.cells (reps n (.bool false)) 4)).heap[W.heap.size + 1]? = some (.cells (reps n (.bool false)) 4 (0, 0)) := heap_new _ _ (by simp)
  have hb : Below W.heap.size W ((W.alloc (.cells (reps n (.bool false)) 4)).alloc (.cells (reps n (.bool false)) 4)).drew := (((Below.refl _ _).alloc (Nat.le_refl _) _).alloc (by simp) _).drew
  rcases h with ⟨rfl, rfl⟩ | ⟨rfl, rfl⟩
  · exact ⟨⟨_, e1, reps_size _ _, fun i hi => reps_get hi⟩, ⟨_, e2, reps_size _ _, fun i hi => reps_get hi⟩, by omega, hb, by omega, by omega⟩
  · exact ⟨⟨_, e2, reps_size _ _, fun i hi => reps_get hi⟩, ⟨_, e1, reps_size _ _, fun i hi => reps_get hi⟩, by omega, hb, by omega, by omega⟩
/-- Within a round: what has changed. -/
def Ro (bs : List Blk) (v : Nat) (n c0 j : Nat) (ch : Bool) (I O : Nat → Bool) : Prop := (ch = true → c0 < cnt2 I O n) ∧ c0 ≤ cnt2 I O n ∧ (ch = false → ∀ i b, i < j → bs[i]? = some b → ahP b v I = I i ∧ bhP b I = O i)
set_option maxRecDepth 100000 in
set_option maxHeartbeats 4000000 in
theorem needed17_any {vv : Value} {bs : List Blk} {K v : Nat} (S : Snd bs K) (R : BlksAt w vv bs) (hv : v < K) : Calls Try.prog 24 #[vv, .int .i64 v] w fun e w' => ∃ bi bo, e = .returned (.tuple #[.slice (some ⟨bi, 0, none⟩) bs.length bs.length, .slice (some ⟨bo, 0, none⟩) bs.length bs.length]) ∧ Nm w w' bs.length bi bo (fun i => (nd bs v).1.testBit i) (fun i => (nd bs v).2.testBit i) := by
  have hl := S.l
  have hK := S.v
  have HR := hide R
  have HS := hide S
  obtain ⟨ao, cap, rfl, _⟩ := R
  obtain ⟨n, hn⟩ : ∃ n, bs.length = n := ⟨_, rfl⟩
  have HN := hide hn
  rw [hn] at hl HR ⊢
  have hn2 : (n : Int) ≤ 512 := by omega
  have hv2 : (v : Int) < 4096 := by omega
  clear hn S
  go_enter Try.func24, Try.ntmps24
  go_upto_region 1 with (fail)
  go_cut [6, 7] from 14 to 19 (fun v6 v7 wq => ∃ bi bo, v6 = .slice (some ⟨bi, 0, none⟩) n n ∧ v7 = .slice (some ⟨bo, 0, none⟩) n n ∧ Hid (Nm w wq n bi bo (fun _ => false) (fun _ => false)))
  case first =>
    have r1 : ∀ W : World, (Instr.makeSlice 47 (.int .i64 n) (.int .i64 n)).run Try.prog W = .ok (.slice (some ⟨W.heap.size, 0, none⟩) n n) (W.alloc (.cells (reps n (.bool false)) 4)) := fun W => run_bools W n (by omega)
    go_region
    · go_wp2_with fail
      go_meet
      exact ⟨_, _, rfl, rfl, hide (nm_mk (.inl ⟨rfl, rfl⟩))⟩
    · go_wp2_with fail
      go_meet
      exact ⟨_, _, rfl, rfl, hide (nm_mk (.inr ⟨rfl, rfl⟩))⟩
  case rest =>
    obtain ⟨bi, bo, rfl, rfl, HM0⟩ := hcut
    obtain ⟨W0, hW0⟩ : ∃ W, W = wc := ⟨wc, rfl⟩
    rw [← hW0] at HM0 ⊢
    clear hW0 wc
    go_wp2
    go_loopg [8, 9, 10, 11, 12, 13] (2 * n + 2) (fun Kg v8 _ _ _ _ _ wr => ∃ (ch : Bool) (I O : Nat → Bool), v8 = .bool ch ∧ Hid (Nm w wr n bi bo I O) ∧ Hid (Ti bs v I O) ∧ Hid (ch = false → ∀ i b, i < n → bs[i]? = some b → ahP b v I = I i ∧ bhP b I = O i) ∧ (2 * n - cnt2 I O n) + (if ch then 1 else 0) ≤ Kg)
    case atStart => exact ⟨true, _, _, rfl, HM0, hide (Ti.zero bs v), hide (fun h => by cases h), by simp; omega⟩
    case round =>
      obtain ⟨ch, I, O, rfl, HM, HT, HF, hkg⟩ := hrel
      obtain ⟨W1, rfl⟩ : ∃ X, X = wr := ⟨wr, rfl⟩
      cases ch with
      | false =>
        have HX : Hid (∀ i, I i = (nd bs v).1.testBit i) := hide (HT.out.fin HS.out (fun i b hb => HF.out rfl i b (by rw [← HN.out]; exact len_of_get hb) hb)).1
        have HY : Hid (∀ i, i < bs.length → O i = (nd bs v).2.testBit i) := hide (HT.out.fin HS.out (fun i b hb => HF.out rfl i b (by rw [← HN.out]; exact len_of_get hb) hb)).2
        go_wp2
        refine bodyPost_ret (by simp [results, Try.results24, go_sem]; try rfl) rfl ?_
        refine ⟨bi, bo, rfl, ?_⟩
        have M := HM.out
        obtain ⟨a1, h1, h2, h3⟩ := M.i.c
        obtain ⟨a2, k1, k2, k3⟩ := M.o.c
        exact ⟨⟨a1, h1, h2, fun i hi => by rw [h3 i hi, HX.out i]⟩, ⟨a2, k1, k2, fun i hi => by rw [k3 i hi, HY.out i (by rw [HN.out]; exact hi)]⟩, M.ne, M.bel, M.lo⟩
      | true =>
        clear HF
        rw [if_pos rfl] at hkg
        obtain ⟨c0, hcc⟩ : ∃ c0, c0 = cnt2 I O n := ⟨_, rfl⟩
        rw [← hcc] at hkg
        have hc0 : Hid (Ro bs v n c0 0 false I O) := hide ⟨fun h => (by cases h), (by rw [hcc]; exact Nat.le_refl _), fun _ i b hi _ => (by omega)⟩
        clear hcc
        go_wp2
        go_loopw [8, 9, 10, 11, 12, 13] (fun v8 v9 _ _ _ _ wr => ∃ (j : Nat) (ch : Bool) (I' O' : Nat → Bool), j ≤ n ∧ v9 = .int .i64 j ∧ v8 = .bool ch ∧ Hid (Nm w wr n bi bo I' O') ∧ Hid (Ti bs v I' O') ∧ Hid (Ro bs v n c0 j ch I' O')) (fun _ v9 _ _ _ _ _ => n - (intOf v9).toNat)
        case atStart => exact ⟨0, false, I, O, Nat.zero_le _, rfl, rfl, HM, HT, hc0⟩
        case round =>
          clear HM HT hc0
          obtain ⟨j, ch, I, O, hj, rfl, rfl, HM, HT, HO⟩ := hrel
          obtain ⟨W2, rfl⟩ : ∃ X, X = wr := ⟨wr, rfl⟩
          by_cases hlt : j < n
          · obtain ⟨b, hb⟩ : ∃ b, bs[j]? = some b := ⟨bs[j]'(by rw [HN.out]; exact hlt), by simp⟩
            obtain ⟨g, o, au, cu, ad, cd, an, cn, rfl, hg, e0, e1, e2, IU0, ID0, IN0⟩ := HR.out.get hb
            have hB := HM.out.bel
            rw [← keep_cell hB hg] at e0 e1 e2
            have hg2 := Nat.lt_of_lt_of_le hg hB.size
            have IU := IU0.below hB
            have ID := ID0.below hB
            have IN := IN0.below hB
            have bj : (j : Int) < (n : Int) := by omega
            have hbA := (Below.refl W2.heap.size W2).alloc (Nat.le_refl _) (.cells #[.slice au b.u.length cu, .slice ad b.d.length cd, .slice an b.n.length cn] 41)
            have hbx := heap_new W2 (.cells #[.slice au b.u.length cu, .slice ad b.d.length cd, .slice an b.n.length cn] 41) rfl
            obtain ⟨W3, hW3⟩ : ∃ X, W2.alloc (.cells #[.slice au b.u.length cu, .slice ad b.d.length cd, .slice an b.n.length cn] 41) = X := ⟨_, rfl⟩
            rw [hW3] at hbA hbx
            have HM3 := hide (HM.out.under hbA)
            have HI3 := hide (And.intro (IU.below hbA) (And.intro (ID.below hbA) (IN.below hbA)))
            have HB := hide hb
            have HX3 := hide hbx
            have hlen := IN.len
            clear IU ID IN IU0 ID0 IN0 hB hbA hbx hb HM
            generalize hmn : b.n.length = mn at *
            generalize b.u.length = mu at *
            generalize b.d.length = md at *
            have HMN := hide hmn
            have hmn2 : (mn : Int) ≤ 9223372036854775807 := by omega
            clear hmn
            go_wp2
            go_loopw [11, 12] (fun v11 v12 wr => ∃ q : Nat, q ≤ mn ∧ v12 = .int .i64 q ∧ v11 = .bool ((b.n.take q).any fun y => I y.toNat) ∧ wr = W3) (fun _ v12 _ => mn - (intOf v12).toNat)
            case atStart => exact ⟨0, Nat.zero_le _, rfl, rfl, rfl⟩
            case round =>
              obtain ⟨q, hq, rfl, rfl, hwr⟩ := hrel
              obtain ⟨Y, hY⟩ : ∃ X, X = W3 := ⟨W3, rfl⟩
              rw [← hY] at hwr
              rw [← hY] at HM3 HI3 HX3
              rw [← hY] at hW3
              rw [← hY]
              clear hY
              rw [hwr]
              clear hwr wr W3
              have k0 := cell_of (o := 0) HX3.out rfl
              have k1 := cell_of (o := 1) HX3.out rfl
              have k2 := cell_of (o := 2) HX3.out rfl
              have lx := lt_of_block HX3.out
              by_cases hql : q < mn
              · obtain ⟨y0, hy0⟩ : ∃ y, b.n[q]? = some y := ⟨b.n[q]'(by rw [HMN.out]; exact hql), by simp⟩
                obtain ⟨y, rfl, hyn⟩ := HS.out.n j b HB.out y0 (List.mem_of_getElem? hy0)
                rw [HN.out] at hyn
                obtain ⟨gn, on, rfl, ln, kn⟩ := HI3.out.2.2.cell hy0
                have ky := (HM3.out.i.cell hyn).1
                have ly := HM3.out.i.lt
                have hnx := bhP_next (I := I) hy0
                rw [Int.toNat_natCast] at hnx
                have HNX := hide hnx
                have byn : (y : Int) < (n : Int) := by omega
                have bq : (q : Int) < (mn : Int) := by omega
                clear hy0 hnx
                cases hf : (b.n.take q).any fun y => I y.toNat with
                | true =>
                  rw [hf, Bool.true_or] at HNX
                  go_wp2
                  go_roundw
                  case rel => exact ⟨q + 1, by omega, by go_num, by rw [HNX.out], trivial⟩
                  case measure => simp [intOf]; omega
                | false =>
                  rw [hf, Bool.false_or] at HNX
                  go_wp2
                  go_roundw
                  case rel => exact ⟨q + 1, by omega, by go_num, by rw [HNX.out], trivial⟩
                  case measure => simp [intOf]; omega
              · obtain rfl : q = mn := by omega
                have htk : ((b.n.take q).any fun y => I y.toNat) = bhP b I := by
                  rw [List.take_of_length_le (by rw [HMN.out]; exact Nat.le_refl _)]; rfl
                rw [htk]
                clear htk
                obtain ⟨bb, hbb⟩ : ∃ x, bhP b I = x := ⟨_, rfl⟩
                rw [hbb]
                go_upto_region 14 with (fail)
                go_cut [13] from 49 to 62 (fun v13 wq => v13 = .bool (ahP b v I) ∧ wq = Y)
                case first =>
                  have hhu := has13_any v HI3.out.1
                  have hhd := has13_any v HI3.out.2.1
                  cases hu : hasI b.u v with
                  | true =>
                    rw [hu] at hhu
                    have hah : ahP b v I = true := by simp [ahP, hu]
                    clear hhd
                    go_wp2_with (first | (go_at_call 20; refine hhu.mono ?_; rintro e w6 ⟨rfl, hw6⟩; rw [hw6]; clear hw6))
                    go_meet
                    exact ⟨(by rw [hah]), rfl⟩
                  | false =>
                    rw [hu] at hhu
                    cases bb with
                    | false =>
                      have hah : ahP b v I = false := by simp [ahP, hu, hbb]
                      clear hhd
                      go_wp2_with (first | (go_at_call 20; refine hhu.mono ?_; rintro e w6 ⟨rfl, hw6⟩; rw [hw6]; clear hw6))
                      go_meet
                      exact ⟨(by rw [hah]), rfl⟩
                    | true =>
                      have hah : ahP b v I = !hasI b.d v := by simp [ahP, hu, hbb]
                      go_wp2_with (first
                        | (have kk := st1; clear kk; go_at_call 20; with_reducible refine hhd.mono ?_; rintro e w6 ⟨rfl, hw6⟩; rw [hw6]; clear hw6)
                        | (go_at_call 20; with_reducible refine hhu.mono ?_; rintro e w6 ⟨rfl, hw6⟩; rw [hw6]; clear hw6; have st1 : True := trivial))
                      go_meet
                      exact ⟨(by rw [hah]), rfl⟩
                case rest =>
                  obtain ⟨rfl, hwc⟩ := hcut
                  rw [← hbb]
                  clear hbb
                  rw [hwc]
                  clear hwc wc
                  have hne := HM3.out.ne
                  obtain ⟨ci, fi⟩ := HM3.out.i.cell hlt
                  obtain ⟨co, fo⟩ := HM3.out.o.cell hlt
                  have hli := HM3.out.i.lt
                  have hlo := HM3.out.o.lt
                  have T2 := HT.out.step HS.out HB.out
                  have hmore := fun h => HT.out.more HB.out hlt h
                  have M2 := HM3.out.set j (ahP b v I) (bhP b I)
                  have MS : Hid (ahP b v I = I j → bhP b I = O j → Ro bs v n c0 (j + 1) ch I O) := hide fun h1 h2 => ⟨HO.out.1, HO.out.2.1, fun hc i b' hi hb' => (by
                    by_cases e : i < j
                    · exact HO.out.2.2 hc i b' e hb'
                    · obtain rfl : i = j := by omega
                      have := HB.out.symm.trans hb'
                      cases this
                      exact ⟨h1, h2⟩)⟩
                  have MT : Hid (ahP b v I ≠ I j ∨ bhP b I ≠ O j → Ro bs v n c0 (j + 1) true (up I j (ahP b v I)) (up O j (bhP b I))) := hide fun h => (by
                    have h1 := hmore h
                    have h2 := HO.out.2.1
                    exact ⟨fun _ => by omega, by omega, fun h => by cases h⟩)
                  have HM2 := hide M2
                  have HT2 := hide T2
                  clear hmore M2 T2
                  generalize ahP b v I = a1 at *
                  generalize bhP b I = a2 at *
                  obtain ⟨p1, hp1⟩ : ∃ x, I j = x := ⟨_, rfl⟩
                  obtain ⟨p2, hp2⟩ : ∃ x, O j = x := ⟨_, rfl⟩
                  rw [hp1] at ci MS MT
                  rw [hp2] at co MS MT
                  have hoi : (Y.setCell ⟨bi, j, none⟩ (.bool a1)).cell? ⟨bo, j, none⟩ = some (.bool p2) := by
                    rw [World.cell?_setCell_far _ _ _ _ hne]; exact co
                  cases a1 <;> cases p1 <;> cases a2 <;> cases p2
                  all_goals
                    go_wp2
                    go_roundw
                    case rel =>
                      first
                        | exact ⟨j + 1, ch, I, O, by omega, by go_num, rfl, HM3, HT, hide (MS.out rfl rfl)⟩
                        | exact ⟨j + 1, true, _, _, by omega, by go_num, rfl, HM2, HT2, hide (MT.out (by decide))⟩
                    case measure => simp [intOf]; omega
          · obtain rfl : j = n := by omega
            go_wp2
            go_roundg (2 * j - cnt2 I O j + if ch then 1 else 0)
            case measure =>
              obtain ⟨h1, h2, h3⟩ := HO.out
              have h4 := cnt2_max I O j
              cases ch with
              | true => have := h1 rfl; simp; omega
              | false => simp; omega
            case rel => exact ⟨ch, I, O, rfl, HM, HT, hide HO.out.2.2, Nat.le_refl _⟩
end
end Go.Proofs.Ytaejhppfcmeopaa
