/- The law StackMoves. -/
import Derived.Test.YtjapfckadikjiaaStS
namespace Go.Proofs.Ytjapfckadikjiaa
open Go.RowKit

/-- What holds at the head of the first loop. -/
structure M1 (W w : World) (A n0 : Nat) (vt vi : Value) : Prop where
  ex : ∃ (j t : Nat) (s : Sk), vt = .int .i64 t ∧ vi = .int .i64 j ∧ j ≤ 20 ∧ j ≤ n0 ∧ t ≤ 9 * j ∧ Evn s j t ∧ Has W w A s
/-- What holds where the pointers of a frame are told. -/
structure M2 (w0 w : World) (t n : Nat) (vk : Value) : Prop where
  ex : ∃ (k : Nat) (ps : List Bool), vk = .int .i64 k ∧ k ≤ n ∧ ps.length = n ∧ (∀ (i : Nat) (q : Bool), i < k → ps[i]? = some q → q = decide ((t + i) % 2 = 0)) ∧ w.heap[w0.heap.size]? = some (.cells (bcells ps).toArray 4 (0, 0)) ∧ Below w0.heap.size w0 w
/-- What holds at the head of the loop that sets the words. -/
structure M3 (W w : World) (A b j t : Nat) (vi : Value) : Prop where
  ex : ∃ (k : Nat) (s : Sk) (xs : List Nat), vi = .int .i64 k ∧ k ≤ t ∧ Evn s j t ∧ Fill s t k xs ∧ w.heap[b]? = some (.cells (addrs xs).toArray 3 (0, 0)) ∧ HasB W w A b s
/-- What holds at the head of the loop that looks at them. -/
structure M4 (W w : World) (A b t : Nat) (far : Int) (s : Sk) (xs : List Nat) (vc vi : Value) : Prop where
  ex : ∃ (k : Nat), vc = .int .i64 (cntP s k) ∧ vi = .int .i64 k ∧ k ≤ t ∧ w.heap[b]? = some (.cells (addrs xs).toArray 3 (0, 0)) ∧ HasB W w A b (moveS s far)
set_option maxRecDepth 100000 in
set_option maxHeartbeats 20000000 in
theorem moves_law (v0 v1 : Value) (la lb : List Nat) (bs : Nat) (w : World) (hs0 : Bts w v0 la) (hs1 : B16 w v1 lb) (hbs : bs < 4294967296) : Calls Try.prog 4 #[v0, v1, .int .u32 bs] w fun e w' => e = .returned (.bool true) ∧ Below w.heap.size w w' := by
  have n1 := has_new 100000 2000 w (by decide +kernel)
  obtain ⟨a0, c0, rfl, hb0⟩ := hs0
  obtain ⟨a1, c1, rfl, hb1⟩ := hs1
  have HB0 := hide hb0
  have HB1 := hide hb1
  clear hb0 hb1
  generalize hn0 : la.length = n0 at *
  generalize hn1 : lb.length = n1' at *
  have HN0 := hide hn0
  have HN1 := hide hn1
  clear hn0 hn1
  have hbs' : (bs : Int) ≤ 4294967295 := by omega
  go_enter Try.func4, Try.ntmps4
  go_wp2_with fail
  refine n1.mono ?_
  rintro e w1 ⟨rfl, H1⟩
  clear n1
  go_wp2_with fail
  refine (awake_any w1).mono ?_
  rintro e w2 ⟨rfl, b2⟩
  have H2 := hide (H1.below b2)
  clear H1 b2
  go_wp2
  go_loopw [9, 10] (fun vt vi wr => M1 w wr w.heap.size n0 vt vi) (fun _ vi _ => 20 - (intOf vi).toNat)
  case atStart => exact ⟨0, 0, newS 100000 2000, rfl, rfl, by simp, by simp, by simp, ⟨rfl, rfl, rfl, rfl, fun k u hu => by simp [newS, Sk.ws] at hu⟩, H2.out⟩
  case round =>
    obtain ⟨j, t, s, rfl, rfl, hl20, hln, hsum, HS, HH⟩ := hrel.ex
    clear hrel H2
    rename World => W3
    have H := hide HH
    have HE := hide HS
    clear HH HS
    have bt : (t : Int) ≤ 180 := by omega
    by_cases hlt : j < n0 ∧ j < 20
    · obtain ⟨u, hu⟩ : ∃ u, la[j]? = some u := ⟨la[j]'(by rw [HN0.out]; exact hlt.1), by simp⟩
      obtain ⟨hu256, b, o, rfl, hbl, cu0⟩ := HB0.out _ _ hu
      have cu : W3.cell? ⟨b, o + j, none⟩ = some (.int .u8 u) := (H.out.bel.cell (p := ⟨b, o + j, none⟩) hbl).trans cu0
      clear cu0 hu
      have bj : (j : Int) < (n0 : Int) := by omega
      have bj2 : (j : Int) < 20 := by omega
      obtain ⟨n, hn⟩ : ∃ n, u % 10 = n := ⟨_, rfl⟩
      have hn12 : n < 10 := by omega
      have r0 : (u : Int).tmod 10 = (n : Int) := by rw [Int.tmod_eq_emod_of_nonneg (by omega)]; omega
      have hu' : (u : Int) < 256 := by omega
      have hn' : (n : Int) < 10 := by omega
      have d1 : decide (j < n0) = true := by simpa using hlt.1
      have d2 : decide (j < 20) = true := by simpa using hlt.2
      have hmk := run_bools8 W3 n (by omega)
      obtain ⟨ps, hps⟩ : ∃ ps, List.replicate n false = ps := ⟨_, rfl⟩
      have HPL := hide (show ps.length = n by rw [← hps]; simp)
      rw [hps] at hmk
      clear hn hps
      go_wp2
      go_loopw [12] (fun vk wr' => M2 W3 wr' t n vk) (fun vk _ => n - (intOf vk).toNat)
      case atStart => exact ⟨0, ps, rfl, Nat.zero_le _, HPL.out, fun i q hi => absurd hi (Nat.not_lt_zero i), heap_new _ _ rfl, (Below.refl _ _).alloc (Nat.le_refl _) _⟩
      case round =>
        obtain ⟨k, qs, rfl, hkn, hql, hqs, hblk, hb3⟩ := hrel.ex
        clear hrel
        by_cases hk : k < n
        · have ck : wr.cell? ⟨W3.heap.size, k, none⟩ = some (.bool (qs[k]'(by omega))) := by rw [cell_of hblk]; simp [bcells, hql, hk]
          have fk : wr.frozen? ⟨W3.heap.size, k, none⟩ = false := by simp [World.frozen?, hblk]
          have bk : (k : Int) < (n : Int) := by omega
          have d3 : decide (k < n) = true := by simpa using hk
          have HBK := hide hblk
          have HQS := hide hqs
          have HB3 := hide hb3
          have nxt : ∀ q0 : Bool, q0 = decide ((t + k) % 2 = 0) → M2 W3 (wr.setCell ⟨W3.heap.size, k, none⟩ (.bool q0)) t n (.int .i64 ((k + 1 : Nat) : Int)) := fun q0 hq0 => by
            refine ⟨k + 1, qs.set k q0, rfl, by omega, by simpa using hql, fun i q hi hq => ?_, ?_, HB3.out.setCell (Nat.le_refl _) _⟩
            · rw [List.getElem?_set] at hq
              by_cases e : k = i
              · subst e
                rw [if_pos rfl, if_pos (by omega)] at hq
                cases hq; exact hq0
              · rw [if_neg e] at hq
                exact HQS.out i q (by omega) hq
            · rw [heap_setCell_same _ _ _ _ HBK.out]; simp [bcells, List.map_set]
          have NXT := hide nxt
          clear hblk hqs hb3 nxt
          generalize qs[k]'(by omega) = q1 at *
          by_cases hpar : (t + k) % 2 = 0
          · have r1 : ((t : Int) + (k : Int)).tmod 2 = 0 := by rw [Int.tmod_eq_emod_of_nonneg (by omega)]; omega
            go_wp2
            go_roundw
            case rel => exact NXT.out true (by simp [hpar])
            case measure => simp [intOf]; omega
          · have r1 : ((t : Int) + (k : Int)).tmod 2 = 1 := by rw [Int.tmod_eq_emod_of_nonneg (by omega)]; omega
            go_wp2
            go_roundw
            case rel => exact NXT.out false (by simp [hpar])
            case measure => simp [intOf]; omega
        · obtain rfl : k = n := by omega
          have d3 : decide (k < k) = false := by simp
          have hq2 : ∀ (i : Nat) (q : Bool), qs[i]? = some q → q = decide ((t + i) % 2 = 0) := fun i q hq => hqs i q (by have := get_lt hq; omega) hq
          have hbl2 : Bools w wr (.slice (some ⟨W3.heap.size, 0, none⟩) qs.length qs.length) qs := by
            refine .inr ⟨W3.heap.size, 0, qs.length, rfl, lt_of_block hblk, .inr ⟨_, hblk⟩, fun i q hq => ?_⟩
            rw [cell_of hblk]; simp [bcells, hq]
          have hpush := (H.out.below hb3).push hbl2 (by omega)
          have hok : pushP s qs = (0, pushS s qs) := by
            unfold pushP
            rw [if_pos]
            simp only [pushOk, decide_eq_true_eq]
            rw [HE.out.len, HE.out.ws, HE.out.most, hql]
            omega
          have E2 := hide (HE.out.push hq2)
          rw [hok] at hpush
          rw [hql] at hpush E2
          have HP := hide hpush
          clear hpush hok hbl2 hq2 hqs hblk hb3
          go_wp2_with fail
          refine HP.out.mono ?_
          rintro e w4 ⟨rfl, H4⟩
          have H4h := hide H4
          clear H4 HP
          go_wp2
          go_roundw
          case rel => exact ⟨j + 1, t + k, pushS s qs, by go_num, by go_num, by omega, by omega, by omega, E2.out, H4h.out⟩
          case measure => simp [intOf]; omega
    · have hd : (decide (j < n0) = false ∧ decide ((j : Int) < (n0 : Int)) = false) ∨ (decide (j < n0) = true ∧ decide ((j : Int) < (n0 : Int)) = true ∧ decide (j < 20) = false ∧ decide ((j : Int) < 20) = false) := by
        by_cases h1 : j < n0
        · right; simp; omega
        · left; simp; omega
      clear hlt HB0 HN0
      have ht180 : t ≤ 180 := by omega
      have hmk := run_ints W3 t (by omega)
      obtain ⟨zs, hzs⟩ : ∃ zs, List.replicate t 0 = zs := ⟨_, rfl⟩
      have HZ := hide (show zs.length = t by rw [← hzs]; simp)
      rw [hzs] at hmk
      have H3 := hide (H.out.beside (.cells (addrs zs).toArray 3))
      clear hzs
      have far1 : allowB ((bs : Int) + 1) = true := by simp [allowB]; omega
      have FAR := hide far1
      clear far1
      rcases hd with ⟨d1, d2⟩ | ⟨d1, d2, d3, d4⟩
      all_goals
        go_wp2
        go_loopw [14] (fun vi wr' => M3 w wr' w.heap.size W3.heap.size j t vi) (fun vi _ => t - (intOf vi).toNat)
        case atStart => exact ⟨0, s, zs, rfl, Nat.zero_le _, HE.out, ⟨HZ.out, fun i x hi => absurd hi (Nat.not_lt_zero i)⟩, heap_new _ _ rfl, H3.out⟩
        case round =>
          obtain ⟨k, s4, xs, rfl, hkt, E4, F4, hblk, H4⟩ := hrel.ex
          clear hrel
          have hxl := F4.1
          by_cases hk : k < t
          · have ck : wr.cell? ⟨W3.heap.size, k, none⟩ = some (.int .i64 ((xs[k]'(by omega) : Nat) : Int)) := by rw [cell_of hblk]; simp [addrs, hxl, hk]
            have fk : wr.frozen? ⟨W3.heap.size, k, none⟩ = false := by simp [World.frozen?, hblk]
            have bk : (k : Int) < (t : Int) := by omega
            have e3 : decide (k < t) = true := by simpa using hk
            have H4h := hide H4
            have E4h := hide E4
            have F4h := hide F4
            have BK := hide hblk
            have call : ∀ v : Nat, v ≤ t → Calls Try.prog 18 #[ptr w.heap.size, .int .i64 (100000 + (k : Int)), .int .i64 (100000 + (v : Int))] (wr.setCell ⟨W3.heap.size, k, none⟩ (.int .i64 (v : Int))) fun e w' => e = .returned (.int .i64 0) ∧ M3 w w' w.heap.size W3.heap.size j t (.int .i64 ((k + 1 : Nat) : Int)) := fun v hv => by
              refine ((H4h.out.store k (.int .i64 (v : Int))).set _ _ (by omega) (by omega)).mono ?_
              rw [E4h.out.setP hk]
              rintro e w' ⟨rfl, hh, hbk⟩
              refine ⟨rfl, k + 1, setS s4 k (100000 + (v : Int)), xs.set k v, rfl, by omega, E4h.out.set _ _, F4h.out.next E4h.out.ws hk hv, ?_, hh⟩
              rw [hbk, heap_setCell_same _ _ _ _ BK.out]; simp [addrs, List.map_set]
            have CALL := hide call
            clear call H4 E4 F4 hblk
            generalize xs[k]'(by omega) = x1 at *
            by_cases hto : k < n1'
            · obtain ⟨u, hu⟩ : ∃ u, lb[k]? = some u := ⟨lb[k]'(by rw [HN1.out]; exact hto), by simp⟩
              obtain ⟨hu256, b, o, hao, hbl, cu0⟩ := HB1.out _ _ hu
              subst hao
              have cu : wr.cell? ⟨b, o + k, none⟩ = some (.int .u16 u) := (H4h.out.bel.cell (p := ⟨b, o + k, none⟩) hbl).trans cu0
              obtain ⟨v, hv⟩ : ∃ v, u % (t + 1) = v := ⟨_, rfl⟩
              have hvt : v ≤ t := by rw [← hv]; have := Nat.mod_lt u (show 0 < t + 1 by omega); omega
              have r0 : (u : Int).tmod ((t : Int) + 1) = (v : Int) := by
                rw [Int.tmod_eq_emod_of_nonneg (by omega), ← hv]; rfl
              have hc := hide (CALL.out v hvt)
              have bk2 : (k : Int) < (n1' : Int) := by omega
              have bu : (u : Int) < 65536 := by omega
              have bv : (v : Int) ≤ (t : Int) := by omega
              have e4 : decide (k < n1') = true := by simpa using hto
              clear cu0 hu hv CALL
              go_wp2_with fail
              refine hc.out.mono ?_
              rintro e w5 ⟨rfl, M5⟩
              have M5h := hide M5
              clear M5 hc
              go_wp2
              go_roundw
              case rel => exact M5h.out
              case measure => simp [intOf]; omega
            · have hc := hide (CALL.out k (by omega))
              have e4 : decide (k < n1') = false := by simpa using hto
              have e5 : decide ((k : Int) < (n1' : Int)) = false := by simpa using hto
              clear CALL
              go_wp2_with fail
              refine hc.out.mono ?_
              rintro e w5 ⟨rfl, M5⟩
              have M5h := hide M5
              clear M5 hc
              go_wp2
              go_roundw
              case rel => exact M5h.out
              case measure => simp [intOf]; omega
          · obtain rfl : k = t := by omega
            have e3 : decide (k < k) = false := by simp
            have hmv := H4.move (x := (bs : Int) + 1) FAR.out
            rw [E4.ws] at hmv
            have HM := hide hmv
            have E4h := hide E4
            have F4h := hide F4
            have BK := hide hblk
            clear H4 E4 F4 hblk hmv
            go_wp2_with fail
            refine HM.out.mono ?_
            rintro e w5 ⟨rfl, H5, hb5⟩
            have H5h := hide H5
            have B5 := hide (hb5.trans BK.out)
            clear H5 hb5 HM
            go_wp2
            go_loopw [19, 20] (fun vc vi wr' => M4 w wr' w.heap.size W3.heap.size k ((bs : Int) + 1) s4 xs vc vi) (fun _ vi _ => k - (intOf vi).toNat)
            case atStart => exact ⟨0, by simp [cntP], rfl, Nat.zero_le _, B5.out, H5h.out⟩
            case round =>
              obtain ⟨i, rfl, rfl, hik, hbq, Hq⟩ := hrel.ex
              clear hrel H5h B5
              have hcl := cntP_le s4 i
              rw [E4h.out.ws] at hcl
              by_cases hi : i < k
              · obtain ⟨x, hx⟩ : ∃ x, xs[i]? = some x := ⟨xs[i]'(by rw [F4h.out.1]; exact hi), by simp⟩
                obtain ⟨g1, g2, g3, _⟩ := moved (far := (bs : Int) + 1) E4h.out F4h.out hx
                have hg := Hq.get ((bs : Int) + 1 + (i : Int)) (by omega)
                rw [g1] at hg
                have HG := hide hg
                have G2 := hide g2
                have bi : (i : Int) < (k : Int) := by omega
                have bx : (x : Int) ≤ (k : Int) := by omega
                have e5 : decide (i < k) = true := by simpa using hi
                have HX := hide hx
                have BQ := hide hbq
                generalize hcn : cntP s4 i = cn at *
                have HCN := hide hcn
                clear hg g1 g2 Hq hbq hx hcn
                have bc : (cn : Int) ≤ 180 := by omega
                by_cases hc1 : i % 2 = 0
                · have r1 : (i : Int).tmod 2 = 0 := by rw [Int.tmod_eq_emod_of_nonneg (by omega)]; omega
                  by_cases hc2 : x < k
                  · have e6 : decide (x < k) = true := by simpa using hc2
                    have e7 : decide ((x : Int) < (k : Int)) = true := by simpa using hc2
                    have HG' := HG.out
                    rw [if_pos ⟨hc1, hc2⟩] at HG'
                    have G2' := G2.out
                    rw [if_pos ⟨hc1, hc2⟩] at G2'
                    have HG2 := hide HG'
                    have G3 := hide G2'
                    clear HG HG' G2 G2'
                    go_wp2_with fail
                    refine HG2.out.mono ?_
                    rintro e w6 ⟨rfl, H6, hb6⟩
                    have cx : w6.cell? ⟨W3.heap.size, i, none⟩ = some (.int .i64 (x : Int)) := by rw [cell_of (hb6.trans BQ.out)]; simp [addrs, HX.out]
                    have H6h := hide H6
                    have B6 := hide (hb6.trans BQ.out)
                    clear H6 hb6 HG2
                    go_wp2
                    go_roundw
                    case rel => exact ⟨i + 1, by rw [G3.out]; go_num, by go_num, by omega, B6.out, H6h.out⟩
                    case measure => simp [intOf]; omega
                  · have e6 : decide (x < k) = false := by simpa using hc2
                    have e7 : decide ((x : Int) < (k : Int)) = false := by simpa using hc2
                    have HG' := HG.out
                    rw [if_neg (fun h => hc2 h.2)] at HG'
                    have G2' := G2.out
                    rw [if_neg (fun h => hc2 h.2)] at G2'
                    have HG2 := hide HG'
                    have G3 := hide G2'
                    clear HG HG' G2 G2'
                    go_wp2_with fail
                    refine HG2.out.mono ?_
                    rintro e w6 ⟨rfl, H6, hb6⟩
                    have cx : w6.cell? ⟨W3.heap.size, i, none⟩ = some (.int .i64 (x : Int)) := by rw [cell_of (hb6.trans BQ.out)]; simp [addrs, HX.out]
                    have H6h := hide H6
                    have B6 := hide (hb6.trans BQ.out)
                    clear H6 hb6 HG2
                    go_wp2
                    go_roundw
                    case rel => exact ⟨i + 1, by rw [G3.out]; go_num, by go_num, by omega, B6.out, H6h.out⟩
                    case measure => simp [intOf]; omega
                · have r1 : (i : Int).tmod 2 = 1 := by rw [Int.tmod_eq_emod_of_nonneg (by omega)]; omega
                  have HG' := HG.out
                  rw [if_neg (fun h => hc1 h.1)] at HG'
                  have G2' := G2.out
                  rw [if_neg (fun h => hc1 h.1)] at G2'
                  have HG2 := hide HG'
                  have G3 := hide G2'
                  clear HG HG' G2 G2'
                  go_wp2_with fail
                  refine HG2.out.mono ?_
                  rintro e w6 ⟨rfl, H6, hb6⟩
                  have cx : w6.cell? ⟨W3.heap.size, i, none⟩ = some (.int .i64 (x : Int)) := by rw [cell_of (hb6.trans BQ.out)]; simp [addrs, HX.out]
                  have H6h := hide H6
                  have B6 := hide (hb6.trans BQ.out)
                  clear H6 hb6 HG2
                  go_wp2
                  go_roundw
                  case rel => exact ⟨i + 1, by rw [G3.out]; go_num, by go_num, by omega, B6.out, H6h.out⟩
                  case measure => simp [intOf]; omega
              · obtain rfl : i = k := by omega
                have B7 := hide Hq.bel
                clear Hq hbq
                go_wp2
                go_ret
                exact ⟨rfl, B7.out⟩
end Go.Proofs.Ytjapfckadikjiaa
