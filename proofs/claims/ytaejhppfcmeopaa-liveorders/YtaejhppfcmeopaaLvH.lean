/- Blocks that lie; graphs that are made of them: goOn, comeFrom. -/
import Derived.Test.YtaejhppfcmeopaaLvG
import Derived.Test.YtaejhppfcmeopaaLvQ
namespace Go.Proofs.Ytaejhppfcmeopaa
open Go.RowKit
/-- Blocks that lie somewhere. -/
def BlksAt (w : World) (v : Value) (l : List Blk) : Prop :=
  ∃ ao cap, v = .slice ao l.length cap ∧ ∀ (j : Nat) (b : Blk), l[j]? = some b → ∃ g o vu vd vn, ao = some ⟨g, o, none⟩ ∧ g < w.heap.size ∧ w.cell? ⟨g, o + j * 3, none⟩ = some vu ∧ w.cell? ⟨g, o + j * 3 + 1, none⟩ = some vd ∧ w.cell? ⟨g, o + j * 3 + 2, none⟩ = some vn ∧ IntsAt w vu b.u ∧ IntsAt w vd b.d ∧ IntsAt w vn b.n
section
variable {w w' : World} {v : Value}
theorem BlksAt.below {l : List Blk} (R : BlksAt w v l) (hb : Below w.heap.size w w') : BlksAt w' v l := by
  obtain ⟨ao, cap, h1, h2⟩ := R
  refine ⟨ao, cap, h1, fun j b hj => ?_⟩
  obtain ⟨g, o, vu, vd, vn, h3, h4, h5, h6, h7, h8, h9, h10⟩ := h2 j b hj
  exact ⟨g, o, vu, vd, vn, h3, Nat.lt_of_lt_of_le h4 hb.size, by rw [keep_cell hb h4]; exact h5, by rw [keep_cell hb h4]; exact h6, by rw [keep_cell hb h4]; exact h7, h8.below hb, h9.below hb, h10.below hb⟩
theorem IntsAt.slice {l : List Int} (R : IntsAt w v l) : ∃ ao cap, v = .slice ao l.length cap := by
  obtain ⟨ao, cap, h, _⟩ := R
  exact ⟨ao, cap, h⟩
theorem IntsAt.cell {l : List Int} {ao : Option Addr} {n cap : Nat} (R : IntsAt w (.slice ao n cap) l) {i : Nat} {x : Int} (h : l[i]? = some x) : ∃ g o, ao = some ⟨g, o, none⟩ ∧ g < w.heap.size ∧ w.cell? ⟨g, o + i, none⟩ = some (.int .i64 x) := by
  obtain ⟨a, c, h1, _, h2⟩ := R
  cases h1
  exact h2 i x h
end
theorem info_set : (Try.prog.info? 64).map (fun i => (i.zero, i.size, i.bytes)) = some (some (.agg zc), 8, 64) := by kernel_rfl
theorem made_get {n i : Nat} (h : i < n) : (madeCells zc n)[i]? = some (.int .u64 0) := by
  have h8 : i % 8 < 8 := Nat.mod_lt _ (by decide)
  have : (madeCells zc n)[i]? = some (zc[i % 8]!) := by simp [madeCells, h]
  rw [this]
  match i % 8, h8 with
  | 0, _ => rfl | 1, _ => rfl | 2, _ => rfl | 3, _ => rfl | 4, _ => rfl | 5, _ => rfl | 6, _ => rfl | 7, _ => rfl
theorem run_sets (w : World) (n : Nat) (hn : n ≤ 10000) : (Instr.makeSlice 58 (.int .i64 n) (.int .i64 n)).run Try.prog w = .ok (.slice (some ⟨w.heap.size, 0, none⟩) n n) (w.alloc (.cells (madeCells zc (n * 8)) 64)) := by
  obtain ⟨i0, hi, hz0, hz1, hz2⟩ := info_parts info_set
  have hmk := run_make (P := Try.prog) w 58 64 i0 (.agg zc) Try.underlying58 hi hz0 .i64 .i64 n n (by omega) (Int.le_refl _) (by rw [hz2]; omega) (by omega)
  rw [hz1] at hmk
  simp only [Int.toNat_natCast] at hmk
  exact hmk
/-- A graph that is being made, out of edges. -/
structure Gm (w0 w : World) (gb n : Nat) (E : List (Nat × Nat)) : Prop where
  blk : ∃ arr, w.heap[gb]? = some (.cells arr 64 (0, 0)) ∧ arr.size = n * 8 ∧ ∀ t k, t < n → k < 8 → arr[t * 8 + k]? = some (.int .u64 (wd (ed E t) k))
  bel : Below w0.heap.size w0 w
  lo : w0.heap.size ≤ gb
section
variable {w0 w w' : World} {gb n : Nat} {E : List (Nat × Nat)}
theorem Gm.lt (M : Gm w0 w gb n E) : gb < w.heap.size := by
  obtain ⟨arr, h, _⟩ := M.blk
  exact lt_of_block h
theorem Gm.new (w : World) (n : Nat) : Gm w (w.alloc (.cells (madeCells zc (n * 8)) 64)) w.heap.size n [] := by
  refine ⟨⟨_, heap_new _ _ rfl, size_madeCells _ _, fun t k ht hk => ?_⟩, (Below.refl _ _).alloc (Nat.le_refl _) _, Nat.le_refl _⟩
  rw [ed_nil, wd_zero, made_get (by omega)]
  rfl
theorem Gm.under (M : Gm w0 w gb n E) (h : Below w.heap.size w w') : Gm w0 w' gb n E := by
  obtain ⟨arr, h1, h2, h3⟩ := M.blk
  exact ⟨⟨arr, (h.block _ (lt_of_block h1)).trans h1, h2, h3⟩, M.bel.trans (h.mono M.bel.size), M.lo⟩
theorem Gm.at (M : Gm w0 w gb n E) {t : Nat} (ht : t < n) : SetAt w gb (t * 8) (ed E t) := fun k hk => by
  obtain ⟨arr, h1, h2, h3⟩ := M.blk
  exact cell_of h1 (h3 t k ht hk)
theorem Gm.fz (M : Gm w0 w gb n E) (o : Nat) : w.frozen? ⟨gb, o, none⟩ = false := by
  obtain ⟨arr, h1, h2, h3⟩ := M.blk
  exact fz_of _ h1
theorem Gm.add (M : Gm w0 w gb n E) {t s : Nat} (ht : t < n) (hs : s < 512) : Gm w0 (w.setCell ⟨gb, t * 8 + s / 64, none⟩ (.int .u64 (wd (ed E t ||| 2 ^ s) (s / 64) : Nat))).drew gb n (E ++ [(t, s)]) := by
  obtain ⟨arr, h1, h2, h3⟩ := M.blk
  refine ⟨⟨_, heap_setCell_same _ _ _ _ h1, by simpa using h2, fun t' k ht' hk => ?_⟩, (M.bel.setCell M.lo _).drew, M.lo⟩
  rw [Array.getElem?_setIfInBounds]
  by_cases e : t' = t
  · subst e
    rw [ed_same _ _ _ hs]
    by_cases e2 : s / 64 = k
    · subst e2
      rw [if_pos rfl, if_pos (by omega)]
    · rw [if_neg (by omega), wd_add_other _ (fun h => e2 h.symm)]
      exact h3 t' k ht' hk
  · rw [if_neg (by omega), ed_other _ _ e]
    exact h3 t' k ht' hk
theorem Gm.gra (M : Gm w0 w gb n E) {P : Nat → Nat} (h : ∀ t, ed E t = P t) : GrA w gb n P := ⟨M.lt, fun t ht => by rw [← h t]; exact M.at ht⟩
/-- add, of a set of the graph. -/
theorem Gm.call (M : Gm w0 w gb n E) {t s : Nat} (ht : t < n) (hs : s < 512) : Calls Try.prog 42 #[.pointer (some ⟨gb, t * 8, none⟩), .int .i64 s] w fun e w' => (∃ v, e = .returned v) ∧ Gm w0 w' gb n (E ++ [(t, s)]) := by
  refine (add_any (M.at ht) (M.fz _) hs).mono ?_
  rintro e w1 ⟨h1, rfl⟩
  exact ⟨h1, M.add ht hs⟩
set_option maxHeartbeats 2000000 in
theorem comeFrom_any {v : Value} {bs : List Blk} {K : Nat} (S : Snd bs K) (R : BlksAt w v bs) : Calls Try.prog 34 #[v] w fun e w' => e = .returned (.slice (some ⟨w.heap.size, 0, none⟩) bs.length bs.length) ∧ GrA w' w.heap.size bs.length (pre bs) ∧ Below w.heap.size w w' := by
  obtain ⟨ao, cap, rfl, h2⟩ := R
  have hl := S.l
  have hr := run_sets w bs.length (by omega)
  have M0 := Gm.new w bs.length
  generalize hW0 : w.alloc (.cells (madeCells zc (bs.length * 8)) 64) = W0 at *
  have H2 := hide h2
  have HS := hide S
  clear h2 S hW0
  generalize hn : bs.length = n at *
  have HN := hide hn
  have HM0 := hide M0
  have hn2 : (n : Int) ≤ 512 := by omega
  clear hn M0
  go_enter Try.func34, Try.ntmps34
  go_wp2
  go_loopw [4, 5, 7, 13] (fun _ _ _ i wr => ∃ j : Nat, j ≤ n ∧ i = .int .i64 j ∧ Hid (Gm w wr w.heap.size n (eG mT (·.n) bs j))) (fun _ _ _ i _ => n - (intOf i).toNat)
  case atStart => exact ⟨0, Nat.zero_le _, rfl, HM0.out⟩
  case round =>
    obtain ⟨j, hj, rfl, HM⟩ := hrel
    by_cases hlt : j < n
    · obtain ⟨b, hb⟩ : ∃ b, bs[j]? = some b := ⟨bs[j]'(by rw [HN.out]; exact hlt), by simp⟩
      obtain ⟨g, o, vu, vd, vn, rfl, hg, c0, c1, c2, IU, ID, IN⟩ := H2.out j b hb
      rw [← HM.out.bel.cell (p := ⟨g, o + j * 3, none⟩) hg] at c0
      rw [← HM.out.bel.cell (p := ⟨g, o + j * 3 + 1, none⟩) hg] at c1
      rw [← HM.out.bel.cell (p := ⟨g, o + j * 3 + 2, none⟩) hg] at c2
      obtain ⟨an, cn, rfl⟩ := IN.slice
      obtain ⟨au, cu, rfl⟩ := IU.slice
      obtain ⟨ad, cd, rfl⟩ := ID.slice
      generalize b.u.length = lu at *
      generalize b.d.length = ld at *
      have HI := hide IN
      have hml := IN.len
      have HB := hide hb
      have hg2 := Nat.lt_of_lt_of_le hg HM.out.bel.size
      have bj : (j : Int) < (n : Int) := by omega
      generalize hln : b.n.length = m at *
      have HLN := hide hln
      have hml2 : (m : Int) ≤ 9223372036854775807 := by omega
      clear IN IU ID hb hln hg
      have HA := hide ((Below.refl wr.heap.size wr).alloc (Nat.le_refl _) (.cells #[.slice au lu cu, .slice ad ld cd, .slice an m cn] 41))
      go_wp2
      clear c0 c1 c2
      go_loopw [7, 21] (fun _ i wq => ∃ q : Nat, q ≤ m ∧ i = .int .i64 q ∧ Hid (Gm w wq w.heap.size n (eG mT (·.n) bs j ++ (b.n.take q).map fun x => mT x.toNat j))) (fun _ i _ => m - (intOf i).toNat)
      case atStart => exact ⟨0, Nat.zero_le _, rfl, by simp only [List.take_zero, List.map_nil, List.append_nil]; exact HM.out.under HA.out⟩
      case round =>
        obtain ⟨q, hq, rfl, HQ⟩ := hrel
        by_cases hql : q < m
        · obtain ⟨x, hx⟩ : ∃ x, b.n[q]? = some x := ⟨b.n[q]'(by rw [HLN.out]; exact hql), by simp⟩
          obtain ⟨y, rfl, hy⟩ := HS.out.n j b HB.out x (List.mem_of_getElem? hx)
          rw [HN.out] at hy
          obtain ⟨gx, ox, rfl, hgx, cx⟩ := IntsAt.cell HI.out hx
          rw [← HQ.out.bel.cell (p := ⟨gx, ox + q, none⟩) hgx] at cx
          have hgx2 := Nat.lt_of_lt_of_le hgx HQ.out.bel.size
          have by1 : (y : Int) < (n : Int) := by omega
          have bq : (q : Int) < (m : Int) := by omega
          have hc := Gm.call HQ.out (t := y) (s := j) (by omega) (by omega)
          have HKP : Hid ((eG mT (·.n) bs j ++ (b.n.take q).map fun x => mT x.toNat j) ++ [(y, j)] = eG mT (·.n) bs j ++ (b.n.take (q + 1)).map fun x => mT x.toNat j) := hide (by rw [List.take_add_one, hx]; simp [mT])
          clear HQ hx hgx
          go_wp2_with (go_at_call 42; refine hc.mono ?_; rintro e w2 ⟨⟨v2, rfl⟩, M2⟩)
          go_roundw
          case rel => exact ⟨q + 1, by omega, by go_num, by rw [← HKP.out]; exact M2⟩
          case measure => simp [intOf]; omega
        · obtain rfl : q = m := by omega
          have HE := hide (eG_next (m := mT) (f := (·.n)) HB.out)
          have HQ1 := hide HQ.out
          clear HQ
          go_wp2
          go_roundw
          case rel => exact ⟨j + 1, by omega, by go_num, by have h := HQ1.out; rw [← HLN.out, List.take_length, ← HE.out] at h; exact h⟩
          case measure => simp [intOf]; omega
    · obtain rfl : j = n := by omega
      have HR := hide (HM.out.gra (P := pre bs) (by rw [← HN.out]; exact ed_pre HS.out))
      have HBB := hide HM.out.bel
      clear HM
      go_wp2
      go_ret
      exact ⟨rfl, HR.out, HBB.out⟩
set_option maxHeartbeats 2000000 in
theorem goOn_any {v : Value} {bs : List Blk} {K : Nat} (S : Snd bs K) (R : BlksAt w v bs) : Calls Try.prog 44 #[v] w fun e w' => e = .returned (.slice (some ⟨w.heap.size, 0, none⟩) bs.length bs.length) ∧ GrA w' w.heap.size bs.length (suc bs) ∧ Below w.heap.size w w' := by
  obtain ⟨ao, cap, rfl, h2⟩ := R
  have hl := S.l
  have hr := run_sets w bs.length (by omega)
  have M0 := Gm.new w bs.length
  generalize hW0 : w.alloc (.cells (madeCells zc (bs.length * 8)) 64) = W0 at *
  have H2 := hide h2
  have HS := hide S
  clear h2 S hW0
  generalize hn : bs.length = n at *
  have HN := hide hn
  have HM0 := hide M0
  have hn2 : (n : Int) ≤ 512 := by omega
  clear hn M0
  go_enter Try.func44, Try.ntmps44
  go_wp2
  go_loopw [4, 5, 7, 13] (fun _ _ _ i wr => ∃ j : Nat, j ≤ n ∧ i = .int .i64 j ∧ Hid (Gm w wr w.heap.size n (eG mS (·.n) bs j))) (fun _ _ _ i _ => n - (intOf i).toNat)
  case atStart => exact ⟨0, Nat.zero_le _, rfl, HM0.out⟩
  case round =>
    obtain ⟨j, hj, rfl, HM⟩ := hrel
    by_cases hlt : j < n
    · obtain ⟨b, hb⟩ : ∃ b, bs[j]? = some b := ⟨bs[j]'(by rw [HN.out]; exact hlt), by simp⟩
      obtain ⟨g, o, vu, vd, vn, rfl, hg, c0, c1, c2, IU, ID, IN⟩ := H2.out j b hb
      rw [← HM.out.bel.cell (p := ⟨g, o + j * 3, none⟩) hg] at c0
      rw [← HM.out.bel.cell (p := ⟨g, o + j * 3 + 1, none⟩) hg] at c1
      rw [← HM.out.bel.cell (p := ⟨g, o + j * 3 + 2, none⟩) hg] at c2
      obtain ⟨an, cn, rfl⟩ := IN.slice
      obtain ⟨au, cu, rfl⟩ := IU.slice
      obtain ⟨ad, cd, rfl⟩ := ID.slice
      generalize b.u.length = lu at *
      generalize b.d.length = ld at *
      have HI := hide IN
      have hml := IN.len
      have HB := hide hb
      have hg2 := Nat.lt_of_lt_of_le hg HM.out.bel.size
      have bj : (j : Int) < (n : Int) := by omega
      generalize hln : b.n.length = m at *
      have HLN := hide hln
      have hml2 : (m : Int) ≤ 9223372036854775807 := by omega
      clear IN IU ID hb hln hg
      have HA := hide ((Below.refl wr.heap.size wr).alloc (Nat.le_refl _) (.cells #[.slice au lu cu, .slice ad ld cd, .slice an m cn] 41))
      go_wp2
      clear c0 c1 c2
      go_loopw [7, 21] (fun _ i wq => ∃ q : Nat, q ≤ m ∧ i = .int .i64 q ∧ Hid (Gm w wq w.heap.size n (eG mS (·.n) bs j ++ (b.n.take q).map fun x => mS x.toNat j))) (fun _ i _ => m - (intOf i).toNat)
      case atStart => exact ⟨0, Nat.zero_le _, rfl, by simp only [List.take_zero, List.map_nil, List.append_nil]; exact HM.out.under HA.out⟩
      case round =>
        obtain ⟨q, hq, rfl, HQ⟩ := hrel
        by_cases hql : q < m
        · obtain ⟨x, hx⟩ : ∃ x, b.n[q]? = some x := ⟨b.n[q]'(by rw [HLN.out]; exact hql), by simp⟩
          obtain ⟨y, rfl, hy⟩ := HS.out.n j b HB.out x (List.mem_of_getElem? hx)
          rw [HN.out] at hy
          obtain ⟨gx, ox, rfl, hgx, cx⟩ := IntsAt.cell HI.out hx
          rw [← HQ.out.bel.cell (p := ⟨gx, ox + q, none⟩) hgx] at cx
          have hgx2 := Nat.lt_of_lt_of_le hgx HQ.out.bel.size
          have by1 : (y : Int) < (n : Int) := by omega
          have bq : (q : Int) < (m : Int) := by omega
          have hc := Gm.call HQ.out (t := j) (s := y) (by omega) (by omega)
          have HKP : Hid ((eG mS (·.n) bs j ++ (b.n.take q).map fun x => mS x.toNat j) ++ [(j, y)] = eG mS (·.n) bs j ++ (b.n.take (q + 1)).map fun x => mS x.toNat j) := hide (by rw [List.take_add_one, hx]; simp [mS])
          clear HQ hx hgx
          go_wp2_with (go_at_call 42; refine hc.mono ?_; rintro e w2 ⟨⟨v2, rfl⟩, M2⟩)
          go_roundw
          case rel => exact ⟨q + 1, by omega, by go_num, by rw [← HKP.out]; exact M2⟩
          case measure => simp [intOf]; omega
        · obtain rfl : q = m := by omega
          have HE := hide (eG_next (m := mS) (f := (·.n)) HB.out)
          have HQ1 := hide HQ.out
          clear HQ
          go_wp2
          go_roundw
          case rel => exact ⟨j + 1, by omega, by go_num, by have h := HQ1.out; rw [← HLN.out, List.take_length, ← HE.out] at h; exact h⟩
          case measure => simp [intOf]; omega
    · obtain rfl : j = n := by omega
      have HR := hide (HM.out.gra (P := suc bs) (by rw [← HN.out]; exact ed_suc HS.out))
      have HBB := hide HM.out.bel
      clear HM
      go_wp2
      go_ret
      exact ⟨rfl, HR.out, HBB.out⟩
end
end Go.Proofs.Ytaejhppfcmeopaa
