/- Alloc. -/
import Derived.Test.YtimpmgbahgganaaArG
import Derived.Deep.RegionHeld3
namespace Go.Proofs.Ytimpmgbahgganaa
open Go.RowKit Go.Maps

theorem alloc_arg (a : Value) (n : Int) (w : World) (h : (∃ x, a = .pointer x) ∧ (a = .pointer none ∨ clsN n.toNat = 0)) : Calls Try.prog 28 #[a, .int .i64 n] w fun e w' => e = two (0, 1) ∧ w' = w := by
  have hc := class_any n w
  obtain ⟨⟨x, rfl⟩, h⟩ := h
  cases x with
  | none =>
    generalize clsN n.toNat = c at hc
    clear h
    go_enter Try.func28, Try.ntmps28
    go_wp2_with fail
    refine hc.mono ?_
    rintro e w1 ⟨rfl, rfl⟩
    go_wp2
    go_ret2
    exact ⟨rfl, rfl⟩
  | some x =>
    have h0 : clsN n.toNat = 0 := by
      rcases h with h | h
      · cases h
      · exact h
    rw [h0] at hc
    clear h h0
    go_enter Try.func28, Try.ntmps28
    go_wp2_with fail
    refine hc.mono ?_
    rintro e w1 ⟨rfl, rfl⟩
    go_wp2
    go_ret2
    exact ⟨rfl, rfl⟩
/-- n words from o on are emptied one by one. -/
def clrI : List Int → Nat → Nat → List Int
  | ws, _, 0 => ws
  | ws, o, n + 1 => clrI (ws.set o 0) (o + 1) n
theorem clrI_get : ∀ (n : Nat) (ws : List Int) (o i : Nat), (clrI ws o n)[i]? = if o ≤ i ∧ i < o + n ∧ i < ws.length then some 0 else ws[i]?
  | 0, ws, o, i => by rw [clrI, if_neg (by omega)]
  | n + 1, ws, o, i => by
    rw [clrI, clrI_get n]
    simp only [List.length_set, List.getElem?_set]
    by_cases h : o = i
    · subst h
      rw [if_neg (by omega)]
      simp only [if_true]
      by_cases h2 : o < ws.length
      · rw [if_pos h2, if_pos (by omega)]
      · rw [if_neg h2, if_neg (by omega), List.getElem?_eq_none (by omega)]
    · rw [if_neg h]
      by_cases h2 : o + 1 ≤ i ∧ i < o + 1 + n ∧ i < ws.length
      · rw [if_pos h2, if_pos (by omega)]
      · rw [if_neg h2, if_neg (by omega)]
theorem clrI_eq {ws : List Int} {o n : Nat} (h : o + n ≤ ws.length) : clrI ws o n = clr ws o n := by
  apply List.ext_getElem?
  intro i
  rw [clrI_get, clr_get h]
  by_cases h2 : o ≤ i ∧ i < o + n
  · rw [if_pos h2, if_pos (by omega)]
  · rw [if_neg h2, if_neg (by omega)]
theorem heap_clear {b : Nat} : ∀ (n o : Nat) (w : World) (ws : List Int), w.heap[b]? = some (.cells (ints ws).toArray 3 (0, 0)) → (w.setCells b o (List.replicate n (.int .i64 0))).heap[b]? = some (.cells (ints (clrI ws o n)).toArray 3 (0, 0))
  | 0, o, w, ws, h => h
  | n + 1, o, w, ws, h => by
    rw [List.replicate_succ, World.setCells]
    refine heap_clear n (o + 1) _ (ws.set o 0) ?_
    rw [heap_setCell_same w b o _ h]
    simp [ints, List.map_set]
theorem heap_clear_other {b j : Nat} (hj : j ≠ b) : ∀ (vs : List Value) (o : Nat) (w : World), (w.setCells b o vs).heap[j]? = w.heap[j]?
  | [], _, _ => rfl
  | v :: r, o, w => by rw [World.setCells, heap_clear_other hj r, Below.heap_setCell _ _ _ _ hj]
theorem heap_clear_rest {b : Nat} : ∀ (vs : List Value) (o : Nat) (w : World), (w.setCells b o vs).heap.size = w.heap.size ∧ (w.setCells b o vs).os = w.os ∧ (w.setCells b o vs).tape = w.tape ∧ (w.setCells b o vs).output = w.output
  | [], _, _ => ⟨rfl, rfl, rfl, rfl⟩
  | v :: r, o, w => by
    have := heap_clear_rest (b := b) r (o + 1) (w.setCell ⟨b, o, none⟩ v)
    rw [World.setCells]
    exact ⟨by rw [this.1, World.size_setCell], this.2.1, this.2.2.1, this.2.2.2⟩
section
variable {X : Wh} {s : As} {k : Nat} {w : World}
/-- The words' block is changed. -/
theorem Lies.words (L : Lies X w s k) {w1 : World} {ws : List Int} (hl : ws.length = s.ws.length) (hw : w1.heap[X.bw]? = some (.cells (ints ws).toArray 3 (0, 0))) (hr : ∀ j, j ≠ X.bw → w1.heap[j]? = w.heap[j]?) (hz : w1.heap.size = w.heap.size) : Lies X w1 { s with ws := ws } k := by
  have hA : X.A ≠ X.bw := fun e => by have h1 := L.blk; rw [e, L.wds] at h1; simp at h1
  have hm : X.bm ≠ X.bw := fun e => by obtain ⟨D, ⟨es, cl, h1, _⟩, _⟩ := L.map; rw [e, L.wds] at h1; cases h1
  refine ⟨?_, hw, ?_, ?_, ?_, L.apart, L.apart2, L.base, L.lens, by rw [hz]; exact L.hB⟩
  · rw [hr _ hA]; simpa [hl] using L.blk
  · refine ownsRow_keep L.pcs fun g hg => hr g fun e => ?_
    subst e
    rcases L.pform with ⟨_, h1⟩ | ⟨g, cap, cur, h1, h2, _⟩
    · rw [h1] at hg; cases hg
    · rw [h1] at hg; cases hg; rw [L.wds] at h2; simp at h2
  · obtain ⟨D, ⟨es, clock, h1, h2⟩, h3⟩ := L.map
    exact ⟨D, ⟨es, clock, (hr _ hm).trans h1, h2⟩, h3⟩
  · exact fun c => ownsRow_keep (L.rows c) fun g hg => hr g fun e => L.apart c (e ▸ hg)
theorem Lies.clear (L : Lies X w s k) {o n : Nat} (h : o + n ≤ s.ws.length) : Lies X (w.setCells X.bw o (List.replicate n (.int .i64 0))) { s with ws := clr s.ws o n } k :=
  L.words (clr_length h) (by rw [← clrI_eq h]; exact heap_clear n o w s.ws L.wds) (fun j hj => heap_clear_other hj _ _ _) (heap_clear_rest _ _ _).1
theorem Step.clear {o : Nat} {vs : List Value} : Step X X w (w.setCells X.bw o vs) := by
  obtain ⟨h1, h2, h3, h4⟩ := heap_clear_rest (b := X.bw) vs o w
  exact ⟨rfl, rfl, h2, h3, h4, by omega, fun j _ hn => heap_clear_other (fun e => hn (.inr (.inl e))) _ _ _, fun j hj => .inl hj⟩
/-- A piece's words are set. -/
theorem Lies.mark (L : Lies X w s k) {i : Nat} {p : Pc} {g cap : Nat} (n : Nat) (hp : s.ps[i]? = some p) (hv : X.vp = .slice (some ⟨g, 0, none⟩) s.ps.length cap) : Lies X (w.setCell ⟨g, i * 2 + 1, none⟩ (.int .i64 n)) { s with ps := mark s.ps i n } k := by
  have hi := get_lt hp
  obtain ⟨cur, h2, h3, h4, h5, h6', h6⟩ : ∃ cur, w.heap[g]? = some (.cells cur 114 (0, 0)) ∧ cur.toList.take (s.ps.length * 2) = pcells s.ps ∧ s.ps.length ≤ cap ∧ cap ≤ maxLen ∧ cur.size = cap * 2 ∧ X.B ≤ g := by
    rcases L.pcs.2 with ⟨_, h1⟩ | ⟨g', cap', cur, h1, hb, h2, h3, hc, hs, h4⟩
    · omega
    · rw [hv] at h1; cases h1; exact ⟨cur, h2, h4, h3, hc, hs, hb⟩
  have hr : ∀ j, j ≠ g → (w.setCell ⟨g, i * 2 + 1, none⟩ (.int .i64 n)).heap[j]? = w.heap[j]? := fun j hj => Below.heap_setCell w _ _ j hj
  have hne : ∀ {b : Nat} {o : Obj}, w.heap[b]? = some o → (∀ cur, o ≠ .cells cur 114 (0, 0)) → b ≠ g := fun {b o} hb ho e => by subst e; rw [hb] at h2; cases h2; exact ho cur rfl
  refine ⟨?_, ?_, ?_, ?_, fun c => ?_, L.apart, L.apart2, L.base, L.lens, by rw [World.size_setCell]; exact L.hB⟩
  · rw [hr _ (hne L.blk (fun cur h => by simp at h))]; exact L.blk
  · rw [hr _ (hne L.wds (fun cur h => by simp at h))]; exact L.wds
  · rw [mark_length]
    refine ⟨by rw [pcells_length, mark_length], .inr ⟨g, cap, _, hv, h6, heap_setCell_same w g _ _ h2, h4, h5, by simpa using h6', ?_⟩⟩
    rw [pcells_mark n hi, ← h3]
    simp [List.take_set]
  · obtain ⟨D, ⟨es, clock, h1, h2⟩, h3⟩ := L.map
    exact ⟨D, ⟨es, clock, (hr _ (hne h1 (fun cur h => by cases h))).trans h1, h2⟩, h3⟩
  · refine ownsRow_keep (L.rows c) fun j hj => ?_
    obtain ⟨cur, h2⟩ := L.row_form hj
    exact hr j (hne h2 (fun cur h => by simp at h))
theorem Step.mark {g o : Nat} {v : Value} (hv : X.vp.ownBlock = some g) : Step X X w (w.setCell ⟨g, o, none⟩ v) :=
  ⟨rfl, rfl, rfl, rfl, rfl, by simp, fun j _ hn => Below.heap_setCell _ _ _ _ (fun e => hn (.inr (.inr (.inr (.inl (by rw [e]; exact hv)))))), fun j hj => .inl hj⟩
theorem after_last {X2 : Wh} {g cap m i A : Nat} {p : Pc} (L : Lies X2 w s k) (hA : X2.A = A) (hp : s.ps[i]? = some p) (hv : X2.vp = .slice (some ⟨g, 0, none⟩) m cap) (hm : s.ps.length = m) :
    w.cell? ⟨A, 2, none⟩ = some (.slice (some ⟨g, 0, none⟩) m cap) ∧ w.cell? ⟨g, i * 2 + 1, none⟩ = some (.int .i64 p.n) ∧ w.frozen? ⟨g, i * 2 + 1, none⟩ = false := by
  obtain ⟨g', cap', hv', _, c2, cf⟩ := L.piece hp
  rw [hv] at hv'
  cases hv'
  exact ⟨by rw [← hA, L.c2, hv], c2, cf _⟩
theorem alloc_full (L : Lies X w s k) (I : Inv s) {n : Nat} (h1 : 1 ≤ n) (h2 : n ≤ 65536) (h : allocS s n = none) :
    Calls Try.prog 28 #[X.p, .int .i64 n] w fun e w' => e = two (0, 7) ∧ Below w.heap.size w w' := by
  have hcl := cls_le h1 h2
  have hc := class_any n w
  rw [Int.toNat_natCast] at hc
  unfold allocS at h
  split at h
  · cases h
  · rename_i hnone
    split at h
    · cases h
    · rename_i hroom
      have hag := again_none L (c := clsN n) hcl.2 (by simpa using hnone)
      have hct := cut_none L I hroom
      have hz : ((clsN n : Int) == 0) = false := by simp; omega
      generalize clsN n = c at *
      clear L I hnone hroom hcl h
      go_enter Try.func28, Try.ntmps28
      go_wp2_with fail
      refine hc.mono ?_
      rintro e w1 ⟨rfl, rfl⟩
      go_wp2_with fail
      refine hag.mono ?_
      rintro e w1 ⟨rfl, rfl⟩
      go_wp2_with fail
      refine hct.mono ?_
      rintro e w1 ⟨rfl, hb⟩
      go_wp2
      go_ret2
      exact ⟨rfl, hb⟩
set_option maxHeartbeats 1000000 in
theorem alloc_again (L : Lies X w s k) (I : Inv s) {n y : Nat} (h1 : 1 ≤ n) (h2 : n ≤ 65536) (hlast : (s.bk (clsN n)).getLast? = some (y + 1)) (hk : k < 1000000000) :
    Calls Try.prog 28 #[X.p, .int .i64 n] w fun e w' => e = two ((y : Int) + 1, 0) ∧ ∃ X', Lies X' w' (markS (popS s (clsN n)) (y + 1) n) (k + 1) ∧ Step X X' w w' := by
  have hcl := cls_le h1 h2
  have hc := class_any n w
  rw [Int.toNat_natCast] at hc
  have hag := again_some L (c := clsN n) (x := y + 1) (l := (s.bk (clsN n)).dropLast) hcl.2 (getLast_split hlast) hk
  rw [show (((y + 1 : Nat)) : Int) = (y : Int) + 1 from by omega] at hag
  have hz : ((clsN n : Int) == 0) = false := by simp; omega
  have I2 : Inv0 (popS s (clsN n)) := ⟨I.row, I.fits, I.small⟩
  obtain ⟨i, p, hp, e1, e2, e3⟩ : ∃ (i : Nat) (p : Pc), (popS s (clsN n)).ps[i]? = some p ∧ p.a = y + 1 ∧ p.c = clsN n ∧ p.n = 0 := I.back _ _ (by rw [getLast_split hlast]; simp)
  have HR := hide (show s = s from rfl)
  generalize popS s (clsN n) = s2 at *
  generalize clsN n = c at *
  clear L I HR hlast
  go_enter Try.func28, Try.ntmps28
  go_wp2_with fail
  refine hc.mono ?_
  rintro e w1 ⟨rfl, rfl⟩
  go_wp2_with fail
  refine hag.mono ?_
  rintro e w2 ⟨rfl, X2, L2, S2⟩
  clear hc hag
  have hlt := I2.row.at hp
  have hcn : cnt s2.ps ((y : Int) + 1) = i + 1 := I2.row.cnt_at hp (by omega) (by omega)
  have hl := last_any ((y : Int) + 1) w2.drew L2.drew I2
  rw [hcn, show (((i + 1 : Nat) : Int) - 1) = (i : Int) from by omega] at hl
  obtain ⟨g, cap, hv, c1, c2, cf⟩ := L2.piece hp
  have c3 := L2.c2
  rw [hv, S2.A] at c3
  rw [show X2.p = X.p by simp [Wh.p, S2.A]] at hl
  have hi := get_lt hp
  have hlen := I2.pieces
  have HK := hide (show markS s2 (y + 1) n = { s2 with ps := mark s2.ps i n, ws := clr s2.ws y n } by
    unfold markS
    rw [show (((y + 1 : Nat)) : Int) = (y : Int) + 1 from by omega, hcn]; rfl)
  have LH := hide L2
  have SH := hide S2
  have HV := hide hv
  have HI := hide I2
  clear L2 S2 hv I2 hcn
  generalize hm : s2.ps.length = m at *
  have HM := hide hm
  clear hm
  have bi : (i : Int) < (m : Int) := by omega
  have hp' := hide hp
  have hlt' := hide hlt
  clear hp hlt
  go_wp2
  go_region_with (go_at_call 51; refine hl.mono ?_; rintro e w3 ⟨rfl, hb3⟩; obtain ⟨c3', c2', cf'⟩ : w3.cell? ⟨X.A, 2, none⟩ = some (.slice (some ⟨g, 0, none⟩) m cap) ∧ w3.cell? ⟨g, i * 2 + 1, none⟩ = some (.int .i64 p.n) ∧ w3.frozen? ⟨g, i * 2 + 1, none⟩ = false := after_last (LH.out.drew.below hb3) SH.out.A hp'.out HV.out HM.out)
  all_goals
    have L4 := (LH.out.drew.below hb3).mark n hp'.out (by rw [HM.out]; exact HV.out)
    have S4 := hide ((SH.out.trans (Step.of_below (w := w2) (X := X2) (w' := w3) ⟨hb3.os, hb3.tape, hb3.output, hb3.size, hb3.block⟩)).trans (Step.mark (o := i * 2 + 1) (v := .int .i64 n) (by rw [HV.out]; rfl)))
    have LK := hide (L4.clear (o := y) (n := n) (by have := HI.out.fits; have := hlt'.out; simp only; omega))
    have c0 := L4.c0
    rw [SH.out.A] at c0
    have hcl : ∀ ty, (Builtin.clear_ #[31] ty #[.slice (some ⟨X2.bw, y, none⟩) n (s2.ws.length - y)]).run Try.prog (w3.setCell ⟨g, i * 2 + 1, none⟩ (.int .i64 n)) = .ok (.tuple #[]) ((w3.setCell ⟨g, i * 2 + 1, none⟩ (.int .i64 n)).setCells X2.bw y (List.replicate n (.int .i64 0))) := fun ty =>
      Lib.run_clear_slice _ 31 3 ty (.int .i64 0) Try.underlying31 Try.zeroValue3 rfl rfl X2.bw y n _ (by omega) (fun j hj => by
        have h5 : ∃ u, s2.ws[y + j]? = some u := by have := HI.out.fits; have := hlt'.out; exact ⟨s2.ws[y + j]'(by omega), by simp⟩
        obtain ⟨u, hu⟩ := h5
        rw [L4.wcell hu]; rfl) (fun j hj => L4.wfz _)
    clear L4 hl hb3
    have hb5 := HI.out.fits
    have hb6 := HI.out.small
    have hb7 := hlt'.out
    generalize s2.ws.length = l at *
    have b1 : (y : Int) + n ≤ (l : Int) := by omega
    have b2 : (l : Int) ≤ 65536 := by omega
    clear hb5 hb6 hb7
    go_wp2_with (simp only [hcl])
    go_ret2
    refine ⟨rfl, X2, ?_, S4.out.trans Step.clear⟩
    rw [HK.out]
    exact LK.out
set_option maxHeartbeats 1000000 in
theorem alloc_cut (L : Lies X w s k) (I : Inv s) {n y : Nat} (h1 : 1 ≤ n) (h2 : n ≤ 65536) (hnone : (s.bk (clsN n)).getLast? = none) (hroom : clsN n ≤ s.ws.length - s.gv) (hy : s.gv = y) :
    Calls Try.prog 28 #[X.p, .int .i64 n] w fun e w' => e = two ((y : Int) + 1, 0) ∧ ∃ X', Lies X' w' (markS (pushS s (clsN n)) (y + 1) n) (k + 1) ∧ Step X X' w w' := by
  have hcl := cls_le h1 h2
  have hc := class_any n w
  rw [Int.toNat_natCast] at hc
  have hag := again_none L (c := clsN n) hcl.2 (by simpa using hnone)
  have hct := cut_some L I (c := clsN n) (by omega) hroom
  rw [hy, show (((y + 1 : Nat)) : Int) = (y : Int) + 1 from by omega] at hct
  have hz : ((clsN n : Int) == 0) = false := by simp; omega
  have hfit := I.fits
  have I2 : Inv0 (pushS s (clsN n)) := ⟨by
    have := I.row.snoc (p := ⟨s.gv + 1, clsN n, 0⟩) rfl (by show 1 ≤ clsN n; omega) (Nat.zero_le _) (.inl rfl)
    show Row 1 (s.ps ++ [⟨s.gv + 1, clsN n, 0⟩]) (s.gv + clsN n + 1)
    rw [show s.gv + clsN n + 1 = s.gv + 1 + clsN n from by omega]; exact this, by show s.gv + clsN n ≤ s.ws.length; omega, I.small⟩
  obtain ⟨i, p, hp, e1, e2, e3⟩ : ∃ (i : Nat) (p : Pc), (pushS s (clsN n)).ps[i]? = some p ∧ p.a = y + 1 ∧ p.c = clsN n ∧ p.n = 0 := ⟨s.ps.length, ⟨s.gv + 1, clsN n, 0⟩, by simp [pushS], by rw [hy], rfl, rfl⟩
  have HR := hide (show s = s from rfl)
  generalize pushS s (clsN n) = s2 at *
  generalize clsN n = c at *
  clear L I HR hnone hroom hfit hy
  go_enter Try.func28, Try.ntmps28
  go_wp2_with fail
  refine hc.mono ?_
  rintro e w1 ⟨rfl, rfl⟩
  go_wp2_with fail
  refine hag.mono ?_
  rintro e w1 ⟨rfl, rfl⟩
  go_wp2_with fail
  refine hct.mono ?_
  rintro e w2 ⟨rfl, X2, L2', S2⟩
  have L2 := L2'.mono (Nat.le_succ k)
  clear hc hag hct L2'
  have hlt := I2.row.at hp
  have hcn : cnt s2.ps ((y : Int) + 1) = i + 1 := I2.row.cnt_at hp (by omega) (by omega)
  have hl := last_any ((y : Int) + 1) w2.drew L2.drew I2
  rw [hcn, show (((i + 1 : Nat) : Int) - 1) = (i : Int) from by omega] at hl
  obtain ⟨g, cap, hv, c1, c2, cf⟩ := L2.piece hp
  have c3 := L2.c2
  rw [hv, S2.A] at c3
  rw [show X2.p = X.p by simp [Wh.p, S2.A]] at hl
  have hi := get_lt hp
  have hlen := I2.pieces
  have HK := hide (show markS s2 (y + 1) n = { s2 with ps := mark s2.ps i n, ws := clr s2.ws y n } by
    unfold markS
    rw [show (((y + 1 : Nat)) : Int) = (y : Int) + 1 from by omega, hcn]; rfl)
  have LH := hide L2
  have SH := hide S2
  have HV := hide hv
  have HI := hide I2
  clear L2 S2 hv I2 hcn
  generalize hm : s2.ps.length = m at *
  have HM := hide hm
  clear hm
  have bi : (i : Int) < (m : Int) := by omega
  have hp' := hide hp
  have hlt' := hide hlt
  clear hp hlt
  go_wp2
  go_region_with (go_at_call 51; refine hl.mono ?_; rintro e w3 ⟨rfl, hb3⟩; obtain ⟨c3', c2', cf'⟩ : w3.cell? ⟨X.A, 2, none⟩ = some (.slice (some ⟨g, 0, none⟩) m cap) ∧ w3.cell? ⟨g, i * 2 + 1, none⟩ = some (.int .i64 p.n) ∧ w3.frozen? ⟨g, i * 2 + 1, none⟩ = false := after_last (LH.out.drew.below hb3) SH.out.A hp'.out HV.out HM.out)
  all_goals
    have L4 := (LH.out.drew.below hb3).mark n hp'.out (by rw [HM.out]; exact HV.out)
    have S4 := hide ((SH.out.trans (Step.of_below (w := w2) (X := X2) (w' := w3) ⟨hb3.os, hb3.tape, hb3.output, hb3.size, hb3.block⟩)).trans (Step.mark (o := i * 2 + 1) (v := .int .i64 n) (by rw [HV.out]; rfl)))
    have LK := hide (L4.clear (o := y) (n := n) (by have := HI.out.fits; have := hlt'.out; simp only; omega))
    have c0 := L4.c0
    rw [SH.out.A] at c0
    have hcl : ∀ ty, (Builtin.clear_ #[31] ty #[.slice (some ⟨X2.bw, y, none⟩) n (s2.ws.length - y)]).run Try.prog (w3.setCell ⟨g, i * 2 + 1, none⟩ (.int .i64 n)) = .ok (.tuple #[]) ((w3.setCell ⟨g, i * 2 + 1, none⟩ (.int .i64 n)).setCells X2.bw y (List.replicate n (.int .i64 0))) := fun ty =>
      Lib.run_clear_slice _ 31 3 ty (.int .i64 0) Try.underlying31 Try.zeroValue3 rfl rfl X2.bw y n _ (by omega) (fun j hj => by
        have h5 : ∃ u, s2.ws[y + j]? = some u := by have := HI.out.fits; have := hlt'.out; exact ⟨s2.ws[y + j]'(by omega), by simp⟩
        obtain ⟨u, hu⟩ := h5
        rw [L4.wcell hu]; rfl) (fun j hj => L4.wfz _)
    clear L4 hl hb3
    have hb5 := HI.out.fits
    have hb6 := HI.out.small
    have hb7 := hlt'.out
    generalize s2.ws.length = l at *
    have b1 : (y : Int) + n ≤ (l : Int) := by omega
    have b2 : (l : Int) ≤ 65536 := by omega
    clear hb5 hb6 hb7
    go_wp2_with (simp only [hcl])
    go_ret2
    refine ⟨rfl, X2, ?_, S4.out.trans Step.clear⟩
    rw [HK.out]
    exact LK.out
/-- Alloc of any number: what it answers, and the arena behind it. -/
theorem alloc_any (L : Lies X w s k) (I : Inv s) (n : Int) (hk : k < 1000000000) :
    Calls Try.prog 28 #[X.p, .int .i64 n] w fun e w' => ∃ X', Step X X' w w' ∧
      ((clsN n.toNat = 0 ∧ e = two (0, 1) ∧ Lies X' w' s (k + 1)) ∨ (clsN n.toNat ≠ 0 ∧ allocS s n.toNat = none ∧ e = two (0, 7) ∧ Lies X' w' s (k + 1)) ∨
        ∃ x s', clsN n.toNat ≠ 0 ∧ allocS s n.toNat = some (x, s') ∧ e = two ((x : Nat), 0) ∧ Lies X' w' s' (k + 1)) := by
  by_cases h0 : clsN n.toNat = 0
  · refine (alloc_arg X.p n w ⟨⟨_, rfl⟩, .inr h0⟩).mono ?_
    rintro e w' ⟨rfl, rfl⟩
    exact ⟨X, Step.refl _ _, .inl ⟨h0, rfl, L.mono (Nat.le_succ k)⟩⟩
  · obtain ⟨h1, h2⟩ := cls_pos h0
    obtain ⟨m, rfl⟩ := Int.eq_ofNat_of_zero_le (show 0 ≤ n by omega)
    rw [Int.toNat_natCast] at *
    cases ha : allocS s m with
    | none =>
      refine (alloc_full L I h1 h2 ha).mono ?_
      rintro e w' ⟨rfl, hb⟩
      exact ⟨X, Step.of_below hb, .inr (.inl ⟨h0, rfl, rfl, (L.below hb).mono (Nat.le_succ k)⟩)⟩
    | some r =>
      obtain ⟨x, s'⟩ := r
      have hg := alloc_given I h1 h2 ha
      obtain ⟨y, rfl⟩ : ∃ y, x = y + 1 := ⟨x - 1, by have := hg.within; omega⟩
      have ha' := ha
      unfold allocS at ha'
      split at ha'
      · rename_i z hz
        cases ha'
        refine (alloc_again L I h1 h2 hz hk).mono ?_
        rintro e w' ⟨rfl, X', hL, hS⟩
        exact ⟨X', hS, .inr (.inr ⟨y + 1, _, h0, rfl, by simp [two], hL⟩)⟩
      · rename_i hz
        split at ha'
        · rename_i hr
          cases ha'
          refine (alloc_cut L I h1 h2 hz hr rfl).mono ?_
          rintro e w' ⟨rfl, X', hL, hS⟩
          exact ⟨X', hS, .inr (.inr ⟨s.gv + 1, _, h0, rfl, by simp [two], hL⟩)⟩
        · cases ha'
end
end Go.Proofs.Ytimpmgbahgganaa
