/- A list of maps of one's own whose truths are rows of one's own; the document's Bits as a row; Same. -/
import Derived.Test.YtkdojpnihinpbaaGreatDoorMpQJo
namespace Go.Proofs.YtkdojpnihinpbaaGreatDoor
open Go.RowKit
/-- A list of maps of one's own, with rows of one's own. -/
structure OwN (D : Nat) (W : World) (lo : List Int) (v : Value) (ms : List (Nat × List Int)) (css : List (List Value)) : Prop where
  row : W.ownsRow D 51 3 v ms.length css.flatten
  len : css.length = ms.length
  is : ∀ (j : Nat) (m : Nat × List Int), ms[j]? = some m → ∃ g1 g2, css[j]? = some [.int .i64 (m.1 : Int), g1, g2] ∧ W.ownsRow 0 4 1 g1 lo.length (bvM (nzs lo)) ∧ W.ownsRow 0 4 1 g2 m.2.length (bvM (nzs m.2))
section
variable {D : Nat} {W W' : World} {lo : List Int} {v : Value} {ms : List (Nat × List Int)} {css : List (List Value)}
theorem OwN.three (O : OwN D W lo v ms css) : ∀ c ∈ css, c.length = 3 := fun c hc => by
  obtain ⟨j, hj, rfl⟩ := List.mem_iff_getElem.mp hc
  have hm : ms[j]? = some (ms[j]'(by rw [← O.len]; exact hj)) := List.getElem?_eq_getElem _
  obtain ⟨g1, g2, h1, _⟩ := O.is j _ hm
  rw [List.getElem?_eq_getElem hj] at h1
  rw [Option.some.inj h1]
  rfl
theorem own_keepN {T : TypeId} {B k n : Nat} {u : Value} {xs : List Value} (h : W.ownsRow B T k u n xs) (hb : Below W.heap.size W W') : W'.ownsRow B T k u n xs := ownsRow_keep h (fun q hq => hb.block q (ownB_lt h hq))
theorem own_low {T : TypeId} {B k n : Nat} {u : Value} {xs : List Value} (h : W.ownsRow B T k u n xs) : W.ownsRow 0 T k u n xs := by
  refine ⟨h.1, ?_⟩
  rcases h.2 with h0 | ⟨g, cap, cur, h1, _, h2⟩
  · exact .inl h0
  · exact .inr ⟨g, cap, cur, h1, Nat.zero_le _, h2⟩
theorem OwN.below (O : OwN D W lo v ms css) (h : Below W.heap.size W W') : OwN D W' lo v ms css :=
  ⟨own_keepN O.row h, O.len, fun j m hj => by
    obtain ⟨g1, g2, h1, h2, h3⟩ := O.is j m hj
    exact ⟨g1, g2, h1, own_keepN h2 h, own_keepN h3 h⟩⟩
theorem OwN.lies (O : OwN D W lo v ms css) : MsAt W lo v ms := by
  rcases O.row.2 with ⟨rfl, h0⟩ | ⟨g, cap, cur, rfl, h1, h2, h3, h4, h5, h6⟩
  · have := List.eq_nil_of_length_eq_zero h0
    subst this
    exact ⟨none, 0, rfl, fun j m hj => by simp at hj⟩
  · refine ⟨_, cap, rfl, fun j m hj => ?_⟩
    obtain ⟨g1, g2, e1, e2, e3⟩ := O.is j m hj
    have hc : ∀ (r : Nat) u, [.int .i64 (m.1 : Int), g1, g2][r]? = some u → W.cell? ⟨g, 0 + j * 3 + r, none⟩ = some u := by
      intro r u hr
      have h7 := (flatM O.three).2 j _ r u e1 hr
      rw [← h6, List.getElem?_take] at h7
      rw [Nat.zero_add]
      split at h7
      · rw [Array.getElem?_toList] at h7
        exact cell_of h2 h7
      · cases h7
    exact ⟨g, 0, _, _, rfl, lt_of_block h2, hc 0 _ rfl, hc 1 _ rfl, hc 2 _ rfl, BsAt.own e2 (by rw [nzs_len]), BsAt.own e3 (by rw [nzs_len])⟩
/-- One map more. -/
theorem OwN.push {b x : Nat} {g1 g2 : Value} {s : List Int} (O : OwN D W lo v ms css) (hD : D ≤ W.heap.size) (hm : ms.length < 1000000) (hb : W.heap[b]? = some (.cells #[.int .i64 (x : Int), g1, g2] 51 (0, 0))) (h1 : W.ownsRow 0 4 1 g1 lo.length (bvM (nzs lo))) (h2 : W.ownsRow 0 4 1 g2 s.length (bvM (nzs s))) :
    ∃ g cap W', (Builtin.append_ #[28, 28] 28 #[v, .slice (some ⟨b, 0, none⟩) 1 1]).run Tryz.prog W = .ok (.slice (some ⟨g, 0, none⟩) (ms.length + 1) cap) W' ∧ OwN D W' lo (.slice (some ⟨g, 0, none⟩) (ms.length + 1) cap) (ms ++ [(x, s)]) (css ++ [[.int .i64 (x : Int), g1, g2]]) ∧ Below D W W' := by
  obtain ⟨i0, hi, hz0, hz1, hz2⟩ := info_parts info_map
  have one : ∀ {n : Nat} {u : Value} {xs : List Value}, W.ownsRow 0 4 1 u n xs → u.oneCell' = true := fun {n u xs} h => by
    rcases h.2 with ⟨rfl, _⟩ | ⟨g, cap, cur, rfl, _⟩ <;> rfl
  obtain ⟨g, cap, W', hrun, hown, hgrow, _⟩ := run_append_lies (P := Tryz.prog) W 28 28 D 51 i0 _ 3 56 Tryz.underlying28 hi hz0 hz1 hz2 rfl (by decide) v ms.length _ O.row ⟨b, 0, none⟩ 1 1 [.int .i64 (x : Int), g1, g2] rfl (World.news_of_block hb)
    (by
      intro u hu
      simp at hu
      rcases hu with rfl | rfl | rfl
      · rfl
      · exact one h1
      · exact one h2) (by decide) (by unfold maxLen; omega) (by omega) hD _ rfl
  have hne : ∀ {n : Nat} {u : Value} {xs : List Value}, W.ownsRow 0 4 1 u n xs → W'.ownsRow 0 4 1 u n xs := fun {n u xs} hu => ownsRow_keep hu (fun q hq => hgrow.block q (ownB_lt hu hq) (fun h => by
    rcases O.row.2 with ⟨h', _⟩ | ⟨g', cap', cur, h', _, h3, _⟩
    · rw [h'] at h; cases h
    · rw [h'] at h
      cases h
      rcases hu.2 with ⟨h', _⟩ | ⟨g'', cap'', cur', h', _, h4, _⟩
      · rw [h'] at hq; cases hq
      · rw [h'] at hq
        cases hq
        rw [h4] at h3
        simp at h3))
  refine ⟨g, cap, W', hrun, ⟨?_, by simp [O.len], fun j m hj => ?_⟩, grown_bel O.row hgrow hD⟩
  · rw [List.flatten_append, List.length_append, List.length_singleton]
    simpa using hown
  · rcases Nat.lt_or_ge j ms.length with hlt | hge
    · rw [List.getElem?_append_left hlt] at hj
      obtain ⟨q1, q2, e1, e2, e3⟩ := O.is j m hj
      exact ⟨q1, q2, by rw [List.getElem?_append_left (by rw [O.len]; exact hlt)]; exact e1, hne e2, hne e3⟩
    · rw [List.getElem?_append_right hge] at hj
      have h0 : j - ms.length = 0 := by have := get_lt hj; simp at this; omega
      rw [h0] at hj
      cases hj
      exact ⟨g1, g2, by rw [List.getElem?_append_right (by rw [O.len]; exact hge), O.len, h0]; rfl, hne h1, hne h2⟩
end
section
variable {w : World} {ks : List Int}
def BiR (ks : List Int) (w : World) (a i : Value) (wr : World) : Prop := ∃ (j m : Nat) (ao : Option Addr) (cap : Nat), i = .int .i64 j ∧ j ≤ ks.length ∧ a = .slice ao m cap ∧ m = j ∧ wr.ownsRow w.heap.size 4 1 a m (bvM (nzs (ks.take j))) ∧ Below w.heap.size w wr
set_option maxRecDepth 100000 in
set_option maxHeartbeats 1000000 in
theorem bits_row {v : Value} (R : IsAt (fun _ => False) w v ks) (hl : ks.length ≤ 300000000) : Calls Tryz.prog 15 #[v] w fun e W => ∃ u, e = .returned u ∧ W.ownsRow w.heap.size 4 1 u ks.length (bvM (nzs ks)) ∧ Below w.heap.size w W := by
  obtain ⟨ao, cap, rfl, _, _, hel⟩ := R
  have HEL := hide (show ∀ W : World, Below w.heap.size w W → ∀ (j : Nat) (k : Int), ks[j]? = some k → ∃ g o, ao = some ⟨g, o, none⟩ ∧ g < W.heap.size ∧ W.cell? ⟨g, o + j, none⟩ = some (.int .i64 k) from fun W h j k hk => by
    obtain ⟨g, o, h1, h2, _, h4⟩ := hel j k hk
    exact ⟨g, o, h1, Nat.lt_of_lt_of_le h2 h.size, (h.cell (p := ⟨g, o + j, none⟩) h2).trans h4⟩)
  have HL := hide hl
  obtain ⟨W0, hW0⟩ : ∃ W0, w.alloc (.cells #[] 4) = W0 := ⟨_, rfl⟩
  have S0 := hide (show BiR ks w (.slice (some ⟨w.heap.size, 0, none⟩) 0 0) (.int .i64 0) W0 from by
    rw [← hW0]
    refine ⟨0, 0, _, _, rfl, Nat.zero_le _, rfl, rfl, ⟨by simp [nzs], .inr ⟨w.heap.size, 0, #[], rfl, Nat.le_refl _, heap_new _ _ rfl, Nat.le_refl _, by unfold maxLen; omega, rfl, rfl⟩⟩, (Below.refl _ _).alloc (Nat.le_refl _) _⟩)
  clear hel hl
  obtain ⟨n, hn⟩ : ∃ n, ks.length = n := ⟨_, rfl⟩
  have HN := hide hn
  rw [hn]
  clear hn
  go_enter Tryz.func15, Tryz.ntmps15
  go_wp2
  go_loopw [3, 4] (fun a i wr => BiR ks w a i wr) (fun _ i _ => n - (intOf i).toNat)
  case atStart => exact S0.out
  case round =>
    obtain ⟨j, m, ao2, cap2, rfl, hj, rfl, hm, hown, hb⟩ := hrel
    rw [HN.out] at hj
    have hnb : n ≤ 300000000 := by have := HL.out; rwa [HN.out] at this
    have HB := hide hb
    have HO := hide hown
    clear S0 hb hown
    by_cases hlt : j < n
    · obtain ⟨x, hx⟩ : ∃ x, ks[j]? = some x := ⟨ks[j]'(by rw [HN.out]; exact hlt), by simp⟩
      obtain ⟨g, o, rfl, hg, hc⟩ := HEL.out wr HB.out j x hx
      obtain ⟨V1, hV1⟩ : ∃ V1, wr.alloc (.cells #[.bool (x != 0)] 4) = V1 := ⟨_, rfl⟩
      have b1 : Below wr.heap.size wr V1 := by rw [← hV1]; exact (Below.refl _ _).alloc (Nat.le_refl _) _
      have hown1 := ownsRow_keep HO.out (w' := V1) (fun q hq => b1.block q (by
        rcases HO.out.2 with ⟨h, _⟩ | ⟨g', cap', cur, h, _, h2, _⟩
        · rw [h] at hq; cases hq
        · rw [h] at hq; cases hq; exact lt_of_block h2))
      obtain ⟨g4, cap4, V3, hrun, hown3, hgrow⟩ := run_appB (b := wr.heap.size) (x := x != 0) hown1 (by rw [← hV1]; exact heap_new _ _ rfl) (by omega) (Nat.le_trans HB.out.size b1.size)
      have HR := hide (show BiR ks w (.slice (some ⟨g4, 0, none⟩) (m + 1) cap4) (.int .i64 ((j + 1 : Nat) : Int)) V3 from ⟨j + 1, m + 1, _, _, rfl, by rw [HN.out]; exact hlt, rfl, by rw [hm], by
        have h : nzs (ks.take (j + 1)) = nzs (ks.take j) ++ [x != 0] := by
          unfold nzs
          rw [List.take_add_one, hx, List.map_append]
          rfl
        rw [h]
        simpa [bvM] using hown3, (HB.out.trans (b1.mono HB.out.size)).trans (grown_bel hown1 hgrow (Nat.le_trans HB.out.size b1.size))⟩)
      have d1 : decide (j < n) = true := by simpa using hlt
      have d2 : (j : Int) ≤ 300000000 := by omega
      have d3 : (m : Int) ≤ 300000000 := by omega
      clear hx hown1 hown3 hgrow hm b1
      go_wp2_with (at_builtin; refine wpList_append_eq rfl _ _ 47 47 rfl rfl rfl hrun ?_; clear hrun)
      go_roundw
      case rel => exact HR.out
      case measure => first | exact meas_int hlt (by omega) | (rw [intOf_int, intOf_int]; omega)
    · obtain rfl : n = j := by omega
      have HE := hide (show wr.ownsRow w.heap.size 4 1 (.slice ao2 m cap2) n (bvM (nzs ks)) from by
        have h := HO.out
        rw [List.take_of_length_le (Nat.le_of_eq HN.out), hm] at h
        rw [hm]
        exact h)
      have d1 : decide (n < n) = false := by simp
      go_wp2
      go_ret
      exact ⟨_, rfl, HE.out, HB.out⟩
end
def SmL (n : Nat) (w : World) (a : Value) (wr : World) : Prop := ∃ j : Nat, a = .int .i64 (j : Int) ∧ j ≤ n ∧ Below w.heap.size w wr
end Go.Proofs.YtkdojpnihinpbaaGreatDoor
