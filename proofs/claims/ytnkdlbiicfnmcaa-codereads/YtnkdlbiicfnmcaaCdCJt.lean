/- The writer: count, fixed, text. -/
import Derived.Test.YtnkdlbiicfnmcaaCdAJt
namespace Go.Proofs.Ytnkdlbiicfnmcaa
open Go.RowKit
section
variable {X : Wx} {w w' : World} {out : By}
theorem own_str {base : Nat} {v : Value} {m : Nat} {xs : List Value} (hown : w.ownsRow base 5 1 v m xs) (s : ByteArray) (h0 : 0 < m + s.size) (hm : m + s.size ≤ 8388608) (hB : base ≤ w.heap.size) (ty : TypeId) :
    ∃ g cap w', (Builtin.append_ #[28, 9] ty #[v, .string s]).run Try.prog w = .ok (.slice (some ⟨g, 0, none⟩) (m + s.size) cap) w' ∧
      w'.ownsRow base 5 1 (.slice (some ⟨g, 0, none⟩) (m + s.size) cap) (m + s.size) (xs ++ Lib.strCells s) ∧ w.grownBy w' v.ownBlock ∧ (v.ownBlock = some g ∨ g = w.heap.size) := by
  have hinf := Try.info5
  cases hi : Try.prog.info? 5 with
  | none => rw [hi] at hinf; cases hinf
  | some i0 =>
    rw [hi] at hinf
    simp only [Option.map_some, Option.some.injEq, Prod.mk.injEq] at hinf
    obtain ⟨hz0, hz1, hz2⟩ := hinf
    obtain ⟨v', w', hr, h2, h3, h4⟩ := Lib.run_append_own_string (P := Try.prog) w base 28 9 ty 5 i0 Try.underlying28 Try.underlying9 hi hz0 hz1 hz2 v m xs hown s (by simp only [maxLen]; omega) (by omega) hB
    obtain ⟨g, cap, rfl, _, hlt⟩ := h2.form h0
    refine ⟨g, cap, w', hr, h2, h3, ?_⟩
    rcases hown.2 with ⟨rfl, rfl⟩ | ⟨g0, cap0, cur, rfl, hbg, hg, hnc, hcm, hcs, htake⟩
    · have hr2 := run_append_nil_string (P := Try.prog) w 28 9 ty 5 i0 (.int .u8 0) Try.underlying28 Try.underlying9 hi hz0 s (by omega) (by omega) (by rw [hz2]; omega)
      rw [hr] at hr2
      simp at hr2
      exact .inr hr2.1.1
    · by_cases hroom : m + s.size ≤ cap0
      · have hr2 := Lib.run_append_room_string (P := Try.prog) w 28 9 ty 5 i0 Try.underlying28 Try.underlying9 hi hz1 g0 m cap0 cur hg s hroom (by omega)
        rw [hr] at hr2
        simp at hr2
        exact .inl (by simp [Value.ownBlock, hr2.1.1])
      · have hr2 := Lib.run_append_grow_string (P := Try.prog) w 28 9 ty 5 i0 (.int .u8 0) Try.underlying28 Try.underlying9 hi hz0 ⟨g0, 0, none⟩ m cap0 xs (by rw [hz1]; exact hown.1) (hown.cells (g := g0) rfl) s (by omega) (by omega) (by rw [hz2]; exact growslice_fits (by omega) (by omega))
        rw [hr] at hr2
        simp at hr2
        exact .inr hr2.1.1
/-- A string's bytes more. -/
theorem Wl.apps (L : Wl X w out) (s : By) (h0 : 0 < out.length + s.length) (hm : out.length + s.length ≤ 8000000) (ty : TypeId) :
    ∃ g cap w2, (Builtin.append_ #[28, 9] ty #[X.v, .string ⟨s.toArray⟩]).run Try.prog w = .ok (.slice (some ⟨g, 0, none⟩) (out.length + s.length) cap) w2 ∧
      (∀ j, j < X.B → w2.heap[j]? = w.heap[j]?) ∧ w2.cell? ⟨X.A, 0, none⟩ = some X.v ∧ w2.frozen? ⟨X.A, 0, none⟩ = false ∧ X.A < w2.heap.size ∧
      Wl { X with v := .slice (some ⟨g, 0, none⟩) (out.length + s.length) cap } (w2.setCell ⟨X.A, 0, none⟩ (.slice (some ⟨g, 0, none⟩) (out.length + s.length) cap)) (out ++ s) ∧ Stp X { X with v := .slice (some ⟨g, 0, none⟩) (out.length + s.length) cap } w (w2.setCell ⟨X.A, 0, none⟩ (.slice (some ⟨g, 0, none⟩) (out.length + s.length) cap)) := by
  have hs : (⟨s.toArray⟩ : ByteArray).size = s.length := by simp [ByteArray.size]
  obtain ⟨g, cap, w2, hrun, hown, hgrow, hat⟩ := own_str L.row ⟨s.toArray⟩ (by rw [hs]; exact h0) (by rw [hs]; omega) L.hB ty
  rw [hs] at hrun hown
  have hnA : X.v.ownBlock ≠ some X.A := fun e => by
    rcases L.row.2 with ⟨h3, _⟩ | ⟨g, cap, cur, h3, _, h5, _⟩
    · rw [h3] at e; cases e
    · rw [h3] at e; cases e; have h6 := L.blk; rw [h5] at h6; simp at h6
  have hb : w2.heap[X.A]? = some (.cells #[X.v] 44 (0, 0)) := by rw [hgrow.block X.A L.lt (fun e => hnA e.symm)]; exact L.blk
  have hrow : w2.ownsRow X.B 5 1 (.slice (some ⟨g, 0, none⟩) (out.length + s.length) cap) (out ++ s).length (Lib.byteCells (out ++ s)) := by
    rw [List.length_append, Lib.byteCells, List.map_append]
    exact hown
  have hw := L.put hrow hgrow (hat.elim (fun h => .inl h.symm) (fun h => .inr fun q hq => by simp [Value.ownBlock] at hq; omega))
  exact ⟨g, cap, w2, hrun, fun j hj => hgrow.block j (Nat.lt_of_lt_of_le hj L.hB) (fun e => by have := (L.row.lt j e.symm).1; omega), by simp [World.cell?, hb], by simp [World.frozen?, hb], lt_of_block hb, hw.1, hw.2⟩
theorem count_any (L : Wl X w out) {n : Int} (h1 : -9223372036854775808 ≤ n) (h2 : n ≤ 9223372036854775807) (hm : out.length ≤ 7000000) :
    Calls Try.prog 60 #[X.p, .int .i64 n] w fun e w' => e = .returned (.int .i64 n) ∧ ∃ X', Wl X' w' (numW out n) ∧ Stp X X' w w' := by
  obtain ⟨W1, hW1⟩ : ∃ W1, w.alloc (.cells #[.int .i64 n] 3) = W1 := ⟨_, rfl⟩
  have hb : W1.heap[w.heap.size]? = some (.cells #[.int .i64 n] 3 (0, 0)) := by rw [← hW1]; exact heap_new _ _ rfl
  have S0 := hide (show Stp X X w W1 from hW1 ▸ Stp.of_below ((Below.refl _ _).alloc (Nat.le_refl _) _))
  have L1 := hide (show Wl X W1 out from hW1 ▸ L.alloc _)
  have HN := hide (number_any L1.out (q := ⟨w.heap.size, 0, none⟩) (cell_of hb rfl) h1 h2 hm)
  have HB := hide hb
  clear hb L hm
  go_enter Try.func60, Try.ntmps60
  go_wp2_with fail
  refine HN.out.mono ?_
  rintro e w1 ⟨rfl, X', LX, SX⟩
  have c0 : w1.cell? ⟨w.heap.size, 0, none⟩ = some (.int .i64 n) := cell_of (SX.box L1.out HB.out (by decide) (by decide)) rfl
  have HS := hide (S0.out.trans SX)
  have HL := hide LX
  clear SX LX HN
  go_wp2
  go_ret
  exact ⟨rfl, X', HL.out, HS.out⟩
theorem fixed_any (L : Wl X w out) (s : By) (h0 : 0 < out.length + s.length) (hm : out.length + s.length ≤ 8000000) :
    Calls Try.prog 61 #[X.p, .string ⟨s.toArray⟩] w fun e w' => e = .returned (.tuple #[]) ∧ ∃ X', Wl X' w' (out ++ s) ∧ Stp X X' w w' := by
  obtain ⟨g, cap, w2, hrun, _, k0, k1, k2, LZ, SZ⟩ := L.apps s h0 hm 28
  have c0 := L.c0
  obtain ⟨sa, sc, hv⟩ := row_form L.row
  rw [hv] at c0 hrun k0
  have HL := hide LZ
  have HS := hide SZ
  have HR := hide hrun
  clear LZ SZ L hv hrun
  go_enter Try.func61, Try.ntmps61
  go_wp2_with (at_builtin; refine wpList_append_eq rfl _ _ 28 9 rfl rfl rfl HR.out ?_)
  go_wp2
  go_returns
  exact ⟨rfl, _, HL.out, HS.out⟩
end
end Go.Proofs.Ytnkdlbiicfnmcaa

namespace Go.Proofs.Ytnkdlbiicfnmcaa
open Go.RowKit
section
variable {X : Wx} {w w' : World} {out : By}
theorem Wl.cellB (L : Wl X w out) {X' : Wx} (S : Stp X X' w w') {q : Addr} (h : q.block < X.B) : w'.cell? q = w.cell? q :=
  World.cell?_of_block (S.block q.block (Nat.lt_of_lt_of_le h L.hB) (fun hy => by have := (L.own_lt hy).1; omega))
set_option maxHeartbeats 1000000 in
theorem text_any (L : Wl X w out) {q : Addr} {s : By} (hq : w.cell? q = some (.string ⟨s.toArray⟩)) (hB : q.block < X.B) (hs : s.length ≤ 1024) (hm : out.length ≤ 6000000) :
    Calls Try.prog 63 #[X.p, .pointer (some q)] w fun e w' => e = .returned (.tuple #[]) ∧ ∃ X', Wl X' w' (strW out s) ∧ Stp X X' w w' := by
  have HN := hide (count_any L (n := (s.length : Int)) (by omega) (by omega) (by omega))
  have hsz : (⟨s.toArray⟩ : ByteArray).size = s.length := by simp [ByteArray.size]
  have HW := hide (show strW out s = numW out s.length ++ s from rfl)
  have HL0 := hide L
  have hnl : (numW out s.length).length ≤ out.length + 10 ∧ out.length + 1 ≤ (numW out s.length).length := by
    have := numE_length s.length
    have := numE_pos s.length
    simp only [numW, List.length_append]; omega
  have HM := hide hm
  have HNL := hide hnl
  have HSS := hide hs
  have HBB := hide hB
  clear L hm hnl hs hB
  go_enter Try.func63, Try.ntmps63
  go_wp2_with fail
  refine HN.out.mono ?_
  rintro e w1 ⟨rfl, X', LX, SX⟩
  have hA := SX.A
  have hq1 : w1.cell? q = some (.string ⟨s.toArray⟩) := by rw [HL0.out.cellB SX HBB.out]; exact hq
  have c0 := LX.c0
  obtain ⟨sa, sc, hv⟩ := row_form LX.row
  obtain ⟨g, cap, w2, hrun, kq, k0, k1, k2, LZ, SZ⟩ := LX.drew.apps s (by have := HNL.out; omega) (by have := HNL.out; have := HM.out; have := HSS.out; omega) 28
  rw [hA, hv] at c0 k0
  rw [hA] at k1 k2
  rw [hv] at hrun
  have HS := hide (SX.trans ((Stp.of_below (below_drew (Below.refl _ _))).trans SZ))
  have HZ := hide LZ
  have hq2 : w2.cell? q = some (.string ⟨s.toArray⟩) := by rw [World.cell?_of_block (kq q.block (by rw [SX.B]; exact HBB.out))]; exact hq1
  have HR := hide hrun
  have HA := hide hA
  have HV := hide hv
  clear LX SX HN hA hv hq LZ SZ hrun kq
  generalize hol : numW out s.length = o2 at *
  have HOL := hide hol
  clear hol
  go_wp2_with fail
  go_region_law (refine step_append_eq (by rfl) _ _ 28 9 (by rfl) (by rfl) (by rfl) HR.out ?_)
  all_goals go_wp2
  all_goals go_returns
  all_goals refine ⟨rfl, _, ?_, by rw [← HA.out]; exact HS.out⟩
  all_goals rw [HW.out, ← HA.out]
  all_goals exact HZ.out
end
end Go.Proofs.Ytnkdlbiicfnmcaa
