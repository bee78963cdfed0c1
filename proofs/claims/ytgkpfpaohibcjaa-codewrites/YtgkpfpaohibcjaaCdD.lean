/- The writer: text. -/
import Derived.Test.YtgkpfpaohibcjaaCdC
namespace Go.Proofs.Ytgkpfpaohibcjaa
open Go.RowKit
section
variable {X : Wx} {w w' : World} {out : By}
theorem Wl.cellB (L : Wl X w out) {X' : Wx} (S : Stp X X' w w') {q : Addr} (h : q.block < X.B) : w'.cell? q = w.cell? q :=
  World.cell?_of_block (S.block q.block (Nat.lt_of_lt_of_le h L.hB) (fun hy => by have := (L.own_lt hy).1; omega))
set_option maxHeartbeats 1000000 in
theorem text_any (L : Wl X w out) {q : Addr} {s : By} (hq : w.cell? q = some (.string ⟨s.toArray⟩)) (hB : q.block < X.B) (hs : s.length ≤ 1024) (hm : out.length ≤ 6000000) :
    Calls Try.prog 63 #[X.p, .pointer (some q)] w fun e w' => e = .returned (.tuple #[]) ∧ ∃ X', Wl X' w' (strW out s) ∧ Stp X X' w w' := by
  have HN := hide (count_any L (n := (s.length : Int)) (by omega) (by omega) (by omega))
  have hsz : (⟨s.toArray⟩ : ByteArray).size = s.length := by simp [ByteArray.size]
  have HW := hide (show strW out s = numW out s.length ++ s from rfl)
  have HL0 := hide L
  have hnl : (numW out s.length).length ≤ out.length + 10 ∧ out.length + 1 ≤ (numW out s.length).length := by
    have := numE_length s.length
    have := numE_pos s.length
    simp only [numW, List.length_append]; omega
  have HM := hide hm
  have HNL := hide hnl
  have HSS := hide hs
  have HBB := hide hB
  clear L hm hnl hs hB
  go_enter Try.func63, Try.ntmps63
  go_wp2_with fail
  refine HN.out.mono ?_
  rintro e w1 ⟨rfl, X', LX, SX⟩
  have hA := SX.A
  have hq1 : w1.cell? q = some (.string ⟨s.toArray⟩) := by rw [HL0.out.cellB SX HBB.out]; exact hq
  have c0 := LX.c0
  obtain ⟨sa, sc, hv⟩ := row_form LX.row
  obtain ⟨g, cap, w2, hrun, kq, k0, k1, k2, LZ, SZ⟩ := LX.drew.apps s (by have := HNL.out; omega) (by have := HNL.out; have := HM.out; have := HSS.out; omega) 28
  rw [hA, hv] at c0 k0
  rw [hA] at k1 k2
  rw [hv] at hrun
  have HS := hide (SX.trans ((Stp.of_below (below_drew (Below.refl _ _))).trans SZ))
  have HZ := hide LZ
  have hq2 : w2.cell? q = some (.string ⟨s.toArray⟩) := by rw [World.cell?_of_block (kq q.block (by rw [SX.B]; exact HBB.out))]; exact hq1
  have HR := hide hrun
  have HA := hide hA
  have HV := hide hv
  clear LX SX HN hA hv hq LZ SZ hrun kq
  generalize hol : numW out s.length = o2 at *
  have HOL := hide hol
  clear hol
  go_wp2_with fail
  go_region_law (refine step_append_eq (by rfl) _ _ 28 9 (by rfl) (by rfl) (by rfl) HR.out ?_)
  all_goals go_wp2
  all_goals go_returns
  all_goals refine ⟨rfl, _, ?_, by rw [← HA.out]; exact HS.out⟩
  all_goals rw [HW.out, ← HA.out]
  all_goals exact HZ.out
end
end Go.Proofs.Ytgkpfpaohibcjaa
