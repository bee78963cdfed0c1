/- The document's Push of a stack. -/
import Derived.Test.YtjapfckadikjiaaRsE
namespace Go.Proofs.Ytjapfckadikjiaa
open Go.RowKit
section
variable {B : Nat} {w w' : World} {vf : Value} {g : Nat → Value} {s : Sk}
/-- A list of truths that lies in memory. -/
def BoolsR (w : World) (v : Value) (ps : List Bool) : Prop :=
  ∃ ao cap, v = .slice ao ps.length cap ∧ ∀ (i : Nat) (q : Bool), ps[i]? = some q → ∃ b off, ao = some ⟨b, off, none⟩ ∧ b < w.heap.size ∧ w.cell? ⟨b, off + i, none⟩ = some (.bool q)
theorem run_appWd {W : World} {C b m : Nat} {v : Value} {xs : List Value} {q : Bool} (hown : W.ownsRow C 70 2 v m xs) (hb : W.heap[b]? = some (.cells #[.int .i64 0, .bool q] 70 (0, 0))) (hlen : m < 1000000000) (hB : C ≤ W.heap.size) :
    ∃ g cap w', (Builtin.append_ #[68, 68] 68 #[v, .slice (some ⟨b, 0, none⟩) 1 1]).run Try.prog W = .ok (.slice (some ⟨g, 0, none⟩) (m + 1) cap) w' ∧
      w'.ownsRow C 70 2 (.slice (some ⟨g, 0, none⟩) (m + 1) cap) (m + 1) (xs ++ [.int .i64 0, .bool q]) ∧ W.grownBy w' v.ownBlock ∧ (v.ownBlock = some g ∨ g = W.heap.size) ∧ g < w'.heap.size := by
  obtain ⟨i0, hi, hz0, hz1, hz2⟩ := info_parts Try.info70
  exact run_append_lies (P := Try.prog) W 68 68 C 70 i0 _ 2 16 Try.underlying68 hi hz0 hz1 hz2 rfl (by decide) v m xs hown ⟨b, 0, none⟩ 1 1 [.int .i64 0, .bool q] rfl (World.news_of_block hb)
    (by intro u hu; simp at hu; rcases hu with rfl | rfl <;> rfl) (by decide) (by unfold maxLen; omega) (by omega) hB _ rfl
def nw (ps : List Bool) : List Wo := ps.map fun b => ⟨0, b⟩
theorem nw_cells {ps : List Bool} {j : Nat} {q : Bool} (h : ps[j]? = some q) : wcells (nw (ps.take (j + 1))) = wcells (nw (ps.take j)) ++ [.int .i64 0, .bool q] := by
  unfold nw
  rw [List.take_add_one, h]
  simp [wcells_append, wcells]
/-- What holds at the head of the loop that makes the frame. -/
structure Pu (s : Sk) (w wr : World) (ps : List Bool) (vf' : Value) (g' : Nat → Value) (C1 : Nat) (a i : Value) : Prop where
  ex : ∃ j : Nat, j ≤ ps.length ∧ i = .int .i64 j ∧ wr.ownsRow C1 70 2 a j (wcells (nw (ps.take j)))
  bx : wr.heap[w.heap.size]? = some (.cells #[.int .i64 s.base, .int .i64 s.most, vf'] 31 (0, 0))
  br : wr.heap[w.heap.size + 1]? = some (.cells #[.int .i64 0, .int .i64 0, .slice none 0 0] 31 (0, 0))
  rc : Rc (w.heap.size + 1 + 1) wr vf' g' s.fr
  lo : ∀ k, rown vf' g' s.fr.length k → k < C1
  c1 : w.heap.size + 1 < C1 ∧ C1 < wr.heap.size
  bel : Below w.heap.size w wr
set_option maxHeartbeats 4000000 in
theorem rpush_full (w : World) (R : Rc B w vf g s.fr) (I : SInv s) {v : Value} {ps : List Bool} (hv : BoolsR w v ps) (hps : ps.length ≤ 1000) (h : pushOk s ps.length = false) :
    Calls Try.prog 11 #[rv s vf, v] w fun e w' => ROut B w 7 s e w' := by
  obtain ⟨ao, cp, hvf, _⟩ := row_form R.row
  obtain ⟨aq, cq, rfl, _⟩ := hv
  obtain ⟨W1, hW1⟩ : ∃ W1, (w.alloc (.cells #[.int .i64 s.base, .int .i64 s.most, .slice ao s.fr.length cp] 31)).alloc (.cells #[.int .i64 0, .int .i64 0, .slice none 0 0] 31) = W1 := ⟨_, rfl⟩
  have z1 : W1.heap.size = w.heap.size + 1 + 1 := by rw [← hW1]; simp
  have R1 : Rc B W1 vf g s.fr := by rw [← hW1]; exact (R.alloc _).alloc _
  have bx : W1.heap[w.heap.size]? = some (.cells #[.int .i64 s.base, .int .i64 s.most, .slice ao s.fr.length cp] 31 (0, 0)) := by rw [← hW1, Below.heap_alloc _ _ _ (by simp), heap_new _ _ rfl]
  have br : W1.heap[w.heap.size + 1]? = some (.cells #[.int .i64 0, .int .i64 0, .slice none 0 0] 31 (0, 0)) := by rw [← hW1, heap_new _ _ (by simp)]
  have BW := hide (show Below w.heap.size w W1 by rw [← hW1]; exact ((Below.refl _ _).alloc (Nat.le_refl _) _).alloc (by simp) _)
  have hsz := rsize_any (w := W1.drew) (R1.keep fun _ _ => rfl) I
  rw [hvf] at hsz ⊢
  have HW1 := hide hW1
  have HBX := hide bx
  have HBR := hide br
  have HR1 := hide R1
  have HV := hide hvf
  have HLT := hide (show ∀ k, rown vf g s.fr.length k → k < w.heap.size from fun k hk => (R.own_lt hk).2)
  have hfew := I.few
  have hm0 := I.m0
  have hm1 := I.m1
  have hfit := I.fit
  have h' : s.fr.length = 1000 ∨ s.fr.length < 1000 ∧ s.most < s.ws.length + ps.length := by
    have := of_decide_eq_false h; omega
  obtain ⟨c0, c1, c2, _, _, _⟩ := box_facts bx
  have HS := hide hsz
  have fin : ∀ w5 : World, Below W1.heap.size W1 w5 → ROut B w 7 s (.returned (.tuple #[.int .i64 7, rv s (.slice ao s.fr.length cp)])) (((w5.setCell ⟨w.heap.size + 1, 0, none⟩ (.int .i64 s.base)).setCell ⟨w.heap.size + 1, 1, none⟩ (.int .i64 s.most)).setCell ⟨w.heap.size + 1, 2, none⟩ (.slice ao s.fr.length cp)).drew := fun w5 hb => by
    refine ⟨_, g, rfl, ?_, ?_⟩
    · have h1 := HR1.out.below hb
      rw [HV.out] at h1
      refine h1.keep fun k hk => ?_
      have := HLT.out k (by rw [HV.out]; exact hk)
      rw [heap_drew]
      exact put3 w5 (w.heap.size + 1) k _ _ _ (by omega)
    · exact (below3 (BW.out.trans (hb.mono (by omega))) (Nat.le_succ _) _ _ _).drew
  have FIN := hide fin
  have rf : ∀ w5 : World, Below W1.heap.size W1 w5 → (w5.cell? ⟨w.heap.size, 0, none⟩ = some (.int .i64 s.base) ∧ w5.cell? ⟨w.heap.size, 1, none⟩ = some (.int .i64 s.most) ∧ w5.cell? ⟨w.heap.size, 2, none⟩ = some (.slice ao s.fr.length cp)) ∧ w5.cell? ⟨w.heap.size + 1, 0, none⟩ = some (.int .i64 0) ∧ w5.cell? ⟨w.heap.size + 1, 1, none⟩ = some (.int .i64 0) ∧ w5.cell? ⟨w.heap.size + 1, 2, none⟩ = some (.slice none 0 0) ∧ w5.frozen? ⟨w.heap.size + 1, 0, none⟩ = false ∧ w5.frozen? ⟨w.heap.size + 1, 1, none⟩ = false ∧ w5.frozen? ⟨w.heap.size + 1, 2, none⟩ = false := fun w5 hb => by
    obtain ⟨x0, x1, x2, _⟩ := box_facts ((hb.block w.heap.size (by omega)).trans HBX.out)
    exact ⟨⟨x0, x1, x2⟩, box_facts ((hb.block (w.heap.size + 1) (by omega)).trans HBR.out)⟩
  have RF := hide rf
  have bps : (ps.length : Int) ≤ 1000 := by omega
  have bws : (s.ws.length : Int) ≤ 65536 := by omega
  have hne : ¬ w.heap.size + 1 = w.heap.size := by omega
  clear hsz hW1 bx br R1 R I fin rf h hvf
  generalize hnf : s.fr.length = nf at *
  generalize hnw : s.ws.length = nws at *
  generalize hnp : ps.length = np at *
  clear hnf hnw hnp
  rcases h' with h1 | ⟨h1, h2⟩
  · subst h1
    go_enter Try.func11, Try.ntmps11
    go_wp2_with fail
    rw [HW1.out]
    go_quiet (fail)
    have hbq : Below W1.heap.size W1 (W1.drewN nq) := below_drewN (Below.refl _ _) nq
    have HBQ := hide hbq
    obtain ⟨⟨y0, y1, y2⟩, r0, r1, r2, f0, f1, f2⟩ := RF.out _ hbq
    clear hbq c0 c1 c2
    generalize W1.drewN nq = w5 at *
    go_wp2
    go_region
    all_goals go_wp2
    all_goals
      refine bodyPost_ret (v := .tuple #[.int .i64 7, rv s (.slice ao 1000 cp)]) ?_ rfl ?_
      · simp [results, Try.results11, go_sem, r0, r1, r2]
      · exact FIN.out w5 HBQ.out
  · have d0 : ((nf : Int) == 1000) = false := by simp; omega
    have d1 : decide (s.most < (nws : Int) + (np : Int)) = true := by simpa using h2
    have dw : IntKind.i64.wrap ((nws : Int) + (np : Int)) = (nws : Int) + (np : Int) := by rw [IntKind.wrap_i64]; omega
    have DR := hide (show ∀ w5 : World, Below W1.drew.heap.size W1.drew w5 → Below W1.heap.size W1 w5 from fun w5 hb => ⟨hb.os, hb.tape, hb.output, hb.size, hb.block⟩)
    go_enter Try.func11, Try.ntmps11
    go_wp2_with fail
    rw [HW1.out]
    go_region_with (go_at_call 26; refine HS.out.mono ?_; rintro e w5 ⟨rfl, hb5⟩; obtain ⟨⟨y0, y1, y2⟩, r0, r1, r2, f0, f1, f2⟩ := RF.out _ (DR.out _ hb5))
    all_goals go_wp2
    all_goals go_region
    all_goals go_wp2
    all_goals
      refine bodyPost_ret (v := .tuple #[.int .i64 7, rv s (.slice ao nf cp)]) ?_ rfl ?_
      · simp [results, Try.results11, go_sem, r0, r1, r2]
      · exact FIN.out w5 (DR.out _ hb5)
end
end Go.Proofs.Ytjapfckadikjiaa
