/- cut: a piece of a class at the line. -/
import Derived.Test.YtimpmgbahgganaaArF
namespace Go.Proofs.Ytimpmgbahgganaa
open Go.RowKit Go.Maps

/-- An append whose run is known, at the list of a plain region's operations. -/
theorem wpList_append_eq {P : Program} {w : World} {ops : Array Oper} {rest : List Oper} {o : Oper} {a : Act} {Q : Exit → Act → World → Prop} (hgd : o.guard = none) (s x : Operand) (t : TypeId)
    (ho : o.op = .call { callee := .builtin .append, args := #[s, x], argTypes := #[t, t] }) {v1 v2 v : Value} {w' : World} (hs : a.eval s = v1) (hx : a.eval x = v2) (hr : (Builtin.append_ #[t, t] o.type #[v1, v2]).run P w = .ok v w')
    (h : wpList P ops Q rest (a.put o.dst v) w') : wpList P ops Q (o :: rest) a w := by
  refine wpList_plain hgd fun _ hK => ?_
  unfold Oper.wp execOp
  simp only [ho, resolve, invoke, builtin, Sem.run_bind, Sem.run_pure, Result.andThen_ok, List.map_toArray, List.map_cons, List.map_nil, hs, hx, hr]
  exact hK _ _ h
section
variable {X : Wh} {s : As} {k : Nat} {w : World}
theorem Lies.drewN (L : Lies X w s k) (q : Nat) : Lies X (w.drewN q) s k := L.keep (fun _ _ => rfl) (Nat.le_refl _)
theorem cut_none (L : Lies X w s k) (I : Inv s) {c : Nat} (h : ¬ c ≤ s.ws.length - s.gv) :
    Calls Try.prog 50 #[X.p, .int .i64 c] w fun e w' => e = .returned (.tuple #[.int .i64 0, .bool false]) ∧ Below w.heap.size w w' := by
  have c0 := L.c0
  have c1 := L.c1
  have hsm := I.small
  have hft := I.fits
  generalize s.ws.length = m at *
  generalize s.gv = gv at *
  have b1 : (m : Int) ≤ 65536 := by omega
  have b2 : (gv : Int) ≤ (m : Int) := by omega
  have b3 : decide ((m : Int) - gv < (c : Int)) = true := by simp; omega
  clear L I h
  go_enter Try.func50, Try.ntmps50
  go_wp2
  go_quiet (fail)
  go_wp2
  go_ret2
  exact ⟨rfl, below_drewN (Below.refl _ _) nq⟩
/-- Where the arena lies behind a change of its pieces' slice. -/
def Wh.cutAt (X : Wh) (v : Value) : Wh := { X with vp := v }
theorem Lies.cut (L : Lies X w s k) {w1 : World} {c : Nat} {v : Value} (hc : w1.heap[X.A]? = some (.cells #[.slice (some ⟨X.bw, 0, none⟩) s.ws.length s.ws.length, .int .i64 ((s.gv + c : Nat) : Int), v, .map (some X.bm)] 108 (0, 0)))
    (hblk : ∀ j, j < w.heap.size → j ≠ X.A → some j ≠ X.vp.ownBlock → w1.heap[j]? = w.heap[j]?) (hz : w.heap.size ≤ w1.heap.size)
    (hrow : w1.ownsRow X.B 114 2 v (s.ps.length + 1) (pcells (s.ps ++ [⟨s.gv + 1, c, 0⟩]))) :
    Lies (X.cutAt v) w1 (pushS s c) k := by
  obtain ⟨es, cl, hmap⟩ := L.map_form
  have hp : ∀ {b : Nat} {o : Obj}, w.heap[b]? = some o → (∀ cur, o ≠ .cells cur 114 (0, 0)) → some b ≠ X.vp.ownBlock := fun {b o} hb ho e => by
    rcases L.pform with ⟨_, h1⟩ | ⟨g, cap, cur, h1, h2, _⟩
    · rw [h1] at e; cases e
    · rw [h1] at e; cases e; rw [hb] at h2; cases h2; exact ho cur rfl
  refine ⟨by simpa [pushS, Wh.cutAt] using hc, ?_, by simpa [pushS, Wh.cutAt] using hrow, ?_, fun d => ?_, L.apart, L.apart2, L.base, L.lens, Nat.le_trans L.hB hz⟩
  · refine (hblk _ (lt_of_block L.wds) (fun e => ?_) (hp L.wds (fun cur h => by simp at h))).trans L.wds
    have h1 := L.blk; rw [← e, L.wds] at h1; simp at h1
  · obtain ⟨D, ⟨es', clock, h1, h2⟩, h3⟩ := L.map
    refine ⟨D, ⟨es', clock, (hblk _ (lt_of_block h1) (fun e => ?_) (hp h1 (fun cur h => by cases h))).trans h1, h2⟩, h3⟩
    have h4 := L.blk; rw [← e, h1] at h4; cases h4
  · refine ownsRow_keep (L.rows d) fun g hg => ?_
    obtain ⟨cur, h2⟩ := L.row_form hg
    refine hblk _ (lt_of_block h2) (fun e => ?_) (hp h2 (fun cur h => by simp at h))
    have h4 := L.blk; rw [← e, h2] at h4; simp at h4
theorem Step.cut {w1 : World} {v : Value} (ho : w1.os = w.os) (ht : w1.tape = w.tape) (hu : w1.output = w.output) (hblk : ∀ j, j < w.heap.size → j ≠ X.A → some j ≠ X.vp.ownBlock → w1.heap[j]? = w.heap[j]?) (hz : w.heap.size ≤ w1.heap.size)
    (hv : v.ownBlock = X.vp.ownBlock ∨ ∃ g, v.ownBlock = some g ∧ w.heap.size ≤ g) : Step X (X.cutAt v) w w1 := by
  refine ⟨rfl, rfl, ho, ht, hu, hz, fun j hj hn => hblk j hj (fun e => hn (.inl e)) (fun e => hn (.inr (.inr (.inr (.inl e.symm))))), fun j hj => ?_⟩
  rcases hj with h | h | h | h | ⟨d, h⟩
  · exact .inl (.inl h)
  · exact .inl (.inr (.inl h))
  · exact .inl (.inr (.inr (.inl h)))
  · have h' : v.ownBlock = some j := h
    rcases hv with h1 | ⟨g, h1, h2⟩
    · exact .inl (.inr (.inr (.inr (.inl (h1 ▸ h')))))
    · rw [h1] at h'; cases h'; exact .inr h2
  · exact .inl (.inr (.inr (.inr (.inr ⟨d, h⟩))))
set_option maxHeartbeats 1000000 in
theorem cut_some (L : Lies X w s k) (I : Inv s) {c : Nat} (h0 : 1 ≤ c) (h : c ≤ s.ws.length - s.gv) :
    Calls Try.prog 50 #[X.p, .int .i64 c] w fun e w' => e = .returned (.tuple #[.int .i64 (s.gv + 1 : Nat), .bool true]) ∧ ∃ X', Lies X' w' (pushS s c) k ∧ Step X X' w w' := by
  have c0 := L.c0
  have c1 := L.c1
  have hsm := I.small
  have hft := I.fits
  have hps := I.pieces
  have b1 : (s.ws.length : Int) ≤ 65536 := by omega
  have b2 : (s.gv : Int) ≤ (s.ws.length : Int) := by omega
  have b3 : decide ((s.ws.length : Int) - s.gv < (c : Int)) = false := by simp; omega
  have b4 : (s.gv : Int) + c ≤ 65536 := by omega
  have b5 : 1 ≤ (c : Int) := by omega
  have LH := hide L
  clear I L
  go_enter Try.func50, Try.ntmps50
  go_wp2
  go_quiet (fail)
  have L2 := hide (LH.out.drewN nq)
  have S2 := hide (Step.of_below (X := X) (below_drewN (Below.refl w.heap.size w) nq))
  have c1 := L2.out.c1
  have c2 := L2.out.c2
  have f1 := L2.out.fz 1
  have f2 := L2.out.fz 2
  revert L2 S2 c1 c2 f1 f2
  generalize w.drewN nq = w2
  intro L2 S2 c1 c2 f1 f2
  obtain ⟨ao, cp, hv⟩ : ∃ ao cap, X.vp = .slice ao s.ps.length cap := by
    rcases L2.out.pform with ⟨h1, h2⟩ | ⟨g, cap, _, h2, _⟩
    · rw [h1]; exact ⟨none, 0, h2⟩
    · exact ⟨_, cap, h2⟩
  have hA : ∀ g, X.vp.ownBlock = some g → X.A ≠ g := fun g hg e => by
    rcases L2.out.pform with ⟨_, h1⟩ | ⟨g', cap, cur, h1, h2, _⟩
    · rw [h1] at hg; cases hg
    · rw [h1] at hg; cases hg; have h3 := L2.out.blk; rw [e, h2] at h3; simp at h3
  have hAlt : X.A < w2.heap.size := lt_of_block L2.out.blk
  obtain ⟨W3, hW3⟩ : ∃ W3, (w2.setCell ⟨X.A, 1, none⟩ (.int .i64 ((s.gv : Int) + c))).alloc (.cells #[.int .i64 ((s.gv : Int) + 1), .int .i64 0] 114) = W3 := ⟨_, rfl⟩
  have z3 : W3.heap.size = w2.heap.size + 1 := by rw [← hW3]; simp
  have hb3 : ∀ j, j < w2.heap.size → j ≠ X.A → W3.heap[j]? = w2.heap[j]? := fun j hj hn => by
    rw [← hW3, Below.heap_alloc _ _ _ (by simpa using hj), Below.heap_setCell _ _ _ _ hn]
  have hA3 : W3.heap[X.A]? = some (.cells #[.slice (some ⟨X.bw, 0, none⟩) s.ws.length s.ws.length, .int .i64 ((s.gv : Int) + c), X.vp, .map (some X.bm)] 108 (0, 0)) := by
    rw [← hW3, Below.heap_alloc _ _ _ (by simpa using hAlt), heap_setCell_same w2 X.A 1 _ L2.out.blk]; rfl
  have own3 : W3.ownsRow X.B 114 2 X.vp s.ps.length (pcells s.ps) := ownsRow_keep L2.out.pcs fun g hg => hb3 g (L2.out.pcs.lt g hg).2 (fun e => hA g hg e.symm)
  obtain ⟨i0, hi, hz0, hz1, hz2⟩ := info_parts Try.info114
  have hnb : W3.heap[w2.heap.size]? = some (.cells #[.int .i64 ((s.gv : Int) + 1), .int .i64 0] 114 (0, 0)) := by rw [← hW3, heap_new _ _ (by simp)]
  obtain ⟨g, cap, w4, hrun, hown, hgrow, hat, hlt⟩ := run_append_lies (P := Try.prog) W3 106 106 X.B 114 i0 _ 2 16 Try.underlying106 hi hz0 hz1 hz2 rfl (by decide) X.vp _ _ own3 ⟨w2.heap.size, 0, none⟩ 1 1 [.int .i64 ((s.gv : Int) + 1), .int .i64 0] rfl (World.news_of_block hnb)
    (by intro u hu; simp at hu; rcases hu with rfl | rfl <;> rfl) (by decide) (by unfold maxLen; omega) (by omega) (by have := L2.out.hB; omega) _ rfl
  have hA4 : w4.heap[X.A]? = some (.cells #[.slice (some ⟨X.bw, 0, none⟩) s.ws.length s.ws.length, .int .i64 ((s.gv : Int) + c), X.vp, .map (some X.bm)] 108 (0, 0)) :=
    (hgrow.block X.A (by omega) (fun e => hA _ e.symm rfl)).trans hA3
  have c4 : w4.cell? ⟨X.A, 2, none⟩ = some X.vp := by simp [World.cell?, hA4]
  have f4 : w4.frozen? ⟨X.A, 2, none⟩ = false := by simp [World.frozen?, hA4]
  have HF := hide (show ∀ j, j < w2.heap.size → j ≠ X.A → some j ≠ X.vp.ownBlock → w4.heap[j]? = w2.heap[j]? from fun j hj h1 h2 => (hgrow.block j (by omega) h2).trans (hb3 j hj h1))
  have HO := hide (show w4.os = w2.os ∧ w4.tape = w2.tape ∧ w4.output = w2.output ∧ w2.heap.size ≤ w4.heap.size from ⟨hgrow.os.trans (by rw [← hW3]; rfl), hgrow.tape.trans (by rw [← hW3]; rfl), hgrow.output.trans (by rw [← hW3]; rfl), by have := hgrow.size; omega⟩)
  have HG := hide (show (X.vp.ownBlock = some g ∨ w2.heap.size ≤ g) from hat.imp id (fun e => by omega))
  have H4 := hide hA4
  have HW := hide hown
  have hgA : g ≠ X.A := by
    rcases hat with e | e
    · exact (hA g e).symm
    · omega
  rw [hv] at c2 c4 hrun
  have HV := hide hv
  clear hv hat hgrow hown hA4 hnb own3 hA3 hb3 hA hlt hi hz0 hz1 hz2 c0
  generalize hn : s.ps.length = n at *
  have HN := hide hn
  clear hn
  subst hW3
  go_wp2_with (at_builtin; refine wpList_append_eq rfl _ _ 106 rfl rfl rfl hrun ?_)
  go_wp2
  go_ret2
  have hfin : ∀ j, j < w2.heap.size → j ≠ X.A → some j ≠ X.vp.ownBlock → (w4.setCell ⟨X.A, 2, none⟩ (.slice (some ⟨g, 0, none⟩) (n + 1) cap)).heap[j]? = w2.heap[j]? := fun j hj h1 h2 => by
    rw [Below.heap_setCell _ _ _ _ h1]; exact HF.out j hj h1 h2
  refine ⟨rfl, X.cutAt (.slice (some ⟨g, 0, none⟩) (n + 1) cap), ?_, ?_⟩
  · refine L2.out.cut (c := c) ?_ hfin (by rw [World.size_setCell]; exact HO.out.2.2.2) ?_
    · rw [heap_setCell_same w4 X.A 2 _ H4.out]; simp
    · rw [HN.out]
      have h1 : w4.ownsRow X.B 114 2 (.slice (some ⟨g, 0, none⟩) (n + 1) cap) (n + 1) (pcells (s.ps ++ [⟨s.gv + 1, c, 0⟩])) := by
        rw [pcells_append]; simpa [pcells] using HW.out
      exact ownsRow_keep h1 fun j hj => Below.heap_setCell _ _ _ _ (by simp [Value.ownBlock] at hj; subst hj; exact hgA)
  · refine S2.out.trans (Step.cut HO.out.1 HO.out.2.1 HO.out.2.2.1 hfin (by rw [World.size_setCell]; exact HO.out.2.2.2) ?_)
    rcases HG.out with h1 | h1
    · exact .inl (by rw [h1]; rfl)
    · exact .inr ⟨g, rfl, h1⟩
end
end Go.Proofs.Ytimpmgbahgganaa
