/- again: the piece of a class that went back last. -/
import Derived.Test.YtimpmgbahgganaaArE
import Derived.Deep.RegionLaw
namespace Go.Proofs.Ytimpmgbahgganaa
open Go.RowKit Go.Maps

section
variable {X : Wh} {s : As} {k : Nat} {w : World}
/-- What the map holds of a class. -/
theorem Lies.look (L : Lies X w s k) {c : Nat} (hc : c ≤ 65536) : (Instr.lookup 105 (.map (some X.bm)) (.int .i64 c) false).run Try.prog w = .ok (X.f c) w := by
  obtain ⟨D, hD, hf⟩ := L.map
  obtain ⟨v, ps, hrun, hv⟩ := hD.lookup backs_keyed Try.underlying105 (zero_ints w) (zd := .held (.slice none 0 0)) (zp := []) rfl (key_int c hc)
  rw [hf c] at hv
  simp [heldR] at hv
  rw [← hv.1]; exact hrun
/-- Something else is stored for a class. -/
theorem Lies.store (L : Lies X w s k) {c : Nat} (hc : c ≤ 65536) (v : Value) (hk : k < 1000000000) : ∃ w1, (Instr.mapUpdate 105 (.map (some X.bm)) (.int .i64 c) v).run Try.prog w = .ok () w1 ∧ w.grownBy w1 (some X.bm) ∧
    ∃ D, w1.ownsMap (H := Value) Try.prog 3 heldR X.bm (k + 1) D ∧ ∀ d : Nat, D.atKey (.int .i64 d) (.held (.slice none 0 0)) = .held (upd X.f c v d) := by
  obtain ⟨D, hD, hf⟩ := L.map
  obtain ⟨w1, h1, h2, h3⟩ := hD.update backs_keyed Try.underlying105 (by unfold maxLen; omega) (val := v) (d := .held v) (ps := []) (key_int c hc) rfl
  refine ⟨w1, h1, h3, _, h2, fun d => ?_⟩
  by_cases hd : d = c
  · subst hd
    rw [upd_same, Maps.atKey_put_same hD.isMap (by simp [WideAt.IsKeyLit])]
  · rw [upd_other _ _ hd, Maps.atKey_put_other (fun e => hd (by simp at e; omega)), hf d]
theorem again_none (L : Lies X w s k) {c : Nat} (hc : c ≤ 65536) (h : s.bk c = []) :
    Calls Try.prog 49 #[X.p, .int .i64 c] w fun e w' => e = .returned (.tuple #[.int .i64 0, .bool false]) ∧ w' = w := by
  have c3 := L.c3
  have hl := L.look hc
  obtain ⟨ao, cap, hv⟩ : ∃ ao cap, X.f c = .slice ao 0 cap := by
    have := L.rows c
    rw [h] at this
    rcases this.2 with ⟨h1, _⟩ | ⟨g, cap, cur, h1, _⟩
    · exact ⟨none, 0, h1⟩
    · exact ⟨_, cap, h1⟩
  rw [hv] at hl
  clear L hv h
  go_enter Try.func49, Try.ntmps49
  go_wp2
  go_ret2
  exact ⟨rfl, rfl⟩
/-- The arena's place behind a store for a class. -/
def Wh.put (X : Wh) (c : Nat) (v : Value) : Wh := { X with f := upd X.f c v }
theorem Lies.row_form (L : Lies X w s k) {c g : Nat} (h : (X.f c).ownBlock = some g) : ∃ cur, w.heap[g]? = some (.cells cur 3 (0, 0)) := by
  rcases (L.rows c).2 with ⟨h1, _⟩ | ⟨g', cap, cur, h1, _, h2, _⟩
  · rw [h1] at h; cases h
  · rw [h1] at h; cases h; exact ⟨cur, h2⟩
theorem Lies.map_form (L : Lies X w s k) : ∃ es cl, w.heap[X.bm]? = some (.map es cl) := by
  obtain ⟨D', ⟨es, cl, h1, _⟩, _⟩ := L.map
  exact ⟨es, cl, h1⟩
theorem Lies.put (L : Lies X w s k) {w1 : World} {c : Nat} {v : Value} {l' : List Nat} (hblk : ∀ j, j < w.heap.size → j ≠ X.bm → some j ≠ (X.f c).ownBlock → w1.heap[j]? = w.heap[j]?) (hz : w.heap.size ≤ w1.heap.size)
    (hD : ∃ D, w1.ownsMap (H := Value) Try.prog 3 heldR X.bm (k + 1) D ∧ ∀ d : Nat, D.atKey (.int .i64 d) (.held (.slice none 0 0)) = .held (upd X.f c v d))
    (hrow : w1.ownsRow X.B 3 1 v l'.length (addrs l')) (hv : v.ownBlock = (X.f c).ownBlock ∨ ∃ g, v.ownBlock = some g ∧ w.heap.size ≤ g) (hl : l'.length ≤ k + 1) :
    Lies (X.put c v) w1 { s with bk := upd s.bk c l' } (k + 1) := by
  obtain ⟨es, cl, hmap⟩ := L.map_form
  have hA : w1.heap[X.A]? = w.heap[X.A]? := hblk _ (lt_of_block L.blk) (fun e => by have := L.blk; rw [e, hmap] at this; cases this) (fun e => by
    obtain ⟨cur, h1⟩ := L.row_form e.symm; rw [L.blk] at h1; simp at h1)
  have hbw : w1.heap[X.bw]? = w.heap[X.bw]? := hblk _ (lt_of_block L.wds) (fun e => by have := L.wds; rw [e, hmap] at this; cases this) (fun e => L.apart c e.symm)
  have hvne : ∀ {b : Nat}, b < w.heap.size → (X.f c).ownBlock ≠ some b → v.ownBlock ≠ some b := fun {b} hb hn e => by
    rcases hv with h1 | ⟨g, h1, h2⟩
    · exact hn (h1 ▸ e)
    · rw [h1] at e; cases e; omega
  refine ⟨hA.trans L.blk, hbw.trans L.wds, ownsRow_keep L.pcs fun g hg => ?_, hD, fun d => ?_, fun d => ?_, fun d d' hne => ?_, L.base, fun d => ?_, Nat.le_trans L.hB hz⟩
  · obtain ⟨g', cap, cur, h1, h2, _⟩ : ∃ g cap cur, X.vp = .slice (some ⟨g, 0, none⟩) s.ps.length cap ∧ w.heap[g]? = some (.cells cur 114 (0, 0)) ∧ True := by
      rcases L.pform with ⟨_, h1⟩ | ⟨g, cap, cur, h1, h2, _⟩
      · have h2 : X.vp.ownBlock = some g := hg
        rw [h1] at h2; cases h2
      · exact ⟨g, cap, cur, h1, h2, trivial⟩
    have h3 : X.vp.ownBlock = some g := hg
    rw [h1] at h3; cases h3
    exact hblk _ (lt_of_block h2) (fun e => by rw [show g' = X.bm from e, hmap] at h2; cases h2) (fun e => by obtain ⟨cur, h4⟩ := L.row_form e.symm; rw [h2] at h4; simp at h4)
  · show w1.ownsRow X.B 3 1 (upd X.f c v d) (upd s.bk c l' d).length (addrs (upd s.bk c l' d))
    by_cases hd : d = c
    · subst hd; rw [upd_same, upd_same]; exact hrow
    · rw [upd_other _ _ hd, upd_other _ _ hd]
      refine ownsRow_keep (L.rows d) fun g hg => ?_
      obtain ⟨cur, h2⟩ := L.row_form hg
      refine hblk _ (lt_of_block h2) (fun e => by rw [e, hmap] at h2; cases h2) (fun e => ?_)
      rcases L.apart2 d c hd with h3 | h3
      · rw [h3] at hg; cases hg
      · exact h3 (hg.trans e)
  · show (upd X.f c v d).ownBlock ≠ some X.bw
    by_cases hd : d = c
    · subst hd; rw [upd_same]; exact hvne (lt_of_block L.wds) (L.apart d)
    · rw [upd_other _ _ hd]; exact L.apart d
  · have key : ∀ e, e ≠ c → ((X.f e).ownBlock = none ∨ (X.f e).ownBlock ≠ v.ownBlock) := fun e he => by
      cases h1 : (X.f e).ownBlock with
      | none => exact .inl rfl
      | some g =>
        right
        intro h2
        obtain ⟨cur, h3⟩ := L.row_form h1
        refine hvne (lt_of_block h3) (fun h4 => ?_) h2.symm
        rcases L.apart2 e c he with h5 | h5
        · rw [h5] at h1; cases h1
        · exact h5 (h1.trans h4.symm)
    show (upd X.f c v d).ownBlock = none ∨ (upd X.f c v d).ownBlock ≠ (upd X.f c v d').ownBlock
    by_cases hd : d = c
    · subst hd
      rw [upd_same, upd_other _ _ (Ne.symm hne)]
      rcases key d' (Ne.symm hne) with h1 | h1
      · cases h2 : v.ownBlock with
        | none => exact .inl rfl
        | some g => right; rw [h1]; simp
      · exact .inr (Ne.symm h1)
    · rw [upd_other _ _ hd]
      by_cases hd' : d' = c
      · subst hd'; rw [upd_same]; exact key d hd
      · rw [upd_other _ _ hd']; exact L.apart2 d d' hne
  · show (upd s.bk c l' d).length ≤ k + 1
    by_cases hd : d = c
    · subst hd; rw [upd_same]; exact hl
    · rw [upd_other _ _ hd]; exact Nat.le_succ_of_le (L.lens d)
theorem Step.put {w1 : World} {c : Nat} {v : Value} (ho : w1.os = w.os) (ht : w1.tape = w.tape) (hu : w1.output = w.output) (hblk : ∀ j, j < w.heap.size → j ≠ X.bm → some j ≠ (X.f c).ownBlock → w1.heap[j]? = w.heap[j]?) (hz : w.heap.size ≤ w1.heap.size)
    (hv : v.ownBlock = (X.f c).ownBlock ∨ ∃ g, v.ownBlock = some g ∧ w.heap.size ≤ g) : Step X (X.put c v) w w1 := by
  refine ⟨rfl, rfl, ho, ht, hu, hz, fun j hj hn => hblk j hj (fun e => hn (.inr (.inr (.inl e)))) (fun e => hn (.inr (.inr (.inr (.inr ⟨c, e.symm⟩))))), fun j hj => ?_⟩
  rcases hj with h | h | h | h | ⟨d, h⟩
  · exact .inl (.inl h)
  · exact .inl (.inr (.inl h))
  · exact .inl (.inr (.inr (.inl h)))
  · exact .inl (.inr (.inr (.inr (.inl h))))
  · have h' : (upd X.f c v d).ownBlock = some j := h
    by_cases hd : d = c
    · subst hd
      rw [upd_same] at h'
      rcases hv with h1 | ⟨g, h1, h2⟩
      · exact .inl (.inr (.inr (.inr (.inr ⟨d, h1 ▸ h'⟩))))
      · rw [h1] at h'; cases h'; exact .inr h2
    · rw [upd_other _ _ hd] at h'; exact .inl (.inr (.inr (.inr (.inr ⟨d, h'⟩))))
theorem again_some (L : Lies X w s k) {c x : Nat} {l : List Nat} (hc : c ≤ 65536) (h : s.bk c = l ++ [x]) (hk : k < 1000000000) :
    Calls Try.prog 49 #[X.p, .int .i64 c] w fun e w' => e = .returned (.tuple #[.int .i64 x, .bool true]) ∧ ∃ X', Lies X' w' (popS s c) (k + 1) ∧ Step X X' w w' := by
  have c3 := L.c3
  have hl := L.look hc
  have hr := L.rows c
  rw [h] at hr
  have hlen := L.lens c
  rw [h] at hlen
  simp only [List.length_append, List.length_singleton] at hr hlen
  obtain ⟨g, cap, cur, hv, hg, hh, hn, hcap, hsz, htk⟩ : ∃ g cap cur, X.f c = .slice (some ⟨g, 0, none⟩) (l.length + 1) cap ∧ X.B ≤ g ∧ w.heap[g]? = some (.cells cur 3 (0, 0)) ∧ l.length + 1 ≤ cap ∧ cap ≤ maxLen ∧ cur.size = cap ∧ cur.toList.take (l.length + 1) = addrs (l ++ [x]) := by
    rcases hr.2 with ⟨_, h1⟩ | ⟨g, cap, cur, h1, h2, h3, h4, h5, h6, h7⟩
    · omega
    · exact ⟨g, cap, cur, h1, h2, h3, h4, h5, by omega, by simpa using h7⟩
  rw [hv] at hl
  have cx : w.cell? ⟨g, l.length, none⟩ = some (.int .i64 x) := by
    have h1 : (cur.toList.take (l.length + 1))[l.length]? = some (.int .i64 x) := by rw [htk]; simp [addrs]
    rw [List.getElem?_take] at h1
    simpa [World.cell?, hh] using h1
  obtain ⟨w1, hst, hgr, D, hD, hDf⟩ := L.drew.store hc (.slice (some ⟨g, 0, none⟩) l.length cap) hk
  have cx1 : w1.cell? ⟨g, l.length, none⟩ = some (.int .i64 x) := by
    rw [hgr.cell_far ⟨g, l.length, none⟩ (lt_of_block hh) (fun e => by
      simp at e; subst e
      obtain ⟨D', ⟨es, cl, h1, _⟩, _⟩ := L.map
      rw [hh] at h1; cases h1)]
    exact cx
  have hne : X.bm ≠ X.A := fun e => by
    obtain ⟨D', ⟨es, cl, h1, _⟩, _⟩ := L.map
    rw [e, L.blk] at h1; cases h1
  have hm := hr.1
  have HF := hide (show w1.ownsRow X.B 3 1 (.slice (some ⟨g, 0, none⟩) l.length cap) l.length (addrs l) by
    have hg1 : w1.heap[g]? = w.heap[g]? := hgr.block g (lt_of_block hh) (fun e => by
      simp at e; subst e
      obtain ⟨es, cl, h1⟩ := L.map_form
      rw [hh] at h1; cases h1)
    refine ⟨by simp [addrs], .inr ⟨g, cap, cur, rfl, hg, hg1.trans hh, by omega, hcap, by omega, ?_⟩⟩
    have h1 := congrArg (List.take l.length) htk
    rw [List.take_take, Nat.min_eq_left (by omega)] at h1
    rw [Nat.mul_one, h1]
    simp [addrs])
  have HP := hide (show { s with bk := upd s.bk c l } = popS s c by simp [popS, h])
  clear hr htk
  unfold maxLen at hcap
  generalize hll : l.length = m at *
  have HLL := hide hll
  have b1 : (m : Int) < (cap : Int) := by omega
  have b2 : (m : Int) < 1000000000 := by omega
  have b3 : ((m : Int) + 1 == 0) = false := by simp; omega
  have LH := hide L
  have HD := hide hD
  have HDf := hide hDf
  have HG := hide hgr
  have HV := hide hv
  have HH := hide hh
  clear hD hDf hgr hv L hh hm h hsz
  go_enter Try.func49, Try.ntmps49
  go_wp2
  go_region
  all_goals go_wp2
  all_goals go_ret2
  all_goals refine ⟨rfl, X.put c (.slice (some ⟨g, 0, none⟩) m cap), ?_, ?_⟩
  all_goals have hbl : ∀ j, j < w.heap.size → j ≠ X.bm → some j ≠ (X.f c).ownBlock → w1.heap[j]? = w.heap[j]? := fun j hj h1 _ => HG.out.block j hj (fun e => h1 (by simpa using e))
  · rw [← HP.out]
    exact LH.out.put hbl HG.out.size ⟨D, HD.out, HDf.out⟩ (by rw [HLL.out]; exact HF.out) (.inl (by rw [HV.out]; rfl)) (by rw [HLL.out]; omega)
  · exact Step.put HG.out.os HG.out.tape HG.out.output hbl HG.out.size (.inl (by rw [HV.out]; rfl))
end
end Go.Proofs.Ytimpmgbahgganaa
