/- Free. -/
import Derived.Test.YtimpmgbahgganaaArH
namespace Go.Proofs.Ytimpmgbahgganaa
open Go.RowKit Go.Maps

/-- An append whose run is known, at a step of a region that draws its order. -/
theorem step_append_eq {P : Program} {w : World} {ops : Array Oper} {o : Oper} {a : Act} {K : Act → World → Prop} {Q : Exit → Act → World → Prop} {E : Prop} (hgd : o.guard = none) (s x : Operand) (t : TypeId)
    (ho : o.op = .call { callee := .builtin .append, args := #[s, x], argTypes := #[t, t] }) {v1 v2 v : Value} {w' : World} (hs : a.eval s = v1) (hx : a.eval x = v2) (hr : (Builtin.append_ #[t, t] o.type #[v1, v2]).run P w = .ok v w')
    (h : K (a.put o.dst v) w') : if Region.wanted o (yielded ops a.tmps) = true then Oper.wp P o a w K Q else E := by
  have hw : Region.wanted o (yielded ops a.tmps) = true := by simp [Region.wanted, hgd]
  rw [if_pos hw]
  unfold Oper.wp execOp
  simp only [ho, resolve, invoke, builtin, Sem.run_bind, Sem.run_pure, Result.andThen_ok, List.map_toArray, List.map_cons, List.map_nil, hs, hx, hr]
  exact h
theorem map_store {w : World} {bm k : Nat} {f : Nat → Value} (hM : ∃ D, w.ownsMap (H := Value) Try.prog 3 heldR bm k D ∧ ∀ c : Nat, D.atKey (.int .i64 c) (.held (.slice none 0 0)) = .held (f c)) {c : Nat} (hc : c ≤ 65536) (v : Value) (hk : k < 1000000000) :
    ∃ w1, (Instr.mapUpdate 105 (.map (some bm)) (.int .i64 c) v).run Try.prog w = .ok () w1 ∧ w.grownBy w1 (some bm) ∧
      ∃ D, w1.ownsMap (H := Value) Try.prog 3 heldR bm (k + 1) D ∧ ∀ d : Nat, D.atKey (.int .i64 d) (.held (.slice none 0 0)) = .held (upd f c v d) := by
  obtain ⟨D, hD, hf⟩ := hM
  obtain ⟨w1, h1, h2, h3⟩ := hD.update backs_keyed Try.underlying105 (by unfold maxLen; omega) (val := v) (d := .held v) (ps := []) (key_int c hc) rfl
  refine ⟨w1, h1, h3, _, h2, fun d => ?_⟩
  by_cases hd : d = c
  · subst hd
    rw [upd_same, Maps.atKey_put_same hD.isMap (by simp [WideAt.IsKeyLit])]
  · rw [upd_other _ _ hd, Maps.atKey_put_other (fun e => hd (by simp at e; omega)), hf d]
theorem free_err (a : Value) (x y : Int) (hy : y ≠ 0) (w : World) (R : World → Prop) (hc : Calls Try.prog 58 #[a, .int .i64 x] w fun e w' => e = .returned (.tuple #[.pointer none, .int .i64 y]) ∧ R w') :
    Calls Try.prog 40 #[a, .int .i64 x] w fun e w' => e = .returned (.int .i64 y) ∧ R w' := by
  have hd : (y != 0) = true := by simpa using hy
  have HR := hide hc
  clear hc
  go_enter Try.func40, Try.ntmps40
  go_wp2_with fail
  refine HR.out.mono ?_
  rintro e w1 ⟨rfl, hb⟩
  go_wp2
  go_ret
  exact ⟨rfl, hb⟩
section
variable {X : Wh} {s : As} {k : Nat} {w : World}
set_option maxHeartbeats 2000000 in
theorem free_some (L : Lies X w s k) (I : Inv s) {i : Nat} {p : Pc} (hp : s.ps[i]? = some p) (hn : 0 < p.n) (hk : k < 1000000000) :
    Calls Try.prog 40 #[X.p, .int .i64 p.a] w fun e w' => e = .returned (.int .i64 0) ∧ ∃ X', Lies X' w' (freeS s i p) (k + 1) ∧ Step X X' w w' := by
  have hlt := I.row.at hp
  have hfit := I.fits
  have hsm := I.small
  have hbeg := beg_mk I.row hp hn
  have hb := begin_any p.a w L I (by omega)
  unfold BegE at hb
  rw [hbeg] at hb
  have HR := hide hb
  clear hb hbeg
  go_enter Try.func40, Try.ntmps40
  go_wp2_with fail
  refine HR.out.mono ?_
  rintro e w1 ⟨⟨g, cap, hv, rfl⟩, hb⟩
  clear HR
  have L1 := L.below hb
  obtain ⟨g', cap', hv', c1, c2, cf⟩ := L1.piece hp
  rw [hv] at hv'
  cases hv'
  have hc := class_any p.n w1
  rw [Int.toNat_natCast] at hc
  have hcl := cls_le (n := p.n) (by omega) (by omega)
  have HS := hide (show freeS s i p = { ({ s with bk := upd s.bk (clsN p.n) (s.bk (clsN p.n) ++ [p.a]) } : As) with ps := mark s.ps i 0 } from rfl)
  have c3 := L1.c3
  have c3a := (L1.alloc (.cells #[.int .i64 (p.a : Int)] 3)).c3
  -- the append
  obtain ⟨W3, hW3⟩ : ∃ W3, (w1.alloc (.cells #[.int .i64 (p.a : Int)] 3)).drew = W3 := ⟨_, rfl⟩
  have z3 : W3.heap.size = w1.heap.size + 1 := by rw [← hW3]; show (w1.alloc _).heap.size = _; rw [World.size_alloc]
  have L3 : Lies X W3 s k := by rw [← hW3]; exact (L1.alloc _).drew
  have hl1 := L1.drew.look hcl.2
  have hl2 := L3.look hcl.2
  have hlens := L1.lens (clsN p.n)
  obtain ⟨i0, hi, hz0, hz1, hz2⟩ := info_parts Try.info3
  have hnb : W3.heap[w1.heap.size]? = some (.cells #[.int .i64 (p.a : Int)] 3 (0, 0)) := by rw [← hW3]; show (w1.alloc _).heap[_]? = _; rw [heap_new _ _ rfl]
  obtain ⟨ga, capa, w4, hrun, hown, hgrow, hat, hltg⟩ := run_append_lies (P := Try.prog) W3 31 31 X.B 3 i0 _ 1 8 Try.underlying31 hi hz0 hz1 hz2 rfl (by decide) (X.f (clsN p.n)) _ _ (L3.rows (clsN p.n)) ⟨w1.heap.size, 0, none⟩ 1 1 [.int .i64 (p.a : Int)] rfl (World.news_of_block hnb)
    (by intro u hu; simp at hu; subst hu; rfl) (by decide) (by unfold maxLen; omega) (by omega) (by have := L1.hB; omega) _ rfl
  obtain ⟨es, cl, hmf⟩ := L3.map_form
  have c3b : w4.cell? ⟨X.A, 3, none⟩ = some (.map (some X.bm)) := by
    rw [hgrow.cell_far ⟨X.A, 3, none⟩ (lt_of_block L3.blk) (fun e => by obtain ⟨cur, h1⟩ := L3.row_form e.symm; rw [L3.blk] at h1; simp at h1)]
    exact L3.c3
  have hM4 : ∃ D, w4.ownsMap (H := Value) Try.prog 3 heldR X.bm k D ∧ ∀ c : Nat, D.atKey (.int .i64 c) (.held (.slice none 0 0)) = .held (X.f c) := by
    obtain ⟨D, hD, hf⟩ := L3.map
    refine ⟨D, hD.kept hgrow (fun e => ?_), hf⟩
    obtain ⟨cur, h1⟩ := L3.row_form e.symm
    rw [hmf] at h1; cases h1
  obtain ⟨w5, hst, hg5, hM5⟩ := map_store hM4 hcl.2 (.slice (some ⟨ga, 0, none⟩) ((s.bk (clsN p.n)).length + 1) capa) hk
  have hbl : ∀ j, j < w1.heap.size → j ≠ X.bm → some j ≠ (X.f (clsN p.n)).ownBlock → w5.heap[j]? = w1.heap[j]? := fun j hj h1 h2 => by
    rw [hg5.block j (by have := hgrow.size; omega) (fun e => h1 (by simpa using e)), hgrow.block j (by omega) h2, ← hW3]; show (w1.alloc _).heap[_]? = _; rw [Below.heap_alloc _ _ _ hj]
  have hz5 : w1.heap.size ≤ w5.heap.size := by have := hgrow.size; have := hg5.size; omega
  have hvo : (Value.slice (some ⟨ga, 0, none⟩) ((s.bk (clsN p.n)).length + 1) capa).ownBlock = (X.f (clsN p.n)).ownBlock ∨ ∃ g, (Value.slice (some ⟨ga, 0, none⟩) ((s.bk (clsN p.n)).length + 1) capa).ownBlock = some g ∧ w1.heap.size ≤ g := by
    rcases hat with e | e
    · exact .inl e.symm
    · exact .inr ⟨ga, rfl, by omega⟩
  have hrow5 : w5.ownsRow X.B 3 1 (.slice (some ⟨ga, 0, none⟩) ((s.bk (clsN p.n)).length + 1) capa) (s.bk (clsN p.n) ++ [p.a]).length (addrs (s.bk (clsN p.n) ++ [p.a])) := by
    rw [List.length_append, List.length_singleton, show addrs (s.bk (clsN p.n) ++ [p.a]) = addrs (s.bk (clsN p.n)) ++ [.int .i64 (p.a : Int)] by simp [addrs]]
    refine ownsRow_keep hown fun j hj => hg5.block j ?_ (fun e => ?_)
    · simp [Value.ownBlock] at hj; subst hj; exact hltg
    · simp [Value.ownBlock] at hj e
      subst hj
      obtain ⟨D, ⟨es', cl', h1, _⟩, _⟩ := hM4
      rcases hown.2 with ⟨h2, _⟩ | ⟨g2, cap2, cur2, h2, _, h3, _⟩
      · cases h2
      · cases h2; rw [e, h1] at h3; cases h3
  have L5 := L1.put hbl hz5 hM5 hrow5 hvo (by rw [List.length_append]; simp; omega)
  have S5 := Step.put (X := X) (w := w1) (c := clsN p.n) (by rw [hg5.os, hgrow.os, ← hW3]; rfl) (by rw [hg5.tape, hgrow.tape, ← hW3]; rfl) (by rw [hg5.output, hgrow.output, ← hW3]; rfl) hbl hz5 hvo
  have hp5 : ({ s with bk := upd s.bk (clsN p.n) (s.bk (clsN p.n) ++ [p.a]) } : As).ps[i]? = some p := hp
  obtain ⟨g6, cap6, hv6, d1, d2, df⟩ := L5.piece hp5
  rw [show (X.put (clsN p.n) (.slice (some ⟨ga, 0, none⟩) ((s.bk (clsN p.n)).length + 1) capa)).vp = X.vp from rfl, hv] at hv6
  cases hv6
  have L6 := hide (L5.mark 0 hp5 hv)
  have S6 := hide ((Step.of_below (X := X) hb).trans (S5.trans (Step.mark (X := X.put (clsN p.n) (.slice (some ⟨ga, 0, none⟩) ((s.bk (clsN p.n)).length + 1) capa)) (o := i * 2 + 1) (v := .int .i64 0) (g := g) (by show X.vp.ownBlock = some g; rw [hv]; rfl))))
  have dfi := df (i * 2 + 1)
  obtain ⟨ao, cp, hfv⟩ : ∃ ao cp, X.f (clsN p.n) = .slice ao (s.bk (clsN p.n)).length cp := by
    rcases (L1.rows (clsN p.n)).2 with ⟨h1, h2⟩ | ⟨g2, cap2, cur2, h2, _⟩
    · exact ⟨none, 0, by rw [h2]; exact h1⟩
    · exact ⟨_, cap2, h2⟩
  rw [hfv] at hl1 hl2 hrun
  clear L5 S5 hrow5 hvo hbl hM5 hM4 hmf hnb hown hgrow hat hltg L3 hg5 hfv hi hz0 hz1 hz2 df cf hv L L1 I d1 hp5 hp hz5
  subst hW3
  generalize (s.bk (clsN p.n)).length = bl at *
  generalize clsN p.n = c at *
  go_wp2_with fail
  refine hc.mono ?_
  rintro e w2 ⟨rfl, rfl⟩
  go_wp2
  go_region_law (refine step_append_eq rfl _ _ 31 rfl rfl rfl hrun ?_)
  all_goals go_wp2
  all_goals go_ret
  all_goals exact ⟨rfl, _, by rw [HS.out]; exact L6.out, S6.out⟩
/-- Free: what it answers, and the arena behind it. -/
theorem free_any (L : Lies X w s k) (I : Inv s) (x : Int) (hx : x ≤ 9223372036854775807) (hk : k < 1000000000) :
    Calls Try.prog 40 #[X.p, .int .i64 x] w fun e w' => ∃ X', Step X X' w w' ∧
      ((beg s.ps x = none ∧ e = .returned (.int .i64 6) ∧ Lies X' w' s (k + 1)) ∨ ∃ i p, beg s.ps x = some i ∧ s.ps[i]? = some p ∧ (p.a : Int) = x ∧ 0 < p.n ∧ e = .returned (.int .i64 0) ∧ Lies X' w' (freeS s i p) (k + 1)) := by
  cases h : beg s.ps x with
  | none =>
    have hc := begin_any x w L I hx
    unfold BegE at hc
    rw [h] at hc
    refine (free_err X.p x 6 (by decide) w _ hc).mono ?_
    rintro e w' ⟨rfl, hb⟩
    exact ⟨X, Step.of_below hb, .inl ⟨rfl, rfl, (L.below hb).mono (Nat.le_succ k)⟩⟩
  | some i =>
    obtain ⟨_, p, hp, he, hn⟩ := beg_some I.row h
    subst he
    refine (free_some L I hp hn hk).mono ?_
    rintro e w' ⟨rfl, X', hL, hS⟩
    exact ⟨X', hS, .inr ⟨i, p, rfl, hp, rfl, hn, rfl, hL⟩⟩
end
end Go.Proofs.Ytimpmgbahgganaa
