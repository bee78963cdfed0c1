/- Collect. -/
import Derived.Test.YtimpmgbahgganaaHpH
namespace Go.Proofs.Ytimpmgbahgganaa
open Go.RowKit Go.Maps

/-- A delete whose run is known, at the head of a region's operations. -/
theorem wpList_delete_eq {P : Program} {w : World} {ops : Array Oper} {rest : List Oper} {o : Oper} {a : Act} {Q : Exit → Act → World → Prop} (hgd : o.guard = none) (s x : Operand) (t k : TypeId)
    (ho : o.op = .call { callee := .builtin .delete, args := #[s, x], argTypes := #[t, k] }) {v1 v2 v : Value} {w' : World} (hs : a.eval s = v1) (hx : a.eval x = v2) (hr : (Builtin.delete_ #[t, k] o.type #[v1, v2]).run P w = .ok v w')
    (h : wpList P ops Q rest (a.put o.dst v) w') : wpList P ops Q (o :: rest) a w := by
  refine wpList_plain hgd fun K' hK' => ?_
  unfold Oper.wp execOp
  simp only [ho, resolve, invoke, builtin, Sem.run_bind, Sem.run_pure, Result.andThen_ok, List.map_toArray, List.map_cons, List.map_nil, hs, hx, hr]
  exact hK' _ _ h
section
variable {Y : Hh} {w : World} {h : Hs} {k : Nat}
theorem ObMap.drop {bo : Nat} {ob : Nat → Option (Nat × Nat)} (M : ObMap w bo k ob) {x : Nat} (hx : x ≤ 65536) (ty : TypeId) :
    ∃ w1, (Builtin.delete_ #[73, 3] ty #[.map (some bo), .int .i64 x]).run Try.prog w = .ok (.tuple #[]) w1 ∧ w.grownBy w1 (some bo) ∧ ObMap w1 bo k (upd ob x none) := by
  obtain ⟨D, hD, hh, hf⟩ := M
  obtain ⟨w1, h1, h2, h3⟩ := hD.drop backs_keyed Try.underlying73 (key_int x hx) ty
  refine ⟨w1, h1, h3.grown, _, h2, fun y => ?_, fun a t' n' ho z => ?_⟩
  · by_cases hy : y = x
    · subst hy
      rw [Maps.has_del_same]
      constructor
      · intro h; cases h
      · rintro ⟨a, ha, hs⟩
        have : a = x := by omega
        subst this; rw [upd_same] at hs; cases hs
    · rw [Maps.has_del_other (int_ne hy), hh y]
      constructor
      · rintro ⟨a, rfl, hs⟩
        exact ⟨a, rfl, by rw [upd_other _ _ (fun e => hy (by rw [e]))]; exact hs⟩
      · rintro ⟨a, rfl, hs⟩
        rw [upd_other _ _ (fun e => hy (by rw [e]))] at hs
        exact ⟨a, rfl, hs⟩
  · by_cases ha : a = x
    · subst ha; rw [upd_same] at ho; cases ho
    · rw [upd_other _ _ ha] at ho
      rw [Maps.atKey_del_other (int_ne (fun e => ha (by omega)))]
      exact hf a t' n' ho z
theorem collect_nil (v : Value) (w : World) : Calls Try.prog 19 #[.pointer none, v] w fun e w' => e = two (0, 1) ∧ w' = w := by
  go_enter Try.func19, Try.ntmps19
  go_wp2
  go_ret2
  exact ⟨rfl, rfl⟩
/-- What goes of the first j objects. -/
def goneN (h : Hs) (F : Nat → Bool) (j : Nat) : List Nat := ((liveL h.s.ps).take j).filter fun a => !F a
theorem goneN_succ {F : Nat → Bool} {j a : Nat} (ha : (liveL h.s.ps)[j]? = some a) : goneN h F (j + 1) = goneN h F j ++ if F a = true then [] else [a] := by
  unfold goneN
  rw [List.take_add_one, ha, List.filter_append]
  cases hf : F a <;> simp [hf]
theorem goneN_all (F : Nat → Bool) : goneN h F (liveL h.s.ps).length = gone h F := by unfold goneN gone; rw [List.take_length]
theorem goneN_le (F : Nat → Bool) (j : Nat) : (goneN h F j).length ≤ j := by
  unfold goneN
  exact Nat.le_trans (List.length_filter_le _ _) (by simp; omega)
theorem goneN_inv (I : HInv h) (F : Nat → Bool) (j : Nat) : HInv (freeAll h (goneN h F j)) ∧ ∀ b, (freeAll h (goneN h F j)).ob b = if b ∈ goneN h F j then none else h.ob b := by
  have hsub : (goneN h F j).Sublist (liveL h.s.ps) := List.filter_sublist.trans (List.take_sublist _ _)
  obtain ⟨h1, h2, _⟩ := freeAll_inv I (goneN h F j) ((live_nodup I).sublist hsub) (fun a ha => (live_iff I a).1 (hsub.subset ha))
  exact ⟨h1, h2⟩
theorem goneN_not (I : HInv h) (F : Nat → Bool) {j a : Nat} (ha : (liveL h.s.ps)[j]? = some a) : a ∉ goneN h F j := by
  intro hm
  have hm' := (List.mem_filter.1 hm).1
  have hnd := live_nodup I
  rw [← List.take_append_drop j (liveL h.s.ps), List.nodup_append] at hnd
  refine hnd.2.2 a hm' a ?_ rfl
  have : ((liveL h.s.ps).drop j)[0]? = some a := by rw [List.getElem?_drop]; simpa using ha
  exact List.mem_of_getElem? this
/-- Between two rounds of a collection. -/
structure Cm (Y : Hh) (w wr : World) (h : Hs) (k : Nat) (F : Nat → Bool) (j : Nat) : Prop where
  ex : ∃ Y', HLies Y' wr (freeAll h (goneN h F j)) (k + j) ∧ HStep Y Y' w wr
theorem Cm.under {wr w1 : World} {F : Nat → Bool} {j : Nat} (C : Cm Y w wr h k F j) (hb : Below wr.heap.size wr w1) : Cm Y w w1 h k F j := by
  obtain ⟨Y', L', S⟩ := C.ex
  exact ⟨Y', L'.below hb, S.trans (HStep.of_below hb)⟩
theorem Cm.stay {wr : World} {F : Nat → Bool} {j a : Nat} (C : Cm Y w wr h k F j) (ha : (liveL h.s.ps)[j]? = some a) (hf : F a = true) : Cm Y w wr h k F (j + 1) := by
  obtain ⟨Y', L', S⟩ := C.ex
  refine ⟨Y', ?_, S⟩
  rw [goneN_succ ha, if_pos hf, List.append_nil]
  exact L'.mono (by omega)
/-- Free, and then the object is struck from the map. -/
theorem Cm.free {wr : World} {F : Nat → Bool} {j a : Nat} (C : Cm Y w wr h k F j) (I : HInv h) (ha : (liveL h.s.ps)[j]? = some a) (hf : F a = false) (hk : k + j < 1000000000) :
    ∃ bo XA, wr.cell? ⟨Y.H, 0, none⟩ = some XA ∧ Calls Try.prog 40 #[XA, .int .i64 a] wr fun e w2 => e = .returned (.int .i64 0) ∧ w2.cell? ⟨Y.H, 2, none⟩ = some (.map (some bo)) ∧ ∃ w3, (Builtin.delete_ #[73, 3] 0 #[.map (some bo), .int .i64 a]).run Try.prog w2 = .ok (.tuple #[]) w3 ∧ Hid (Cm Y w w3 h k F (j + 1)) := by
  obtain ⟨Y', L', S⟩ := C.ex
  obtain ⟨Ij, hob⟩ := goneN_inv I F j
  obtain ⟨⟨t, n⟩, ho⟩ := (live_iff I a).1 (List.mem_of_getElem? ha)
  have hoj : (freeAll h (goneN h F j)).ob a = some (t, n) := by rw [hob a, if_neg (goneN_not I F ha)]; exact ho
  obtain ⟨f, i, p, O, hbeg, hpn, hfr⟩ := Ij.beg hoj
  have haw : a ≤ 65536 := by have := O.aw2; omega
  have hfree := free_any L'.L Ij.inv a (by omega) hk
  refine ⟨Y'.bo, Y'.X.p, by have := L'.c0; rw [S.H] at this; exact this, hfree.mono ?_⟩
  rintro e w2 ⟨X', St, hh⟩
  rcases hh with ⟨h1, _⟩ | ⟨i2, p2, h1, h2, h3, h4, he, hl⟩
  · rw [hbeg] at h1; cases h1
  · rw [hbeg] at h1; cases h1
    rw [O.ps] at h2; cases h2
    have L2 := L'.step St hl (Nat.le_succ _)
    obtain ⟨w3, hrun, hgrow, M3⟩ := L2.map.drop haw 0
    obtain ⟨L3, S3⟩ := L2.turned hgrow M3 (Nat.le_refl _)
    refine ⟨he, ?_, w3, hrun, ⟨{ Y' with X := X' }, ?_, (S.trans (HStep.of_step St)).trans S3⟩⟩
    · have := L2.c2
      rw [show ({ Y' with X := X' } : Hh).H = Y.H from S.H] at this
      exact this
    · rw [goneN_succ ha, if_neg (by rw [hf]; simp), freeAll_snoc, hfr]
      exact L3
end
end Go.Proofs.Ytimpmgbahgganaa
