/- One instruction: plain. -/
import Derived.Test.YtkdojpnihinpbaaDoorVfW
namespace Go.Proofs.YtkdojpnihinpbaaDoor
/-- What looking at an instruction comes to. -/
def lkR (p : Pg) (f : Fd) (x : Nat) (i : In3) (s : List Int) (F : Fl) : Except Int Fl := match lookP p f x i s with
  | .error e => .error e
  | .ok (b, ns) => comesP b ns { F with mo := max F.mo b.length }
section
variable {p : Pg} {f : Fd} {x : Nat} {i : In3} {s : List Int} {F : Fl}
theorem lk1 (h : namesB p f i = false) : lkR p f x i s F = .error 11 := by unfold lkR lookP; simp [h]
theorem lk2 (h : namesB p f i = true) (h2 : s.length < (takesP p f i).n ∨ (i.o = 24 ∧ s.length ≠ (takesP p f i).n)) : lkR p f x i s F = .error 9 := by
  unfold lkR lookP
  dsimp only
  rw [if_neg (by rw [h]; simp), if_pos h2]
theorem lk3 (h : namesB p f i = true) (h2 : ¬ (s.length < (takesP p f i).n ∨ (i.o = 24 ∧ s.length ≠ (takesP p f i).n))) (h3 : (takesP p f i).fine (s.drop (s.length - (takesP p f i).n)) = false) : lkR p f x i s F = .error 8 := by
  unfold lkR lookP
  dsimp only
  rw [if_neg (by rw [h]; simp), if_neg h2, if_pos h3]
theorem lk4 (h : namesB p f i = true) (h2 : ¬ (s.length < (takesP p f i).n ∨ (i.o = 24 ∧ s.length ≠ (takesP p f i).n))) (h3 : (takesP p f i).fine (s.drop (s.length - (takesP p f i).n)) = true) {e : Int} (h4 : putsP p f i ((s.drop (s.length - (takesP p f i).n)).getLast?.getD 0) ((s.drop (s.length - (takesP p f i).n)).head?.getD 0) = .error e) : lkR p f x i s F = .error e := by
  unfold lkR lookP
  dsimp only
  rw [if_neg (by rw [h]; simp), if_neg h2, if_neg (by rw [h3]; simp), h4]
theorem lk5 (h : namesB p f i = true) (h2 : ¬ (s.length < (takesP p f i).n ∨ (i.o = 24 ∧ s.length ≠ (takesP p f i).n))) (h3 : (takesP p f i).fine (s.drop (s.length - (takesP p f i).n)) = true) {l : List Int} (h4 : putsP p f i ((s.drop (s.length - (takesP p f i).n)).getLast?.getD 0) ((s.drop (s.length - (takesP p f i).n)).head?.getD 0) = .ok l) (h5 : (nextsP i x).all (fun y => inB y f.co.length) = false) : lkR p f x i s F = .error 10 := by
  unfold lkR lookP
  dsimp only
  rw [if_neg (by rw [h]; simp), if_neg h2, if_neg (by rw [h3]; simp), h4]
  dsimp only
  rw [if_neg (by rw [h5]; simp)]
theorem lk6 (h : namesB p f i = true) (h2 : ¬ (s.length < (takesP p f i).n ∨ (i.o = 24 ∧ s.length ≠ (takesP p f i).n))) (h3 : (takesP p f i).fine (s.drop (s.length - (takesP p f i).n)) = true) {l : List Int} (h4 : putsP p f i ((s.drop (s.length - (takesP p f i).n)).getLast?.getD 0) ((s.drop (s.length - (takesP p f i).n)).head?.getD 0) = .ok l) (h5 : (nextsP i x).all (fun y => inB y f.co.length) = true) : lkR p f x i s F = comesP (s.take (s.length - (takesP p f i).n) ++ l) (nextsP i x) { F with mo := max F.mo (s.take (s.length - (takesP p f i).n) ++ l).length } := by
  unfold lkR lookP
  dsimp only
  rw [if_neg (by rw [h]; simp), if_neg h2, if_neg (by rw [h3]; simp), h4]
  dsimp only
  rw [if_pos h5]
theorem fine_at {m : Must} {ks : List Int} (h : m.fine ks = true) {j : Nat} (hj : j < ks.length) : m.at j ((ks[1]?).getD 0) ((ks[j]?).getD 0) = true := by
  unfold Must.fine at h
  rw [List.all_eq_true] at h
  exact h j (List.mem_range.mpr hj)
theorem takes_14 (h : i.o = 14 ∨ i.o = 16) : takesP p f i = .each [ptrB] := by unfold takesP; rw [if_neg (by omega), if_neg (by omega), if_neg (by omega), if_neg (by omega), if_neg (by omega), if_pos h]
theorem takes_15 (h : i.o = 15) : takesP p f i = .each [ptrB, anyB] := by unfold takesP; rw [if_neg (by omega), if_neg (by omega), if_neg (by omega), if_neg (by omega), if_neg (by omega), if_neg (by omega), if_pos h]
theorem takes_17 (h : i.o = 17) : takesP p f i = .each [arrB, exB 0] := by unfold takesP; rw [if_neg (by omega), if_neg (by omega), if_neg (by omega), if_neg (by omega), if_neg (by omega), if_neg (by omega), if_neg (by omega), if_pos h]
theorem takes_6 (h : i.o = 6) : takesP p f i = .each [anyB] := by unfold takesP; rw [if_neg (by omega), if_pos (by omega)]
theorem low_ok {ks : List Int} (hl : ks.length = (takesP p f i).n) (hk : ∀ k ∈ ks, isKB p.ty.length k = true) (hf : (takesP p f i).fine ks = true) : LowOk p.ty.length i (ks.head?.getD 0) := by
  have hh : 0 < ks.length → ks.head?.getD 0 = (ks[0]?).getD 0 ∧ isKB p.ty.length (ks.head?.getD 0) = true := fun h => by
    cases ks with
    | nil => simp at h
    | cons k r => exact ⟨rfl, hk k (by simp)⟩
  refine ⟨fun h => ?_, fun h => ?_, fun h => ?_⟩
  · rcases Classical.em (i.o = 15) with h15 | h15
    · rw [takes_15 h15] at hl hf
      have h0 : 0 < ks.length := by have : ks.length = 2 := hl; omega
      obtain ⟨e1, e2⟩ := hh h0
      refine ⟨e2, ?_⟩
      rw [e1]
      exact fine_at hf h0
    · have h14 : i.o = 14 ∨ i.o = 16 := by omega
      rw [takes_14 h14] at hl hf
      have h0 : 0 < ks.length := by have : ks.length = 1 := hl; omega
      obtain ⟨e1, e2⟩ := hh h0
      refine ⟨e2, ?_⟩
      rw [e1]
      exact fine_at hf h0
  · rw [takes_17 h] at hl hf
    have h0 : 0 < ks.length := by have : ks.length = 2 := hl; omega
    obtain ⟨e1, e2⟩ := hh h0
    refine ⟨e2, ?_⟩
    rw [e1]
    exact fine_at hf h0
  · rw [takes_6 h] at hl
    have h0 : 0 < ks.length := by have : ks.length = 1 := hl; omega
    exact (hh h0).2
theorem field_free (H : Hok p) {k y v : Int} (hf : fieldP p k y = some v) : freeB p.ty.length v = true := by
  unfold fieldP at hf
  dsimp only at hf
  split at hf
  · cases ht : p.ty[((bareK k - 2) / 2).toNat]? with
    | none => rw [ht] at hf; simp at hf
    | some l =>
      rw [ht] at hf
      exact (H.ty l (List.mem_of_getElem? ht)).2.2 v (List.mem_of_getElem? hf)
  · cases hf
theorem kb_loc {n t : Nat} (h : t < n) (hn : n ≤ 1024) (c : Int) (hc : c = 0 ∨ c = 1048576) : isKB n (c + 2 + 2 * (t : Int)) = true := by
  unfold isKB
  rw [decide_eq_true_eq]
  right; right
  unfold bareK
  rcases hc with rfl | rfl
  · rw [if_neg (by omega)]; omega
  · rw [if_pos (by omega)]; omega
theorem kb_arr {n t : Nat} (h : t < n) (hn : n ≤ 1024) : isKB n (3 + 2 * (t : Int)) = true := by
  unfold isKB
  rw [decide_eq_true_eq]
  right; right
  unfold bareK
  rw [if_neg (by omega)]
  omega
/-- What is put are kinds, and not many. -/
theorem puts_kb (H : Hok p) (hf : FdOk p f) (hnm : namesB p f i = true) {top low : Int} (hlow : LowOk p.ty.length i low) {l : List Int} (h : putsP p f i top low = .ok l) : (∀ k ∈ l, isKB p.ty.length k = true) ∧ l.length ≤ 4096 := by
  have hn := H.nt
  obtain ⟨C, hC⟩ : ∃ C : Except Int (List Int) → Prop, C = fun r => ∀ l, r = .ok l → (∀ k ∈ l, isKB p.ty.length k = true) ∧ l.length ≤ 4096 := ⟨_, rfl⟩
  have one : ∀ k, isKB p.ty.length k = true → C (.ok [k]) := fun k hk => by
    rw [hC]
    intro l hl
    cases hl
    exact ⟨fun j hj => by simp at hj; subst hj; exact hk, by simp⟩
  have err : ∀ e, C (.error e) := fun e => by
    rw [hC]
    intro l hl
    cases hl
  have nil : C (.ok []) := by
    rw [hC]
    intro l hl
    cases hl
    exact ⟨fun j hj => (by cases hj), by simp⟩
  suffices hs : C (putsP p f i top low) by
    rw [hC] at hs
    exact hs l h
  have nty : ∀ {y : Int}, inB y p.ty.length = true → ∃ t : Nat, y = (t : Int) ∧ t < p.ty.length := fun h => in_nat h
  unfold putsP
  refine ite_elim C (fun _ => one 0 (kb_0 _)) fun _ => ?_
  refine ite_elim C (fun h => one _ ?_) fun _ => ?_
  · unfold namesB at hnm
    rw [if_pos h, Bool.and_eq_true] at hnm
    exact hnm.2
  refine ite_elim C (fun h => one _ ?_) fun _ => ?_
  · have h2 : inB i.a f.lo.length = true := by unfold namesB at hnm; rw [if_neg (by omega), if_pos (by omega)] at hnm; exact hnm
    obtain ⟨k, hk, hlt⟩ := in_nat h2
    rw [hk, Int.toNat_natCast, List.getElem?_eq_getElem hlt]
    exact hf.lo _ (List.getElem_mem hlt)
  refine ite_elim C (fun h => ?_) fun _ => ?_
  · rw [hC]
    intro l hl
    cases hl
    have := hlow.2.2 h
    exact ⟨fun j hj => by simp at hj; subst hj; exact this, by simp⟩
  refine ite_elim C (fun h => ?_) fun _ => ?_
  · have h2 : inB i.a p.ty.length = true := by unfold namesB at hnm; rw [if_neg (by omega), if_neg (by omega), if_neg (by omega), if_pos (by omega)] at hnm; exact hnm
    obtain ⟨t, ht, hlt⟩ := nty h2
    rw [ht]
    have := kb_loc hlt hn 0 (.inl rfl)
    rw [Int.zero_add] at this
    exact one _ this
  refine ite_elim C (fun h => ?_) fun _ => ?_
  · have h2 : inB i.a p.ty.length = true := by unfold namesB at hnm; rw [if_neg (by omega), if_neg (by omega), if_neg (by omega), if_pos (by omega)] at hnm; exact hnm
    obtain ⟨t, ht, hlt⟩ := nty h2
    rw [ht]
    exact one _ (kb_arr hlt hn)
  refine ite_elim C (fun h => ?_) fun _ => ?_
  · have h2 : inB i.a f.ar.length = true := by unfold namesB at hnm; rw [if_neg (by omega), if_neg (by omega), if_neg (by omega), if_neg (by omega), if_pos h] at hnm; exact hnm
    obtain ⟨k, hk, hlt⟩ := in_nat h2
    rw [hk, Int.toNat_natCast, List.getElem?_eq_getElem hlt, Option.getD_some]
    obtain ⟨t, ht, hlt2⟩ := nty (hf.ar _ (List.getElem_mem hlt))
    rw [ht]
    exact one _ (kb_loc hlt2 hn _ (.inr rfl))
  refine ite_elim C (fun h => ?_) fun _ => ?_
  · cases hfd : fieldP p low i.a with
    | none => exact err _
    | some k => exact one k (free_kb (field_free H hfd))
  refine ite_elim C (fun h => ?_) fun _ => ?_
  · cases hfd : fieldP p low i.a with
    | none => exact err _
    | some k => exact ite_elim C (fun _ => nil) (fun _ => err _)
  refine ite_elim C (fun h => ?_) fun _ => ?_
  · have h2 : inB i.b p.ty.length = true := by unfold namesB at hnm; rw [if_neg (by omega), if_neg (by omega), if_neg (by omega), if_neg (by omega), if_neg (by omega), if_pos h] at hnm; exact hnm
    obtain ⟨t, ht, hlt⟩ := nty h2
    cases hfd : fieldP p low i.a with
    | none => exact err _
    | some k =>
      refine ite_elim C (fun _ => ?_) (fun _ => err _)
      rw [ht]
      exact one _ (kb_loc hlt hn _ (by unfold locK; split <;> simp))
  refine ite_elim C (fun h => one _ ?_) fun _ => ?_
  · obtain ⟨h3, h4⟩ := hlow.2.1 h
    unfold arrB at h4
    have h5 := of_decide_eq_true h4
    unfold isKB at h3 ⊢
    rw [decide_eq_true_eq] at h3 ⊢
    right; right
    unfold bareK at h3 h5 ⊢
    by_cases hk : 1048576 ≤ low
    · rw [if_pos hk] at h3 h5
      by_cases hk2 : 1048576 ≤ low - 1
      · rw [if_pos hk2]; omega
      · omega
    · rw [if_neg hk] at h3 h5
      rw [if_neg (by omega)]
      omega
  refine ite_elim C (fun _ => one 1 (kb_1 _)) fun _ => ?_
  refine ite_elim C (fun h => ?_) fun _ => ?_
  · have h2 : inB i.a p.fu.length = true := by unfold namesB at hnm; rw [if_neg (by omega), if_neg (by omega), if_neg (by omega), if_neg (by omega), if_neg (by omega), if_neg (by omega), if_pos h] at hnm; exact hnm
    obtain ⟨m, hm, hlt⟩ := in_nat h2
    obtain ⟨g, hg⟩ : ∃ g, p.fu[m]? = some g := ⟨p.fu[m], by simp⟩
    have hgo := H.fu g (List.mem_of_getElem? hg)
    rw [hm, call_at hg, hC]
    intro l hl
    cases hl
    exact ⟨fun k hk => free_kb (hgo.re k hk), hgo.nr⟩
  refine ite_elim C (fun h => ?_) fun _ => ?_
  · have h2 : inB i.a p.ta.length = true := by unfold namesB at hnm; rw [if_neg (by omega), if_neg (by omega), if_neg (by omega), if_neg (by omega), if_neg (by omega), if_neg (by omega), if_neg (by omega), if_pos h] at hnm; exact hnm
    obtain ⟨t, ht, hlt⟩ := in_nat h2
    obtain ⟨tb, m0, g, h3, h4, h5, h6⟩ := table_at H hlt
    have hgo := H.fu g (List.mem_of_getElem? h5)
    rw [ht, h6, hC]
    intro l hl
    cases hl
    exact ⟨fun k hk => free_kb (hgo.re k hk), hgo.nr⟩
  refine ite_elim C (fun h => ?_) fun _ => nil
  have h2 : inB i.b p.ty.length = true := by
    unfold namesB at hnm
    rw [if_neg (by omega), if_neg (by omega), if_neg (by omega), if_neg (by omega), if_neg (by omega), if_neg (by omega), if_neg (by omega), if_neg (by omega), if_pos h] at hnm
    simp only [Bool.and_eq_true] at hnm
    exact hnm.1.2
  obtain ⟨t, ht, hlt⟩ := nty h2
  rw [ht]
  exact one _ (kb_arr hlt hn)
end
end Go.Proofs.YtkdojpnihinpbaaDoor
