/- The document's Solve. -/
import Derived.Test.YtaejhppfcmeopaaLwF
namespace Go.Proofs.Ytaejhppfcmeopaa
open Go.RowKit
/-- Between two stores: the first x of the lists in front and the first y of those behind have got v. -/
def L3 (bs : List Blk) (n v x y : Nat) (t : Nat) : List Int := LV bs n v t ++ bif (decide (t < n) && (decide (t < x) && (nd bs v).1.testBit t)) || (decide (n ≤ t) && (decide (t - n < y) && (nd bs v).2.testBit (t - n))) then [(v : Int)] else []
section
variable {bs : List Blk} {n v x y : Nat}
theorem L3_zero (t : Nat) : L3 bs n v 0 0 t = LV bs n v t := by simp [L3]
theorem L3_len (t : Nat) : (L3 bs n v x y t).length ≤ v + 1 := by
  have h1 := LV_len bs n v t
  have h2 := one_len ((decide (t < n) && (decide (t < x) && (nd bs v).1.testBit t)) || (decide (n ≤ t) && (decide (t - n < y) && (nd bs v).2.testBit (t - n)))) (v : Int)
  unfold L3
  rw [List.length_append]
  omega
theorem L3_skip1 (h : (nd bs v).1.testBit x = false) (t : Nat) : L3 bs n v (x + 1) y t = L3 bs n v x y t := by
  unfold L3
  by_cases e : t = x
  · subst e; simp [h]
  · rw [lt_succ_other e]
theorem L3_step1 (hx : x < n) (h : (nd bs v).1.testBit x = true) (t : Nat) : L3 bs n v (x + 1) y t = upf (L3 bs n v x y) x (L3 bs n v x y x ++ [(v : Int)]) t := by
  by_cases e : t = x
  · subst e
    have h1 : ¬ n ≤ t := by omega
    rw [upf_same]; unfold L3; simp [h, hx, h1]
  · rw [upf_other _ _ e]; unfold L3; rw [lt_succ_other e]
theorem L3_skip2 (h : (nd bs v).2.testBit y = false) (t : Nat) : L3 bs n v x (y + 1) t = L3 bs n v x y t := by
  unfold L3
  by_cases e : t - n = y
  · rw [e, h]; simp
  · rw [lt_succ_other e]
theorem L3_step2 (h : (nd bs v).2.testBit y = true) (t : Nat) : L3 bs n v x (y + 1) t = upf (L3 bs n v x y) (n + y) (L3 bs n v x y (n + y) ++ [(v : Int)]) t := by
  by_cases e : t = n + y
  · subst e
    have h1 : n + y - n = y := by omega
    have h2 : ¬ n + y < n := by omega
    rw [upf_same]; unfold L3; rw [h1]; simp [h, h2]
  · rw [upf_other _ _ e]; unfold L3
    by_cases e2 : n ≤ t
    · rw [lt_succ_other (show t - n ≠ y by omega)]
    · simp [e2]
theorem L3_full (hn : n ≤ 512) {t : Nat} (ht : t < n + n) : LV bs n (v + 1) t = L3 bs n v n n t := by
  rw [LV_next hn ht]; unfold L2 L1 L3
  by_cases e : t < n
  · have h1 : ¬ n ≤ t := by omega
    have h2 : t < 512 := by omega
    simp [e, h1, h2]
  · have h1 : n ≤ t := by omega
    have h2 : t - n < 512 := by omega
    have h3 : t - n < n := by omega
    simp [e, h1, h2, h3]
theorem no_need (h : ∀ (i : Nat) (b : Blk), bs[i]? = some b → hasI b.u v = false) {i : Nat} : ¬ Need bs v i := fun hn => by
  induction hn with
  | use h1 h2 => have := h _ _ h1; rw [hasI_iff.mpr h2] at this; cases this
  | pass _ _ _ _ ih => exact ih
theorem LV_none {K : Nat} (S : Snd bs K) (h : ∀ (i : Nat) (b : Blk), bs[i]? = some b → hasI b.u v = false) (hn : n ≤ 512) {t : Nat} (ht : t < n + n) : LV bs n (v + 1) t = LV bs n v t := by
  have h1 : ∀ i, (nd bs v).1.testBit i = false := fun i => by
    cases e : (nd bs v).1.testBit i with
    | false => rfl
    | true => exact absurd ((nd_in S v i).mp e) (no_need h)
  have h2 : ∀ i, (nd bs v).2.testBit i = false := fun i => by
    cases e : (nd bs v).2.testBit i with
    | false => rfl
    | true =>
      obtain ⟨_, j, _, _, h5⟩ := (nd_out S v i).mp e
      exact absurd h5 (no_need h)
  rw [LV_next hn ht]; unfold L2 L1
  rw [h1, h2]; simp
end
/-- Two lists of lists are made. -/
structure NC (w wq : World) (n A1 A2 : Nat) : Prop where
  a1 : wq.heap[A1]? = some (.cells (reps n (.slice none 0 0)) 34 (0, 0))
  a2 : wq.heap[A2]? = some (.cells (reps n (.slice none 0 0)) 34 (0, 0))
  ne : A1 ≠ A2
  lo : w.heap.size ≤ A1 ∧ w.heap.size ≤ A2
  bel : Below w.heap.size w wq
theorem NC.fm {w wq : World} {n A1 A2 : Nat} (N : NC w wq n A1 A2) {bs : List Blk} : Fm wq w.heap.size (n + n) (lbF n A1 A2) (loF n) (fun _ => .slice none 0 0) (LV bs n 0) := by
  refine ⟨fun t ht => ?_, fun s t hs ht h1 h2 => ?_, fun t _ => ?_, fun _ _ _ _ _ => .inl rfl, fun t _ => ?_, N.bel.size⟩
  · unfold lbF loF
    by_cases e : t < n
    · rw [if_pos e, if_pos e]; exact ⟨_, N.a1, reps_get e⟩
    · rw [if_neg e, if_neg e]; exact ⟨_, N.a2, reps_get (by omega)⟩
  · have hne := N.ne
    unfold lbF at h1
    unfold loF at h2
    by_cases e1 : s < n <;> by_cases e2 : t < n <;> simp only [if_pos, if_neg, e1, e2, not_false_eq_true] at h1 h2 <;> omega
  · have : LV bs n 0 t = [] := List.eq_nil_of_length_eq_zero (Nat.le_zero.mp (LV_len bs n 0 t))
    rw [this]
    exact ⟨rfl, .inl ⟨rfl, rfl⟩⟩
  · unfold lbF
    split
    · exact N.lo.1
    · exact N.lo.2
theorem nc_mk {W : World} {n a b : Nat} (h : (a = W.heap.size ∧ b = W.heap.size + 1) ∨ (a = W.heap.size + 1 ∧ b = W.heap.size)) : NC W ((W.alloc (.cells (reps n (.slice none 0 0)) 34)).alloc (.cells (reps n (.slice none 0 0)) 34)).drew n a b := by
  have e1 : ((W.alloc (.cells (reps n (.slice none 0 0)) 34)).alloc (.cells (reps n (.slice none 0 0)) 34)).heap[W.heap.size]? = some (.cells (reps n (.slice none 0 0)) 34 (0, 0)) := by rw [heap_under _ _ (by simp)]; exact heap_new _ _ rfl
  have e2 : ((W.alloc (.cells (reps n (.slice none 0 0)) 34)).alloc (.cells (reps n (.slice none 0 0)) 34)).heap[W.heap.size + 1]? = some (.cells (reps n (.slice none 0 0)) 34 (0, 0)) := heap_new _ _ (by simp)
  have hb : Below W.heap.size W ((W.alloc (.cells (reps n (.slice none 0 0)) 34)).alloc (.cells (reps n (.slice none 0 0)) 34)).drew := (((Below.refl _ _).alloc (Nat.le_refl _) _).alloc (by simp) _).drew
  rcases h with ⟨rfl, rfl⟩ | ⟨rfl, rfl⟩
  · exact ⟨e1, e2, by omega, by omega, hb⟩
  · exact ⟨e2, e1, by omega, by omega, hb⟩
section
variable {u w0 w1 : World} {N : Nat} {lb lo : Nat → Nat} {f0 f1 : Nat → Value} {L : Nat → List Int}
theorem bel_fr (hb : Below u.heap.size u w0) (F : Fm w0 u.heap.size N lb lo f0 L) (R : Fr N lb w0 f0 w1 f1) : Below u.heap.size u w1 :=
  ⟨R.os.trans hb.os, R.tape.trans hb.tape, R.output.trans hb.output, Nat.le_trans hb.size R.size, fun j hj => (R.block j (Nat.lt_of_lt_of_le hj hb.size) (fun t ht e => by have := F.lo t ht; omega) (fun t ht e => by have := ((F.rows t ht).lt j e).1; omega)).trans (hb.block j hj)⟩
theorem tr_fr {g n : Nat} {I : Nat → Bool} {B : Nat} (F : Fm w0 B N lb lo f0 L) (R : Fr N lb w0 f0 w1 f1) (T : Tr1 w0 g n I) : Tr1 w1 g n I := by
  obtain ⟨arr, h1, h2⟩ := T.c
  exact ⟨arr, (R.block g (lt_of_block h1) (F.ne_lb h1 (by decide)) (F.ne_own h1 (by decide))).trans h1, h2⟩
end
/-- What holds while v is put. -/
structure Sv (u w : World) (n A1 A2 bi bo : Nat) (I O : Nat → Bool) (f : Nat → Value) (L : Nat → List Int) : Prop where
  fm : Fm w u.heap.size (n + n) (lbF n A1 A2) (loF n) f L
  bel : Below u.heap.size u w
  i : Tr1 w bi n I
  o : Tr1 w bo n O
/-- One more is put behind the t-th list. -/
theorem Sv.push {u w : World} {n A1 A2 bi bo : Nat} {I O : Nat → Bool} {f : Nat → Value} {L : Nat → List Int} (V : Sv u w n A1 A2 bi bo I O f L) {t : Nat} {x : Int} (ht : t < n + n) (hl : (L t).length ≤ 100000) :
    ∃ g cap w', (Builtin.append_ #[34, 34] 34 #[f t, .slice (some ⟨w.heap.size, 0, none⟩) 1 1]).run Try.prog (w.alloc (.cells #[.int .i64 x] 3)) = .ok (.slice (some ⟨g, 0, none⟩) ((L t).length + 1) cap) w' ∧ w'.cell? ⟨lbF n A1 A2 t, loF n t, none⟩ = some (f t) ∧ w'.frozen? ⟨lbF n A1 A2 t, loF n t, none⟩ = false ∧ lbF n A1 A2 t < w'.heap.size ∧
      Sv u (w'.setCell ⟨lbF n A1 A2 t, loF n t, none⟩ (.slice (some ⟨g, 0, none⟩) ((L t).length + 1) cap)) n A1 A2 bi bo I O (upf f t (.slice (some ⟨g, 0, none⟩) ((L t).length + 1) cap)) (upf L t (L t ++ [x])) := by
  have hB1 := (Below.refl w.heap.size w).alloc (Nat.le_refl _) (.cells #[.int .i64 x] 3)
  have F1 := V.fm.under hB1
  obtain ⟨g, cap, w3, hr, hgrow, c3, z3, l3, F3, R3⟩ := F1.push ht (heap_new w (.cells #[.int .i64 x] 3) rfl) hl
  have R := ((Fr.refl w f).below hB1).trans R3
  exact ⟨g, cap, w3, hr, c3, z3, l3, F3, bel_fr V.bel V.fm R, tr_fr V.fm R V.i, tr_fr V.fm R V.o⟩
end Go.Proofs.Ytaejhppfcmeopaa
