/- A stack of one's own, and what each call makes of it. -/
import Derived.Test.YtjapfckadikjiaaStN
namespace Go.Proofs.Ytjapfckadikjiaa
open Go.RowKit

theorem ws_len (s : Sk) : s.ws.length = (lensP s).sum := by simp [Sk.ws, lensP, List.length_flatten]
theorem pre_lens (s : Sk) (i : Nat) : pre s.fr i = ((lensP s).take i).sum := by simp [pre, lensP, List.length_flatten, List.map_take]
theorem setFr_lens (v : Int) : ∀ (fr : List (List Wo)) (n : Nat), (setFr v fr n).map List.length = fr.map List.length
  | [], n => rfl
  | f :: r, n => by
    unfold setFr
    split
    · simp
    · simp [setFr_lens v r]
theorem lens_set (s : Sk) (n : Nat) (v : Int) : lensP (setS s n v) = lensP s := setFr_lens v s.fr n
theorem lens_push (s : Sk) (ps : List Bool) : lensP (pushS s ps) = lensP s ++ [ps.length] := by simp [lensP, pushS]
theorem lens_pop (s : Sk) : lensP (popS s) = (lensP s).dropLast := by simp [lensP, popS]
theorem lens_move (s : Sk) (b : Int) : lensP (moveS s b) = lensP s := by simp [lensP, moveS, Function.comp_def]
theorem lens_len (s : Sk) : (lensP s).length = s.fr.length := by simp [lensP]
theorem lens_at {s : Sk} {i n : Nat} (h : (lensP s)[i]? = some n) : ∃ f, s.fr[i]? = some f ∧ f.length = n := by
  simp [lensP] at h
  exact h
/-- No word is a pointer. -/
def NoP (s : Sk) : Prop := ∀ u ∈ s.ws, u.p = false
theorem NoP.set {s : Sk} (h : NoP s) (n : Nat) (v : Int) : NoP (setS s n v) := by
  intro u hu
  rw [setS_ws] at hu
  obtain ⟨i, hi⟩ := List.mem_iff_getElem?.mp hu
  rw [List.getElem?_modify] at hi
  cases h1 : s.ws[i]? with
  | none => rw [h1] at hi; simp at hi
  | some u0 =>
    rw [h1] at hi
    have h2 := h u0 (List.mem_of_getElem? h1)
    simp at hi
    split at hi
    · subst hi; exact h2
    · subst hi; exact h2
theorem NoP.push {s : Sk} (h : NoP s) {ps : List Bool} (hp : ∀ q ∈ ps, q = false) : NoP (pushS s ps) := by
  intro u hu
  rw [pushS_ws] at hu
  rcases List.mem_append.mp hu with h1 | h1
  · exact h u h1
  · obtain ⟨q, hq, rfl⟩ := List.mem_map.mp h1
    exact hp q hq
theorem NoP.pop {s : Sk} (h : NoP s) : NoP (popS s) := by
  intro u hu
  rw [popS_ws] at hu
  exact h u (List.mem_of_mem_take hu)
theorem NoP.named {s : Sk} (h : NoP s) (a n : Nat) : namedB s a n = false := by
  unfold namedB
  rw [List.any_eq_false]
  intro u hu
  simp [isN, h u (List.mem_of_mem_take hu)]

/-- A stack of one's own: it lies behind all that was in W. -/
def Has (W w : World) (A : Nat) (s : Sk) : Prop := ∃ X : Sx, X.A = A ∧ X.B = W.heap.size ∧ Sl X w s ∧ Below W.heap.size W w ∧ SInv s
abbrev ptr (A : Nat) : Value := .pointer (some ⟨A, 0, none⟩)
section
variable {W w w' : World} {A : Nat} {s : Sk}
theorem Has.bel (h : Has W w A s) : Below W.heap.size W w := by obtain ⟨X, _, _, _, b, _⟩ := h; exact b
theorem Has.inv (h : Has W w A s) : SInv s := by obtain ⟨X, _, _, _, _, i⟩ := h; exact i
theorem Has.below (h : Has W w A s) (hb : Below w.heap.size w w') : Has W w' A s := by
  obtain ⟨X, h1, h2, h3, h4, h5⟩ := h
  exact ⟨X, h1, h2, h3.below hb, h4.trans (hb.mono h4.size), h5⟩
theorem has_new (b m : Int) (w : World) (h : newB b m = true) :
    Calls Try.prog 7 #[.int .i64 b, .int .i64 m] w fun e w' => e = .returned (.tuple #[ptr w.heap.size, .int .i64 0]) ∧ Has w w' w.heap.size (newS b m) :=
  (new_any b m w h w.heap.size (Nat.le_refl _)).mono fun _ _ ⟨he, hl, hb⟩ => ⟨he, newX w.heap.size w, rfl, rfl, hl, hb, new_inv h⟩
theorem Has.get (h : Has W w A s) (x : Int) (hx : x ≤ 9223372036854775807) :
    Calls Try.prog 16 #[ptr A, .int .i64 x] w fun e w' => e = two (getP s x) ∧ Has W w' A s := by
  have h0 := h
  obtain ⟨X, rfl, h2, h3, h4, h5⟩ := h
  exact (get_any x w h3 h5 hx).mono fun _ _ ⟨he, hb⟩ => ⟨he, h0.below hb⟩
theorem Has.addr (h : Has W w A s) (x y : Int) :
    Calls Try.prog 14 #[ptr A, .int .i64 x, .int .i64 y] w fun e w' => e = two (addrP s x y) ∧ Has W w' A s := by
  have h0 := h
  obtain ⟨X, rfl, h2, h3, h4, h5⟩ := h
  exact (addr_any x y w h3 h5).mono fun _ _ ⟨he, hb⟩ => ⟨he, h0.below hb⟩
theorem Has.frames (h : Has W w A s) :
    Calls Try.prog 23 #[ptr A] w fun e w' => e = .returned (.slice (some ⟨w.heap.size, 0, none⟩) (lensP s).length (lensP s).length) ∧ w'.heap[w.heap.size]? = some (.cells (addrs (lensP s)).toArray 3 (0, 0)) ∧ Has W w' A s := by
  have h0 := h
  obtain ⟨X, rfl, h2, h3, h4, h5⟩ := h
  rw [lens_len]
  exact (frames_any w h3 h5).mono fun _ _ ⟨he, hl, hb⟩ => ⟨he, hl, h0.below hb⟩
theorem SInv.setP {s : Sk} (I : SInv s) (x : Int) {v : Int} (hv : v ≤ 9223372036854775807) : SInv (setP s x v).2 := by
  unfold Go.Proofs.Ytjapfckadikjiaa.setP
  split
  · exact I
  · exact I.set hv
theorem Has.set (h : Has W w A s) (x v : Int) (hx : x ≤ 9223372036854775807) (hv : v ≤ 9223372036854775807) :
    Calls Try.prog 18 #[ptr A, .int .i64 x, .int .i64 v] w fun e w' => e = .returned (.int .i64 (setP s x v).1) ∧ Has W w' A (setP s x v).2 := by
  obtain ⟨X, rfl, h2, h3, h4, h5⟩ := h
  refine (set_any x v w h3 h5 hx).mono fun _ w' ⟨he, hl, hs⟩ => ⟨he, X, rfl, h2, hl, ?_, h5.setP x hv⟩
  rw [← h2] at h4 ⊢
  exact hs.below h3 h4
/-- A list of truths that is no part of the stack: made before it, or in a block of another type. -/
def Bools (W w : World) (v : Value) (ps : List Bool) : Prop :=
  (ps = [] ∧ ∃ ao cap, v = .slice ao 0 cap) ∨ ∃ b off cap, v = .slice (some ⟨b, off, none⟩) ps.length cap ∧ b < w.heap.size ∧ (b < W.heap.size ∨ ∃ cur, w.heap[b]? = some (.cells cur 4 (0, 0))) ∧ ∀ i q, ps[i]? = some q → w.cell? ⟨b, off + i, none⟩ = some (.bool q)
theorem Bools.at {v : Value} {ps : List Bool} {X : Sx} (h : Bools W w v ps) (hB : X.B = W.heap.size) (L : Sl X w s) : BoolsAt X w v ps := by
  rcases h with h | ⟨b, off, cap, h1, h2, h3, h4⟩
  · exact .inl h
  · refine .inr ⟨b, off, cap, h1, h2, fun ho => ?_, h4⟩
    rcases h3 with h3 | ⟨cur, h3⟩
    · have := (L.own_lt ho).1; omega
    · rcases ho with e | e | e
      · rw [e, L.blk] at h3; simp at h3
      · rcases L.wform with ⟨_, h5⟩ | ⟨g, c, cu, h5, h6, _⟩
        · rw [h5] at e; cases e
        · rw [h5] at e; cases e; rw [h6] at h3; simp at h3
      · rcases L.sform with ⟨_, h5⟩ | ⟨g, c, cu, h5, h6, _⟩
        · rw [h5] at e; cases e
        · rw [h5] at e; cases e; rw [h6] at h3; simp at h3
def pushP (s : Sk) (ps : List Bool) : Int × Sk := if pushOk s ps.length then (0, pushS s ps) else (7, s)
theorem Has.push (h : Has W w A s) {v : Value} {ps : List Bool} (hv : Bools W w v ps) (hl : ps.length ≤ 1000000000) :
    Calls Try.prog 10 #[ptr A, v] w fun e w' => e = .returned (.int .i64 (pushP s ps).1) ∧ Has W w' A (pushP s ps).2 := by
  have h0 := h
  obtain ⟨X, rfl, h2, h3, h4, h5⟩ := h
  have hat := hv.at h2 h3
  unfold pushP
  cases hk : pushOk s ps.length with
  | true =>
    refine (push_ok w h3 h5 hat hk).mono ?_
    rintro e w' ⟨rfl, X', hL, hS⟩
    refine ⟨rfl, X', hS.A, hS.B.trans h2, hL, ?_, h5.push hk⟩
    rw [← h2] at h4 ⊢
    exact hS.below h3 h4
  | false =>
    obtain ⟨ao, cap, hf⟩ := hat.form
    refine (push_full w h3 h5 hf hl hk).mono ?_
    rintro e w' ⟨rfl, hb⟩
    exact ⟨rfl, h0.below hb⟩
def popP (s : Sk) : Int × Sk :=
  if s.fr.length = 0 then (6, s) else if namedB s (pre s.fr (s.fr.length - 1)) (pre s.fr (s.fr.length - 1)) then (1, s) else (0, popS s)
theorem Has.pop (h : Has W w A s) : Calls Try.prog 12 #[ptr A] w fun e w' => e = .returned (.int .i64 (popP s).1) ∧ Has W w' A (popP s).2 := by
  have h0 := h
  obtain ⟨X, rfl, h2, h3, h4, h5⟩ := h
  unfold popP
  by_cases hn : s.fr.length = 0
  · rw [if_pos hn]
    refine (pop_none w h3 (List.eq_nil_of_length_eq_zero hn)).mono ?_
    rintro e w' ⟨rfl, hb⟩
    exact ⟨rfl, h0.below hb⟩
  · rw [if_neg hn]
    refine (pop_some w h3 h5 (n := s.fr.length - 1) (by omega)).mono ?_
    rintro e w' (⟨hb, rfl, hbel⟩ | ⟨hb, rfl, X', hL, hS⟩)
    · rw [if_pos hb]; exact ⟨rfl, h0.below hbel⟩
    · rw [if_neg (by rw [hb]; decide)]
      refine ⟨rfl, X', hS.A, hS.B.trans h2, hL, ?_, h5.pop⟩
      rw [← h2] at h4 ⊢
      exact hS.below h3 h4
def moveP (s : Sk) (b : Int) : (Int × Int) × Sk := if allowB b then ((cntP s s.ws.length, 0), moveS s b) else ((0, 1), s)
theorem Has.move (h : Has W w A s) (b : Int) : Calls Try.prog 20 #[ptr A, .int .i64 b] w fun e w' => e = two (moveP s b).1 ∧ Has W w' A (moveP s b).2 := by
  have h0 := h
  obtain ⟨X, rfl, h2, h3, h4, h5⟩ := h
  unfold moveP
  cases hb : allowB b with
  | true =>
    refine (move_ok w h3 h5 hb).mono ?_
    rintro e w' ⟨rfl, hL, hS⟩
    have hbb := of_decide_eq_true hb
    refine ⟨rfl, X, rfl, h2, hL, ?_, h5.move hbb.1 hbb.2⟩
    rw [← h2] at h4 ⊢
    exact hS.below h3 h4
  | false =>
    refine (move_arg _ b w (.inr ⟨⟨_, rfl⟩, hb⟩)).mono ?_
    rintro e w' ⟨rfl, hbel⟩
    exact ⟨rfl, h0.below hbel⟩
end
end Go.Proofs.Ytjapfckadikjiaa
