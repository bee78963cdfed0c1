/- Both stacks beside one another. -/
import Derived.Test.YtjapfckadikjiaaRsJ
namespace Go.Proofs.Ytjapfckadikjiaa
open Go.RowKit
section
variable {B : Nat} {W w w' : World} {vf : Value} {g : Nat → Value} {s s' : Sk} {A bm bo : Nat} {oc : Array Value}
theorem addrs_get {l : List Nat} {j u : Nat} (h : l[j]? = some u) : (addrs l)[j]? = some (.int .i64 (u : Int)) := by simp [addrs, h]
set_option maxHeartbeats 1000000 in
theorem same_any {B1 B2 : Nat} {va vb : Value} {l : List Nat} (h1 : w.ownsRow B1 3 1 va l.length (addrs l)) (h2 : w.ownsRow B2 3 1 vb l.length (addrs l)) (hl : l.length ≤ 70000) :
    Calls Try.prog 22 #[va, vb] w fun e w' => e = .returned (.bool true) ∧ Below w.heap.size w w' := by
  obtain ⟨aa, ca, rfl, _⟩ := row_form h1
  obtain ⟨ab, cb, rfl, _⟩ := row_form h2
  have H1 := hide h1
  have H2 := hide h2
  clear h1 h2
  generalize hn : l.length = n at *
  have HN := hide hn
  clear hn
  go_enter Try.func22, Try.ntmps22
  go_wp2
  go_loopw [5] (fun i wr => ∃ j q : Nat, j ≤ n ∧ i = .int .i64 j ∧ wr = w.drewN q) (fun i _ => n - (intOf i).toNat)
  case atStart => exact ⟨0, 0, Nat.zero_le _, rfl, rfl⟩
  case round =>
    obtain ⟨j, q, hj, rfl, rfl⟩ := hrel
    by_cases hlt : j < n
    · obtain ⟨u, hu⟩ : ∃ u, l[j]? = some u := ⟨l[j]'(by rw [HN.out]; exact hlt), by simp⟩
      obtain ⟨ga, capa, hva, c1, _, _⟩ := row_cell H1.out (addrs_get hu)
      obtain ⟨gb, capb, hvb, c2, _, _⟩ := row_cell H2.out (addrs_get hu)
      obtain rfl : aa = some ⟨ga, 0, none⟩ := (Value.slice.inj hva).1
      obtain rfl : ab = some ⟨gb, 0, none⟩ := (Value.slice.inj hvb).1
      have bj : (j : Int) < (n : Int) := by omega
      clear hva hvb hu
      go_wp2
      go_quiet (fail)
      go_wp2
      go_roundw
      case rel => exact ⟨j + 1, q + nq, by omega, by go_num, rfl⟩
      case measure => simp [intOf]; omega
    · obtain rfl : j = n := by omega
      go_wp2
      go_ret
      exact ⟨rfl, below_drewN (Below.refl _ _) q⟩
/-- The program's stack s' in memory, and the document's stack s, in the law's variable at bm; the operation at bo. -/
structure Hf (W w : World) (A bm bo : Nat) (oc : Array Value) (s s' : Sk) (vf : Value) : Prop where
  st : Has W w A s'
  bx : w.heap[bm]? = some (.cells #[.int .i64 s.base, .int .i64 s.most, vf] 31 (0, 0))
  op : w.heap[bo]? = some (.cells oc 34 (0, 0))
  rc : ∃ g, Rc W.heap.size w vf g s.fr
  inv : SInv s
  lo : W.heap.size ≤ bm ∧ W.heap.size ≤ bo
/-- Blocks of other types are no part of the program's stack. -/
theorem own_types {X : Sx} (L : Sl X w s) {j : Nat} {c : Array Value} {t : TypeId} {f : Nat × Nat} (h : w.heap[j]? = some (.cells c t f)) (h1 : t ≠ 63) (h2 : t ≠ 65) (h3 : t ≠ 3) : ¬ X.own j := fun ho => by
  rcases ho with e | e | e
  · rw [e, L.blk] at h; simp at h; exact h1 h.2.1.symm
  · rcases L.wform with ⟨_, h5⟩ | ⟨g, c', cu, h5, h6, _⟩
    · rw [h5] at e; cases e
    · rw [h5] at e; cases e; rw [h6] at h; simp at h; exact h2 h.2.1.symm
  · rcases L.sform with ⟨_, h5⟩ | ⟨g, c', cu, h5, h6, _⟩
    · rw [h5] at e; cases e
    · rw [h5] at e; cases e; rw [h6] at h; simp at h; exact h3 h.2.1.symm
theorem rown_block {fr : List (List Wo)} (R : Rc B w vf g fr) {j : Nat} (h : rown vf g fr.length j) : ∃ c t, w.heap[j]? = some (.cells c t (0, 0)) ∧ (t = 68 ∨ t = 70) := by
  rcases h with h | ⟨i, hi, h⟩
  · rcases R.row.2 with ⟨h1, _⟩ | ⟨b, cap, cur, h1, _, h2, _⟩
    · rw [h1] at h; cases h
    · rw [h1] at h; cases h; exact ⟨cur, _, h2, .inl rfl⟩
  · rcases (R.els i _ (List.getElem?_eq_getElem hi)).2 with ⟨h1, _⟩ | ⟨b, cap, cur, h1, _, h2, _⟩
    · rw [h1] at h; cases h
    · rw [h1] at h; cases h; exact ⟨cur, _, h2, .inr rfl⟩
/-- A call of the program's: what it leaves of the rest. -/
theorem Hf.step {X X' : Sx} {s2 : Sk} (H : Hf W w A bm bo oc s s' vf) (hA : X.A = A) (hB : X.B = W.heap.size) (L : Sl X w s') (S : Stp X X' w w') (L' : Sl X' w' s2) (I' : SInv s2) : Hf W w' A bm bo oc s s2 vf := by
  have hk : ∀ {j : Nat} {c : Array Value} {t : TypeId} {f : Nat × Nat}, w.heap[j]? = some (.cells c t f) → t ≠ 63 → t ≠ 65 → t ≠ 3 → w'.heap[j]? = some (.cells c t f) := fun h h1 h2 h3 => (S.block _ (lt_of_block h) (own_types L h h1 h2 h3)).trans h
  obtain ⟨g, R⟩ := H.rc
  refine ⟨⟨X', S.A.trans hA, S.B.trans hB, L', ?_, I'⟩, hk H.bx (by decide) (by decide) (by decide), hk H.op (by decide) (by decide) (by decide), ⟨g, R.keep fun j hj => ?_⟩, H.inv, H.lo⟩
  · have := H.st.bel
    rw [← hB] at this ⊢
    exact S.below L this
  · obtain ⟨c, t, h1, h2⟩ := rown_block R hj
    rw [hk h1 (by rcases h2 with rfl | rfl <;> decide) (by rcases h2 with rfl | rfl <;> decide) (by rcases h2 with rfl | rfl <;> decide), h1]
theorem Hf.below (H : Hf W w A bm bo oc s s' vf) (hb : Below w.heap.size w w') : Hf W w' A bm bo oc s s' vf := by
  obtain ⟨g, R⟩ := H.rc
  exact ⟨H.st.below hb, (hb.block _ (lt_of_block H.bx)).trans H.bx, (hb.block _ (lt_of_block H.op)).trans H.op, ⟨g, R.below hb⟩, H.inv, H.lo⟩
theorem Hf.push (H : Hf W w A bm bo oc s s' vf) {v : Value} {ps : List Bool} (hv : Bools W w v ps) (hl : ps.length ≤ 1000000000) :
    Calls Try.prog 10 #[ptr A, v] w fun e w' => e = .returned (.int .i64 (pushP s' ps).1) ∧ Hf W w' A bm bo oc s (pushP s' ps).2 vf := by
  obtain ⟨X, h1, h2, h3, h4, h5⟩ := H.st
  have hat := hv.at h2 h3
  rw [← h1]
  unfold pushP
  cases hk : pushOk s' ps.length with
  | true =>
    refine (push_ok w h3 h5 hat hk).mono ?_
    rintro e w' ⟨rfl, X', hL, hS⟩
    exact ⟨rfl, h1 ▸ H.step h1 h2 h3 hS hL (h5.push hk)⟩
  | false =>
    obtain ⟨ao, cap, hf⟩ := hat.form
    refine (push_full w h3 h5 hf hl hk).mono ?_
    rintro e w' ⟨rfl, hb⟩
    exact ⟨rfl, h1 ▸ H.below hb⟩
theorem Hf.pop (H : Hf W w A bm bo oc s s' vf) : Calls Try.prog 12 #[ptr A] w fun e w' => e = .returned (.int .i64 (popP s').1) ∧ Hf W w' A bm bo oc s (popP s').2 vf := by
  obtain ⟨X, h1, h2, h3, h4, h5⟩ := H.st
  rw [← h1]
  unfold popP
  by_cases hn : s'.fr.length = 0
  · rw [if_pos hn]
    refine (pop_none w h3 (List.eq_nil_of_length_eq_zero hn)).mono ?_
    rintro e w' ⟨rfl, hb⟩
    exact ⟨rfl, h1 ▸ H.below hb⟩
  · rw [if_neg hn]
    refine (pop_some w h3 h5 (n := s'.fr.length - 1) (by omega)).mono ?_
    rintro e w' (⟨hb, rfl, hbel⟩ | ⟨hb, rfl, X', hL, hS⟩)
    · rw [if_pos hb]; exact ⟨rfl, h1 ▸ H.below hbel⟩
    · rw [if_neg (by rw [hb]; decide)]
      exact ⟨rfl, h1 ▸ H.step h1 h2 h3 hS hL h5.pop⟩
theorem Hf.get (H : Hf W w A bm bo oc s s' vf) (x : Int) (hx : x ≤ 9223372036854775807) :
    Calls Try.prog 16 #[ptr A, .int .i64 x] w fun e w' => e = two (getP s' x) ∧ Hf W w' A bm bo oc s s' vf := by
  obtain ⟨X, h1, h2, h3, h4, h5⟩ := H.st
  rw [← h1]
  exact (get_any x w h3 h5 hx).mono fun _ _ ⟨he, hb⟩ => ⟨he, h1 ▸ H.below hb⟩
theorem Hf.addr (H : Hf W w A bm bo oc s s' vf) (x y : Int) :
    Calls Try.prog 14 #[ptr A, .int .i64 x, .int .i64 y] w fun e w' => e = two (addrP s' x y) ∧ Hf W w' A bm bo oc s s' vf := by
  obtain ⟨X, h1, h2, h3, h4, h5⟩ := H.st
  rw [← h1]
  exact (addr_any x y w h3 h5).mono fun _ _ ⟨he, hb⟩ => ⟨he, h1 ▸ H.below hb⟩
theorem Hf.set (H : Hf W w A bm bo oc s s' vf) (x v : Int) (hx : x ≤ 9223372036854775807) (hv : v ≤ 9223372036854775807) :
    Calls Try.prog 18 #[ptr A, .int .i64 x, .int .i64 v] w fun e w' => e = .returned (.int .i64 (setP s' x v).1) ∧ Hf W w' A bm bo oc s (setP s' x v).2 vf := by
  obtain ⟨X, h1, h2, h3, h4, h5⟩ := H.st
  rw [← h1]
  exact (set_any x v w h3 h5 hx).mono fun _ w' ⟨he, hl, hs⟩ => ⟨he, h1 ▸ H.step h1 h2 h3 hs hl (h5.setP x hv)⟩
theorem Hf.move (H : Hf W w A bm bo oc s s' vf) (b : Int) : Calls Try.prog 20 #[ptr A, .int .i64 b] w fun e w' => e = two (moveP s' b).1 ∧ Hf W w' A bm bo oc s (moveP s' b).2 vf := by
  obtain ⟨X, h1, h2, h3, h4, h5⟩ := H.st
  rw [← h1]
  unfold moveP
  cases hb : allowB b with
  | true =>
    refine (move_ok w h3 h5 hb).mono ?_
    rintro e w' ⟨rfl, hL, hS⟩
    have hbb := of_decide_eq_true hb
    exact ⟨rfl, h1 ▸ H.step h1 h2 h3 hS hL (h5.move hbb.1 hbb.2)⟩
  | false =>
    refine (move_arg _ b w (.inr ⟨⟨_, rfl⟩, hb⟩)).mono ?_
    rintro e w' ⟨rfl, hbel⟩
    exact ⟨rfl, h1 ▸ H.below hbel⟩
/-- The document's variable is given the stack behind a call. -/
theorem Hf.give {vf2 : Value} {g2 : Nat → Value} (H : Hf W w A bm bo oc s s' vf) (hb : Below w.heap.size w w') (R : Rc W.heap.size w' vf2 g2 s'.fr) (hne : bo ≠ bm) :
    Hf W (((w'.setCell ⟨bm, 0, none⟩ (.int .i64 s'.base)).setCell ⟨bm, 1, none⟩ (.int .i64 s'.most)).setCell ⟨bm, 2, none⟩ vf2) A bm bo oc s' s' vf2 := by
  have H1 := H.below hb
  have hk := fun j (h : j ≠ bm) => put3 w' bm j (.int .i64 s'.base) (.int .i64 s'.most) vf2 h
  obtain ⟨X, h1, h2, h3, h4, h5⟩ := H1.st
  refine ⟨⟨X, h1, h2, h3.keep (fun j hj => hk j (fun e => own_types h3 (e ▸ H1.bx) (by decide) (by decide) (by decide) hj)) (by simp), below3 h4 H1.lo.1 _ _ _, h5⟩, ?_, (hk bo hne).trans H1.op, ⟨g2, R.keep fun j hj => hk j (fun e => ?_)⟩, h5, H1.lo⟩
  · rw [heap_setCell_same _ _ _ _ (heap_setCell_same _ _ _ _ (heap_setCell_same _ _ _ _ H1.bx))]; rfl
  · obtain ⟨c, t, h6, h7⟩ := rown_block R hj
    rw [e, H1.bx] at h6
    simp at h6
    rcases h7 with h7 | h7
    · rw [h7] at h6; exact absurd h6.2 (by decide)
    · rw [h7] at h6; exact absurd h6.2 (by decide)
end
end Go.Proofs.Ytjapfckadikjiaa
