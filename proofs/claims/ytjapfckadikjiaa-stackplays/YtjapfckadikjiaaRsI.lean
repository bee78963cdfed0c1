/- What the document's Move keeps. -/
import Derived.Test.YtjapfckadikjiaaRsH
namespace Go.Proofs.Ytjapfckadikjiaa
open Go.RowKit
section
variable {B : Nat} {w w' : World} {vf : Value} {g : Nat → Value} {s : Sk}
/-- The frames behind the first m words of the document's Move. -/
def outFr (s : Sk) (b : Int) : Nat → List (List Wo)
  | 0 => s.fr
  | m + 1 =>
    match s.ws[m]? with
    | some u => if isP s u then setFr (mv s b u).v (outFr s b m) m else outFr s b m
    | none => outFr s b m
theorem outFr_succ {b : Int} {m : Nat} {u : Wo} (h : s.ws[m]? = some u) : outFr s b (m + 1) = if isP s u then setFr (mv s b u).v (outFr s b m) m else outFr s b m := by
  rw [outFr, h]
theorem outFr_lens (b : Int) : ∀ m, (outFr s b m).map List.length = s.fr.map List.length
  | 0 => rfl
  | m + 1 => by
    rw [outFr]
    split
    · split
      · rw [setFr_lens, outFr_lens b m]
      · exact outFr_lens b m
    · exact outFr_lens b m
theorem mv_same {b : Int} {u : Wo} (h : isP s u = false) : mv s b u = u := by
  unfold isP at h
  unfold mv
  split
  · rename_i hp
    rw [hp, Bool.true_and] at h
    cases hq : plc s u.v with
    | none => rfl
    | some i => rw [hq] at h; cases h
  · rfl
theorem outFr_flat (b : Int) : ∀ m, m ≤ s.ws.length → (outFr s b m).flatten = mvd s b m
  | 0, _ => (mvd_zero s b).symm
  | m + 1, h => by
    have hu : s.ws[m]? = some (s.ws[m]'(by omega)) := List.getElem?_eq_getElem _
    generalize s.ws[m]'(by omega) = u at hu
    have ih := outFr_flat b m (by omega)
    rw [outFr_succ hu, mvd_succ hu]
    split
    · rw [setFr_flat, ih, modify_set (mvd_get hu)]
      congr 1
      have := mv_p s b u
      cases hm : mv s b u with
      | mk v p => rw [hm] at this; simp at this; subst this; rfl
    · rename_i hp
      rw [ih, mv_same (by simpa using hp)]
      have hg := mvd_get (b := b) hu
      apply List.ext_getElem?
      intro t
      rw [List.getElem?_set]
      split
      · rename_i e; subst e; rw [hg]; simp [get_lt hg]
      · rfl
theorem lists_eq : ∀ (a b : List (List Wo)), a.map List.length = b.map List.length → a.flatten = b.flatten → a = b
  | [], [], _, _ => rfl
  | [], _ :: _, h, _ => by simp at h
  | _ :: _, [], h, _ => by simp at h
  | x :: a, y :: b, h, e => by
    simp at h
    simp only [List.flatten_cons] at e
    have hx : x = y := List.append_inj_left e h.1
    subst hx
    have he := List.append_cancel_left e
    rw [lists_eq a b (by simpa using h.2) he]
theorem outFr_all (b : Int) : outFr s b s.ws.length = (moveS s b).fr := by
  apply lists_eq
  · rw [outFr_lens]; simp [moveS, Function.comp_def]
  · rw [outFr_flat b _ (Nat.le_refl _), mvd_all]; rfl
/-- The document's stack in the midst of a move. -/
def outS (s : Sk) (b : Int) (m : Nat) : Sk := ⟨b, s.most, outFr s b m⟩
theorem outS_len {b : Int} {m : Nat} : (outS s b m).fr.length = s.fr.length := by
  have := congrArg List.length (outFr_lens (s := s) b m)
  simpa [outS] using this
theorem pre_of_lens {a b : List (List Wo)} (h : a.map List.length = b.map List.length) (i : Nat) : pre a i = pre b i := by
  simp only [pre, List.length_flatten, List.map_take, h]
theorem outS_pre {b : Int} {m i : Nat} : pre (outS s b m).fr i = pre s.fr i := pre_of_lens (outFr_lens b m) i
theorem outS_ws {b : Int} {m : Nat} (h : m ≤ s.ws.length) : (outS s b m).ws = mvd s b m := outFr_flat b m h
theorem outS_at {b : Int} {m i : Nat} {f : List Wo} (h : s.fr[i]? = some f) : ∃ f', (outS s b m).fr[i]? = some f' ∧ f'.length = f.length := by
  have h1 : ((outFr s b m).map List.length)[i]? = some f.length := by rw [outFr_lens]; simp [h]
  simpa [outS] using h1
theorem outS_inv {b : Int} {m : Nat} (I : SInv s) (hb : allowB b = true) (hm : m ≤ s.ws.length) : SInv (outS s b m) := by
  have hbb := of_decide_eq_true hb
  have hfit := I.fit
  have hm1 := I.m1
  refine ⟨hbb.1, hbb.2, I.m0, I.m1, by rw [outS_ws hm, mvd_length]; exact I.fit, by rw [outS_len]; exact I.few, fun u hu => ?_⟩
  rw [outS_ws hm] at hu
  unfold mvd at hu
  rcases List.mem_append.mp hu with h | h
  · obtain ⟨u0, h1, rfl⟩ := List.mem_map.mp h
    have h2 := I.vals u0 (List.mem_of_mem_take h1)
    unfold mv
    split
    · cases hq : plc s u0.v with
      | none => exact h2
      | some i => have := (plc_some hq).2; show b + i ≤ _; omega
    · exact h2
  · exact I.vals u (List.mem_of_mem_drop h)
/-- What the document's Move has in memory behind the first m words. -/
structure Mo (s : Sk) (w wr : World) (b : Int) (x vf' : Value) (g' : Nat → Value) (ho m : Nat) : Prop where
  bx : wr.heap[w.heap.size]? = some (.cells #[.int .i64 s.base, .int .i64 s.most, x] 31 (0, 0))
  br : wr.heap[w.heap.size + 1]? = some (.cells #[.int .i64 0, .int .i64 0, .slice none 0 0] 31 (0, 0))
  bo : wr.heap[ho]? = some (.cells #[.int .i64 b, .int .i64 s.most, vf'] 31 (0, 0))
  rc : Rc (w.heap.size + 1 + 1) wr vf' g' (outS s b m).fr
  lo : ∀ k, rown vf' g' s.fr.length k → k ≠ ho
  ho : w.heap.size + 1 < ho
  bel : Below w.heap.size w wr
theorem Mo.below {wr w5 : World} {b : Int} {x vf' : Value} {g' : Nat → Value} {ho m : Nat} (M : Mo s w wr b x vf' g' ho m) (hb : Below wr.heap.size wr w5) : Mo s w w5 b x vf' g' ho m :=
  ⟨(hb.block _ (lt_of_block M.bx)).trans M.bx, (hb.block _ (lt_of_block M.br)).trans M.br, (hb.block _ (lt_of_block M.bo)).trans M.bo, M.rc.below hb, M.lo, M.ho, M.bel.trans (hb.mono M.bel.size)⟩
theorem Mo.skip {wr : World} {b : Int} {x vf' : Value} {g' : Nat → Value} {ho m : Nat} {u : Wo} (M : Mo s w wr b x vf' g' ho m) (hu : s.ws[m]? = some u) (h : isP s u = false) : Mo s w wr b x vf' g' ho (m + 1) := by
  refine ⟨M.bx, M.br, M.bo, ?_, M.lo, M.ho, M.bel⟩
  have := M.rc
  unfold outS at *
  rw [outFr_succ hu, h]; exact this
theorem Mo.put {wr : World} {b : Int} {x vf' : Value} {g' : Nat → Value} {ho i k bk cap : Nat} {u : Wo} {f : List Wo} (M : Mo s w wr b x vf' g' ho (pre s.fr i + k)) (hf : s.fr[i]? = some f) (hk : k < f.length) (hu : s.ws[pre s.fr i + k]? = some u) (h : isP s u = true) (hg : g' i = .slice (some ⟨bk, 0, none⟩) f.length cap) :
    Mo s w (wr.setCell ⟨bk, k * 2, none⟩ (.int .i64 (mv s b u).v)) b x vf' g' ho (pre s.fr i + k + 1) := by
  obtain ⟨f', hf', hfl⟩ := outS_at (b := b) (m := pre s.fr i + k) hf
  have hset := M.rc.set hf' (i := k) (by omega) (by rw [hfl]; exact hg) (mv s b u).v
  rw [outS_pre] at hset
  have hown : rown vf' g' (outS s b (pre s.fr i + k)).fr.length bk := .inr ⟨i, by rw [outS_len]; exact get_lt hf, by rw [hg]; rfl⟩
  have hlo := (M.rc.own_lt hown).1
  rw [outS_len] at hown
  have hne := M.lo bk hown
  have hkk : ∀ j, j ≠ bk → (wr.setCell ⟨bk, k * 2, none⟩ (.int .i64 (mv s b u).v)).heap[j]? = wr.heap[j]? := fun j hj => Below.heap_setCell _ _ _ _ hj
  refine ⟨(hkk _ (by omega)).trans M.bx, (hkk _ (by omega)).trans M.br, (hkk _ (fun e => hne e.symm)).trans M.bo, ?_, M.lo, M.ho, M.bel.setCell (by show w.heap.size ≤ bk; omega) _⟩
  have : (outS s b (pre s.fr i + k + 1)).fr = setFr (mv s b u).v (outS s b (pre s.fr i + k)).fr (pre s.fr i + k) := by
    unfold outS
    rw [outFr_succ hu, h]; rfl
  rw [this]; exact hset
end
end Go.Proofs.Ytjapfckadikjiaa
