/- What the law StackMoves keeps. -/
import Derived.Test.YtjapfckadikjiaaStArg
namespace Go.Proofs.Ytjapfckadikjiaa
open Go.RowKit

/-- A stack of one's own, beside a block that is no part of it. -/
def HasB (W w : World) (A b : Nat) (s : Sk) : Prop := ∃ X : Sx, X.A = A ∧ X.B = W.heap.size ∧ Sl X w s ∧ Below W.heap.size W w ∧ SInv s ∧ ¬ X.own b ∧ W.heap.size ≤ b ∧ b < w.heap.size
section
variable {W w w' : World} {A b : Nat} {s : Sk}
theorem Has.beside (h : Has W w A s) (o : Obj) : HasB W (w.alloc o) A w.heap.size s := by
  obtain ⟨X, h1, h2, h3, h4, h5⟩ := h
  exact ⟨X, h1, h2, h3.alloc o, h4.alloc h4.size o, h5, fun ho => by have := (h3.own_lt ho).2; omega, h4.size, by simp⟩
theorem HasB.bel (h : HasB W w A b s) : Below W.heap.size W w := by obtain ⟨X, _, _, _, b, _⟩ := h; exact b
theorem HasB.inv (h : HasB W w A b s) : SInv s := by obtain ⟨X, _, _, _, _, i, _⟩ := h; exact i
theorem HasB.below (h : HasB W w A b s) (hb : Below w.heap.size w w') : HasB W w' A b s := by
  obtain ⟨X, h1, h2, h3, h4, h5, h6, h7, h8⟩ := h
  exact ⟨X, h1, h2, h3.below hb, h4.trans (hb.mono h4.size), h5, h6, h7, Nat.lt_of_lt_of_le h8 hb.size⟩
theorem HasB.store (h : HasB W w A b s) (i : Nat) (v : Value) : HasB W (w.setCell ⟨b, i, none⟩ v) A b s := by
  obtain ⟨X, h1, h2, h3, h4, h5, h6, h7, h8⟩ := h
  refine ⟨X, h1, h2, h3.keep (fun j hj => Below.heap_setCell _ _ _ _ (fun e => by have e' : j = b := e; exact h6 (e' ▸ hj))) (by simp), h4.setCell h7 _, h5, h6, h7, by simpa using h8⟩
theorem HasB.get (h : HasB W w A b s) (x : Int) (hx : x ≤ 9223372036854775807) :
    Calls Try.prog 16 #[ptr A, .int .i64 x] w fun e w' => e = two (getP s x) ∧ HasB W w' A b s ∧ w'.heap[b]? = w.heap[b]? := by
  have h0 := h
  obtain ⟨X, rfl, h2, h3, h4, h5, h6, h7, h8⟩ := h
  exact (get_any x w h3 h5 hx).mono fun _ _ ⟨he, hb⟩ => ⟨he, h0.below hb, hb.block b h8⟩
theorem HasB.set (h : HasB W w A b s) (x v : Int) (hx : x ≤ 9223372036854775807) (hv : v ≤ 9223372036854775807) :
    Calls Try.prog 18 #[ptr A, .int .i64 x, .int .i64 v] w fun e w' => e = .returned (.int .i64 (setP s x v).1) ∧ HasB W w' A b (setP s x v).2 ∧ w'.heap[b]? = w.heap[b]? := by
  obtain ⟨X, rfl, h2, h3, h4, h5, h6, h7, h8⟩ := h
  refine (set_any x v w h3 h5 hx).mono fun _ w' ⟨he, hl, hs⟩ => ⟨he, ⟨X, rfl, h2, hl, ?_, h5.setP x hv, h6, h7, Nat.lt_of_lt_of_le h8 hs.size⟩, hs.block b h8 h6⟩
  rw [← h2] at h4 ⊢
  exact hs.below h3 h4
theorem HasB.move (h : HasB W w A b s) {x : Int} (hx : allowB x = true) : Calls Try.prog 20 #[ptr A, .int .i64 x] w fun e w' => e = two ((cntP s s.ws.length : Int), 0) ∧ HasB W w' A b (moveS s x) ∧ w'.heap[b]? = w.heap[b]? := by
  obtain ⟨X, rfl, h2, h3, h4, h5, h6, h7, h8⟩ := h
  refine (move_ok w h3 h5 hx).mono ?_
  rintro e w' ⟨rfl, hL, hS⟩
  have hbb := of_decide_eq_true hx
  refine ⟨rfl, ⟨X, rfl, h2, hL, ?_, h5.move hbb.1 hbb.2, h6, h7, Nat.lt_of_lt_of_le h8 hS.size⟩, hS.block b h8 h6⟩
  rw [← h2] at h4 ⊢
  exact hS.below h3 h4
end
/-- The words at even places are pointers. -/
structure Evn (s : Sk) (j t : Nat) : Prop where
  base : s.base = 100000
  most : s.most = 2000
  len : s.fr.length = j
  ws : s.ws.length = t
  ptrs : ∀ (k : Nat) (u : Wo), s.ws[k]? = some u → u.p = decide (k % 2 = 0)
theorem Evn.push {s : Sk} {j t : Nat} (h : Evn s j t) {ps : List Bool} (hps : ∀ (i : Nat) (q : Bool), ps[i]? = some q → q = decide ((t + i) % 2 = 0)) : Evn (pushS s ps) (j + 1) (t + ps.length) := by
  refine ⟨h.base, h.most, by simp [pushS, h.len], by rw [pushS_ws]; simp [h.ws], fun k u hu => ?_⟩
  rw [pushS_ws, List.getElem?_append, h.ws] at hu
  split at hu
  · exact h.ptrs k u hu
  · rename_i hk
    rw [List.getElem?_map] at hu
    cases hq : ps[k - t]? with
    | none => rw [hq] at hu; simp at hu
    | some q =>
      rw [hq] at hu
      simp at hu
      subst hu
      show q = _
      rw [hps _ _ hq, show t + (k - t) = k by omega]
theorem Evn.set {s : Sk} {j t : Nat} (h : Evn s j t) (n : Nat) (v : Int) : Evn (setS s n v) j t := by
  refine ⟨h.base, h.most, by simp [setS, setFr_length, h.len], by rw [setS_len]; exact h.ws, fun k u hu => ?_⟩
  rw [setS_ws, List.getElem?_modify] at hu
  cases h1 : s.ws[k]? with
  | none => rw [h1] at hu; simp at hu
  | some u0 =>
    rw [h1] at hu
    have h2 := h.ptrs k u0 h1
    simp at hu
    split at hu
    · subst hu; exact h2
    · subst hu; exact h2
theorem Evn.setP {s : Sk} {j t i : Nat} (h : Evn s j t) (hi : i < t) (v : Int) : Go.Proofs.Ytjapfckadikjiaa.setP s (100000 + (i : Int)) v = (0, setS s i v) := by
  have := plc_mk (s := s) (i := i) (by rw [h.ws]; exact hi)
  rw [h.base] at this
  unfold Go.Proofs.Ytjapfckadikjiaa.setP
  rw [this]
/-- The first k words hold what the list says. -/
def Fill (s : Sk) (t k : Nat) (xs : List Nat) : Prop := xs.length = t ∧ ∀ (i x : Nat), i < k → xs[i]? = some x → x ≤ t ∧ ∃ u, s.ws[i]? = some u ∧ u.v = 100000 + (x : Int)
theorem Fill.next {s : Sk} {t k : Nat} {xs : List Nat} (h : Fill s t k xs) (hs : s.ws.length = t) (hk : k < t) {v : Nat} (hv : v ≤ t) : Fill (setS s k (100000 + (v : Int))) t (k + 1) (xs.set k v) := by
  refine ⟨by simpa using h.1, fun i x hi hx => ?_⟩
  rw [setS_ws]
  rw [List.getElem?_set] at hx
  have hu : s.ws[k]? = some (s.ws[k]'(by omega)) := List.getElem?_eq_getElem _
  by_cases e : k = i
  · subst e
    rw [if_pos rfl, if_pos (by rw [h.1]; exact hk)] at hx
    cases hx
    refine ⟨hv, { s.ws[k]'(by omega) with v := 100000 + (v : Int) }, ?_, rfl⟩
    rw [List.getElem?_modify, hu]; simp
  · rw [if_neg e] at hx
    obtain ⟨h1, u, h2, h3⟩ := h.2 i x (by omega) hx
    refine ⟨h1, u, ?_, h3⟩
    rw [List.getElem?_modify, h2]; simp [e]
/-- What the move makes of a word. -/
theorem moved {s : Sk} {j t i x : Nat} {far : Int} {xs : List Nat} (h : Evn s j t) (hf : Fill s t t xs) (hx : xs[i]? = some x) :
    getP (moveS s far) (far + (i : Int)) = ((if i % 2 = 0 ∧ x < t then far + (x : Int) else 100000 + (x : Int)), 0) ∧ cntP s (i + 1) = cntP s i + (if i % 2 = 0 ∧ x < t then 1 else 0) ∧ x ≤ t ∧ i < t := by
  have hi : i < t := by rw [← hf.1]; exact get_lt hx
  obtain ⟨hxt, u, hu, hv⟩ := hf.2 i x hi hx
  have hp := h.ptrs i u hu
  have hws : (moveS s far).ws[i]? = some (mv s far u) := by rw [moveS_ws, List.getElem?_map, hu]; rfl
  have hpl : plc (moveS s far) (far + (i : Int)) = some i := plc_mk (s := moveS s far) (by rw [moveS_ws, List.length_map, h.ws]; exact hi)
  have hc := cntP_succ hu
  refine ⟨?_, ?_, hxt, hi⟩
  · unfold getP
    rw [hpl]
    simp only [hws, Option.map_some, Option.getD_some]
    by_cases hc1 : i % 2 = 0
    · by_cases hc2 : x < t
      · have : plc s u.v = some x := by
          have := plc_mk (s := s) (i := x) (by rw [h.ws]; exact hc2)
          rw [h.base] at this
          rw [hv]; exact this
        simp [mv, hp, hc1, this, hc2]
      · have : plc s u.v = none := by
          unfold plc
          rw [if_neg]
          rw [h.base, h.ws, hv]; omega
        simp only [mv, hp, hc1, this, hc2]
        simpa using hv
    · simp [mv, hp, hc1, hv]
  · rw [hc]
    congr 1
    by_cases hc1 : i % 2 = 0
    · by_cases hc2 : x < t
      · have : plc s u.v = some x := by
          have := plc_mk (s := s) (i := x) (by rw [h.ws]; exact hc2)
          rw [h.base] at this
          rw [hv]; exact this
        simp [isP, hp, hc1, this, hc2]
      · have : plc s u.v = none := by
          unfold plc
          rw [if_neg]
          rw [h.base, h.ws, hv]; omega
        simp [isP, this, hc2]
    · simp [isP, hp, hc1]
theorem run_bools8 (w : World) (n : Nat) (hn : n ≤ 200) : (Instr.makeSlice 32 (.int .u8 n) (.int .u8 n)).run Try.prog w = .ok (.slice (some ⟨w.heap.size, 0, none⟩) n n) (w.alloc (.cells (bcells (List.replicate n false)).toArray 4)) := by
  obtain ⟨i0, hi, hz0, hz1, hz2⟩ := info_parts Try.info4
  have hmk := run_make (P := Try.prog) w 32 4 i0 (.bool false) Try.underlying32 hi hz0 .u8 .u8 n n (by omega) (Int.le_refl _) (by rw [hz2]; omega) (by omega)
  rw [hz1] at hmk
  simp only [Int.toNat_natCast, Nat.mul_one] at hmk
  rw [show (Value.bool false).cells = #[Value.bool false] from rfl, made_bools] at hmk
  exact hmk
theorem run_ints (w : World) (n : Nat) (hn : n ≤ 1000) : (Instr.makeSlice 50 (.int .i64 n) (.int .i64 n)).run Try.prog w = .ok (.slice (some ⟨w.heap.size, 0, none⟩) n n) (w.alloc (.cells (addrs (List.replicate n 0)).toArray 3)) := by
  obtain ⟨i0, hi, hz0, hz1, hz2⟩ := info_parts Try.info3
  have hmk := run_make (P := Try.prog) w 50 3 i0 (.int .i64 0) Try.underlying50 hi hz0 .i64 .i64 n n (by omega) (Int.le_refl _) (by rw [hz2]; omega) (by omega)
  rw [hz1] at hmk
  simp only [Int.toNat_natCast, Nat.mul_one] at hmk
  rw [show (Value.int .i64 0).cells = #[Value.int .i64 0] from rfl, made_ints] at hmk
  rw [hmk]; simp [ints, addrs]
end Go.Proofs.Ytjapfckadikjiaa
