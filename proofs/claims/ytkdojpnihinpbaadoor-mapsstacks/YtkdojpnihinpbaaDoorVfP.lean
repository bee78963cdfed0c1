/- Piles in memory: lists of kinds that lie; with, without. -/
import Derived.Test.YtkdojpnihinpbaaDoorVfK
namespace Go.Proofs.YtkdojpnihinpbaaDoor
open Go.RowKit
/-- Numbers that lie in memory, in no block of X. -/
def IsAt (X : Nat → Prop) (w : World) (v : Value) (ks : List Int) : Prop := ∃ ao cap, v = .slice ao ks.length cap ∧ ks.length ≤ cap ∧ cap ≤ maxLen ∧ ∀ (j : Nat) (k : Int), ks[j]? = some k → ∃ g o, ao = some ⟨g, o, none⟩ ∧ g < w.heap.size ∧ ¬ X g ∧ w.cell? ⟨g, o + j, none⟩ = some (.int .i64 k)
/-- Blocks but those of X are as they were. -/
structure Kp (X : Nat → Prop) (w w' : World) : Prop where
  os : w'.os = w.os
  tape : w'.tape = w.tape
  output : w'.output = w.output
  size : w.heap.size ≤ w'.heap.size
  block : ∀ j, j < w.heap.size → ¬ X j → w'.heap[j]? = w.heap[j]?
/-- A pile: its kinds, the top last, upon the empty pile E. -/
inductive PileAt (X : Nat → Prop) (w : World) (E : Nat) : Nat → List Int → Prop
  | nil : w.heap[E]? = some (.cells #[.slice none 0 0, .pointer none, .int .i64 0] 91 (0, 0)) → ¬ X E → PileAt X w E E []
  | cons {b b' : Nat} {l ks : List Int} {a : Option Addr} {c : Nat} : w.heap[b]? = some (.cells #[.slice a ks.length c, .pointer (some ⟨b', 0, none⟩), .int .i64 ((l.length + ks.length : Nat) : Int)] 91 (0, 0)) → ¬ X b → 0 < ks.length → IsAt X w (.slice a ks.length c) ks → PileAt X w E b' l → PileAt X w E b (l ++ ks)
abbrev pp (b : Nat) : Value := .pointer (some ⟨b, 0, none⟩)
section
variable {X Y : Nat → Prop} {w w' : World} {E b b' : Nat} {l ks : List Int} {v : Value}
theorem Kp.refl (X : Nat → Prop) (w : World) : Kp X w w := ⟨rfl, rfl, rfl, Nat.le_refl _, fun _ _ _ => rfl⟩
theorem Kp.trans {a b c : World} (h : Kp X a b) (g : Kp X b c) : Kp X a c := ⟨g.os.trans h.os, g.tape.trans h.tape, g.output.trans h.output, Nat.le_trans h.size g.size, fun j hj hx => (g.block j (Nat.lt_of_lt_of_le hj h.size) hx).trans (h.block j hj hx)⟩
theorem Kp.of_below (h : Below w.heap.size w w') : Kp X w w' := ⟨h.os, h.tape, h.output, h.size, fun j hj _ => h.block j hj⟩
theorem Kp.mono (h : Kp X w w') (hs : ∀ j, X j → Y j) : Kp Y w w' := ⟨h.os, h.tape, h.output, h.size, fun j hj hy => h.block j hj (fun hx => hy (hs j hx))⟩
theorem IsAt.keep (R : IsAt X w v ks) (h : Kp X w w') : IsAt X w' v ks := by
  obtain ⟨ao, cap, h1, h2, h3, h4⟩ := R
  refine ⟨ao, cap, h1, h2, h3, fun j k hk => ?_⟩
  obtain ⟨g, o, e1, e2, e3, e4⟩ := h4 j k hk
  exact ⟨g, o, e1, Nat.lt_of_lt_of_le e2 h.size, e3, by rw [World.cell?_of_block (a := ⟨g, o + j, none⟩) (h.block g e2 e3)]; exact e4⟩
theorem PileAt.lt (R : PileAt X w E b l) : b < w.heap.size := by
  cases R with
  | nil h _ => exact lt_of_block h
  | cons h _ _ _ _ => exact lt_of_block h
theorem PileAt.keep (h : Kp X w w') : ∀ {b : Nat} {l : List Int}, PileAt X w E b l → PileAt X w' E b l := by
  intro b l R
  induction R with
  | nil h1 h2 => exact .nil ((h.block _ (lt_of_block h1) h2).trans h1) h2
  | cons h1 h2 h3 h4 _ ih => exact .cons ((h.block _ (lt_of_block h1) h2).trans h1) h2 h3 (h4.keep h) ih
theorem IsAt.uniq {a : Option Addr} {n c : Nat} {ls : List Int} (R : IsAt X w (.slice a n c) ks) (S : IsAt X w (.slice a n c) ls) : ks = ls := by
  obtain ⟨ao, cap, h1, _, _, h4⟩ := R
  obtain ⟨bo, dap, g1, _, _, g4⟩ := S
  cases h1
  simp only [Value.slice.injEq] at g1
  obtain ⟨hab, hl, _⟩ := g1
  apply List.ext_getElem hl
  intro j hj hj'
  obtain ⟨g, o, e1, _, _, e4⟩ := h4 j _ (List.getElem?_eq_getElem hj)
  obtain ⟨g', o', f1, _, _, f4⟩ := g4 j _ (List.getElem?_eq_getElem hj')
  rw [← hab, e1] at f1
  cases f1
  rw [e4] at f4
  simp only [Option.some.injEq, Value.int.injEq, true_and] at f4
  exact f4
theorem PileAt.uniq : ∀ {b : Nat} {l m : List Int}, PileAt X w E b l → PileAt X w E b m → l = m := by
  intro b l m R
  induction R generalizing m with
  | nil h1 _ =>
    intro S
    cases S with
    | nil _ _ => rfl
    | cons g1 _ _ _ _ => rw [h1] at g1; simp at g1
  | cons h1 _ h3 h4 _ ih =>
    intro S
    cases S with
    | nil g1 _ => rw [h1] at g1; simp at g1
    | cons g1 _ _ g4 gb =>
      rw [h1] at g1
      simp only [Option.some.injEq, Obj.cells.injEq, Array.mk.injEq, List.cons.injEq, Value.slice.injEq, Value.pointer.injEq, Addr.mk.injEq, and_true] at g1
      obtain ⟨⟨rfl, hn, rfl⟩, rfl, _⟩ := g1
      rw [ih gb]
      rw [← hn] at g4
      rw [h4.uniq g4]
theorem PileAt.nil_eq (R : PileAt X w E b []) : b = E := by
  generalize hl : ([] : List Int) = l at R
  cases R with
  | nil _ _ => rfl
  | cons _ _ h3 _ _ =>
    rw [List.nil_eq_append_iff] at hl
    rw [hl.2] at h3
    simp at h3
/-- A beginning of numbers that lie. -/
theorem IsAt.take {a : Option Addr} {n c : Nat} (R : IsAt X w (.slice a n c) ks) {m : Nat} (hm : m ≤ ks.length) : IsAt X w (.slice a m c) (ks.take m) := by
  obtain ⟨ao, cap, h1, h2, h3, h4⟩ := R
  cases h1
  refine ⟨a, c, by rw [List.length_take, Nat.min_eq_left hm], by rw [List.length_take]; omega, h3, fun j k hk => ?_⟩
  rw [List.getElem?_take] at hk
  split at hk
  · exact h4 j k hk
  · cases hk
set_option maxHeartbeats 400000 in
theorem with_any (R : PileAt X w E b l) (K : IsAt X w v ks) (hX : ∀ j, X j → j < w.heap.size) (hd : l.length + ks.length ≤ 4000000000000) :
    Calls Tryd.prog 53 #[pp b, v] w fun e w' => ∃ b', e = .returned (pp b') ∧ PileAt X w' E b' (l ++ ks) ∧ Below w.heap.size w w' := by
  have HR := hide R
  have HK := hide K
  have HX := hide hX
  obtain ⟨ao, cap, rfl, hcap, _⟩ := K
  have hdep : w.cell? ⟨b, 2, none⟩ = some (.int .i64 (l.length : Int)) := by
    cases R with
    | nil h _ => exact cell_of h rfl
    | cons h _ _ _ _ => rw [List.length_append]; exact cell_of h rfl
  clear R hX
  by_cases h0 : ks.length = 0
  · have hk : ks = [] := List.eq_nil_of_length_eq_zero h0
    subst hk
    go_enter Tryd.func53, Tryd.ntmps53
    go_wp2
    go_ret
    exact ⟨b, rfl, by rw [List.append_nil]; exact HR.out, Below.refl _ _⟩
  · have q0 : ((ks.length : Int) == 0) = false := beq_eq_false_iff_ne.mpr (by omega)
    have hd' : (l.length : Int) + (ks.length : Int) ≤ 4000000000000 := by omega
    have HP := hide (show PileAt X (w.alloc (.cells #[.slice ao ks.length cap, pp b, .int .i64 ((l.length : Int) + (ks.length : Int))] 91)) E w.heap.size (l ++ ks) from by
      have hb : Below w.heap.size w (w.alloc (.cells #[.slice ao ks.length cap, pp b, .int .i64 ((l.length : Int) + (ks.length : Int))] 91)) := (Below.refl _ _).alloc (Nat.le_refl _) _
      have hn := heap_new w (.cells #[.slice ao ks.length cap, pp b, .int .i64 ((l.length : Int) + (ks.length : Int))] 91) rfl
      generalize w.alloc (.cells #[.slice ao ks.length cap, pp b, .int .i64 ((l.length : Int) + (ks.length : Int))] 91) = W at *
      exact .cons (by rw [hn]; simp) (fun h => Nat.lt_irrefl _ (HX.out _ h)) (by omega) (HK.out.keep (Kp.of_below hb)) (HR.out.keep (Kp.of_below hb)))
    have HB := hide (show Below w.heap.size w (w.alloc (.cells #[.slice ao ks.length cap, pp b, .int .i64 ((l.length : Int) + (ks.length : Int))] 91)) from (Below.refl _ _).alloc (Nat.le_refl _) _)
    have n0 : (0 : Int) ≤ (l.length : Int) := by omega
    have n1 : (0 : Int) ≤ (ks.length : Int) := by omega
    clear h0 hd hcap
    generalize (l.length : Int) = L at *
    generalize hN : ks.length = N at *
    clear hN
    go_enter Tryd.func53, Tryd.ntmps53
    go_wp2
    go_ret
    exact ⟨_, rfl, HP.out, HB.out⟩
end
end Go.Proofs.YtkdojpnihinpbaaDoor
