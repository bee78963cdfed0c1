/- Trees: the same ones, how large they are; types in their boxes. -/
import Derived.Test.YtbejkphekfbfnaaGreatSndE
namespace Go.Proofs.YtbejkphekfbfnaaGreat
open Go.RowKit
attribute [local go_sem ↓] Go.wp_at_zero Go.wp_at_succ

/-- A test's world later on: the node lies in its box. -/
def Hxt (w : World) (c0 c1 c2 c3 : Value) (W : World) : Prop := Below (w.heap.size + 1) (w.alloc (.cells #[c0, c1, c2, c3] 27)) W
section
variable {w W W' : World} {c0 c1 c2 c3 : Value}
theorem Hxt.start : Hxt w c0 c1 c2 c3 (w.alloc (.cells #[c0, c1, c2, c3] 27)) := Below.refl _ _
theorem Hxt.size (h : Hxt w c0 c1 c2 c3 W) : w.heap.size + 1 ≤ W.heap.size := by have := Below.size h; simpa using this
theorem Hxt.next (h : Hxt w c0 c1 c2 c3 W) (hb : Below W.heap.size W W') : Hxt w c0 c1 c2 c3 W' := Below.trans h (hb.mono h.size)
theorem Hxt.out (h : Hxt w c0 c1 c2 c3 W) : Below w.heap.size w W := ((Below.refl w.heap.size w).alloc (Nat.le_refl _) _).trans (Below.mono h (by omega))
theorem Hxt.cells (h : Hxt w c0 c1 c2 c3 W) : W.cell? ⟨w.heap.size, 0, none⟩ = some c0 ∧ W.cell? ⟨w.heap.size, 1, none⟩ = some c1 ∧ W.cell? ⟨w.heap.size, 2, none⟩ = some c2 ∧ W.cell? ⟨w.heap.size, 3, none⟩ = some c3 := by
  have r : ∀ o, W.cell? ⟨w.heap.size, o, none⟩ = (w.alloc (.cells #[c0, c1, c2, c3] 27)).cell? ⟨w.heap.size, o, none⟩ := fun o => Below.cell (p := ⟨w.heap.size, o, none⟩) h (by simp)
  refine ⟨?_, ?_, ?_, ?_⟩ <;> · rw [r, World.cell?_alloc_new]; rfl
end

mutual
def sameT : Tr → Tr → Bool
  | .mk k s n ks, .mk k' s' n' ks' => k == k' && (s == s' && (n == n' && (ks.length == ks'.length && sameL ks ks')))
def sameL : List Tr → List Tr → Bool
  | a :: xs, b :: ys => sameT a b && sameL xs ys
  | _, _ => true
end
mutual
theorem sameT_refl : ∀ a, sameT a a = true
  | .mk k s n ks => by simp [sameT, sameL_refl ks]
theorem sameL_refl : ∀ a, sameL a a = true
  | [] => rfl
  | a :: xs => by simp [sameL, sameT_refl a, sameL_refl xs]
end
mutual
theorem sameT_eq : ∀ a b, sameT a b = true → a = b
  | .mk k s n ks, .mk k' s' n' ks', h => by
    simp only [sameT, Bool.and_eq_true, beq_iff_eq] at h
    obtain ⟨rfl, rfl, rfl, hl, h⟩ := h
    rw [sameL_eq ks ks' hl h]
theorem sameL_eq : ∀ a b : List Tr, a.length = b.length → sameL a b = true → a = b
  | [], [], _, _ => rfl
  | a :: xs, b :: ys, hl, h => by
    simp only [sameL, Bool.and_eq_true] at h
    rw [sameT_eq a b h.1, sameL_eq xs ys (by simpa using hl) h.2]
  | [], _ :: _, hl, _ => by simp at hl
  | _ :: _, [], hl, _ => by simp at hl
end
theorem sameL_get : ∀ (xs ys : List Tr) (k : Nat) (a b : Tr), xs[k]? = some a → ys[k]? = some b → sameT a b = false → sameL xs ys = false
  | a :: xs, b :: ys, 0, _, _, h1, h2, h => by simp at h1 h2; subst h1 h2; simp [sameL, h]
  | a :: xs, b :: ys, k + 1, _, _, h1, h2, h => by simp at h1 h2; simp [sameL, sameL_get xs ys k _ _ h1 h2 h]
  | [], _, _, _, _, h1, _, _ => by simp at h1
  | _ :: _, [], _, _, _, _, h2, _ => by simp at h2
theorem sameL_all : ∀ (xs ys : List Tr), (∀ (k : Nat) a b, xs[k]? = some a → ys[k]? = some b → sameT a b = true) → sameL xs ys = true
  | a :: xs, b :: ys, h => by
    simp only [sameL, Bool.and_eq_true]
    exact ⟨h 0 a b rfl rfl, sameL_all xs ys fun k x y hx hy => h (k + 1) x y (by simpa using hx) (by simpa using hy)⟩
  | [], _, _ => by simp [sameL]
  | _ :: _, [], _ => by simp [sameL]

/-- A tree is so deep at most, and its lists are not too long. -/
def Lim : Nat → Tr → Prop
  | 0, _ => False
  | n + 1, t => t.kids.length ≤ 20000 ∧ ∀ k ∈ t.kids, Lim n k
mutual
theorem lim_of_cnt : ∀ (t : Tr) (deep left l : Nat), cntT t deep left = some l → left ≤ 20000 → Lim deep t
  | .mk k s m ks, deep, left, l, h, hl => by
    simp only [cntT] at h
    split at h
    · cases h
    · rename_i hd
      obtain ⟨d, rfl⟩ : ∃ d, deep = d + 1 := ⟨deep - 1, by omega⟩
      have h1 := cntL_len ks d (left - 1) l h
      exact ⟨by simp only [Tr.kids]; omega, lim_of_cntL ks d (left - 1) l h (by omega)⟩
theorem lim_of_cntL : ∀ (ts : List Tr) (deep left l : Nat), cntL ts deep left = some l → left ≤ 20000 → ∀ t ∈ ts, Lim deep t
  | [], _, _, _, _, _, t, hm => by cases hm
  | u :: ts, deep, left, l, h, hl, t, hm => by
    simp only [cntL] at h
    split at h
    · cases h
    · rename_i l1 h1
      rcases List.mem_cons.1 hm with he | hm
      · rw [he]; exact lim_of_cnt u deep left l1 h1 hl
      · exact lim_of_cntL ts deep l1 l h (by have := cntT_le u deep left l1 h1; omega) t hm
end
theorem lim_of_small {t : Tr} (h : smallT t = true) : Lim 100 t := by
  simp only [smallT, Option.isSome_iff_exists] at h
  obtain ⟨l, h⟩ := h
  exact lim_of_cnt t 100 20000 l h (Nat.le_refl _)

/-- Two nodes' boxes. -/
structure Hyt (w : World) (c0 c1 c2 c3 d0 d1 d2 d3 : Value) (W : World) : Prop where
  bel : Below (w.heap.size + 2) ((w.alloc (.cells #[c0, c1, c2, c3] 27)).alloc (.cells #[d0, d1, d2, d3] 27)) W
section
variable {w W W' : World} {c0 c1 c2 c3 d0 d1 d2 d3 : Value}
theorem Hyt.start : Hyt w c0 c1 c2 c3 d0 d1 d2 d3 ((w.alloc (.cells #[c0, c1, c2, c3] 27)).alloc (.cells #[d0, d1, d2, d3] 27)) := ⟨Below.refl _ _⟩
theorem Hyt.size (h : Hyt w c0 c1 c2 c3 d0 d1 d2 d3 W) : w.heap.size + 2 ≤ W.heap.size := by have := Below.size h.bel; simpa using this
theorem Hyt.next (h : Hyt w c0 c1 c2 c3 d0 d1 d2 d3 W) (hb : Below W.heap.size W W') : Hyt w c0 c1 c2 c3 d0 d1 d2 d3 W' := ⟨Below.trans h.bel (hb.mono h.size)⟩
theorem Hyt.drew (h : Hyt w c0 c1 c2 c3 d0 d1 d2 d3 W) : Hyt w c0 c1 c2 c3 d0 d1 d2 d3 W.drew := by
  have h' := h.bel
  exact ⟨⟨h'.os, h'.tape, h'.output, h'.size, h'.block⟩⟩
theorem Hyt.out (h : Hyt w c0 c1 c2 c3 d0 d1 d2 d3 W) : Below w.heap.size w W := (((Below.refl w.heap.size w).alloc (Nat.le_refl _) _).alloc (by simp) _).trans (Below.mono h.bel (by omega))
theorem Hyt.cells (h : Hyt w c0 c1 c2 c3 d0 d1 d2 d3 W) : W.cell? ⟨w.heap.size, 0, none⟩ = some c0 ∧ W.cell? ⟨w.heap.size, 1, none⟩ = some c1 ∧ W.cell? ⟨w.heap.size, 2, none⟩ = some c2 ∧ W.cell? ⟨w.heap.size, 3, none⟩ = some c3 ∧ W.cell? ⟨w.heap.size + 1, 0, none⟩ = some d0 ∧ W.cell? ⟨w.heap.size + 1, 1, none⟩ = some d1 ∧ W.cell? ⟨w.heap.size + 1, 2, none⟩ = some d2 ∧ W.cell? ⟨w.heap.size + 1, 3, none⟩ = some d3 := by
  have r : ∀ o, W.cell? ⟨w.heap.size, o, none⟩ = (w.alloc (.cells #[c0, c1, c2, c3] 27)).cell? ⟨w.heap.size, o, none⟩ := fun o => (Below.cell (p := ⟨w.heap.size, o, none⟩) h.bel (by simp)).trans (World.cell?_of_block (Below.heap_alloc _ _ _ (by simp)))
  have r2 : ∀ o, W.cell? ⟨w.heap.size + 1, o, none⟩ = ((w.alloc (.cells #[c0, c1, c2, c3] 27)).alloc (.cells #[d0, d1, d2, d3] 27)).cell? ⟨(w.alloc (.cells #[c0, c1, c2, c3] 27)).heap.size, o, none⟩ := fun o => by
    rw [World.size_alloc]
    exact Below.cell (p := ⟨w.heap.size + 1, o, none⟩) h.bel (by simp)
  refine ⟨?_, ?_, ?_, ?_, ?_, ?_, ?_, ?_⟩
  · rw [r, World.cell?_alloc_new]; rfl
  · rw [r, World.cell?_alloc_new]; rfl
  · rw [r, World.cell?_alloc_new]; rfl
  · rw [r, World.cell?_alloc_new]; rfl
  · rw [r2, World.cell?_alloc_new]; rfl
  · rw [r2, World.cell?_alloc_new]; rfl
  · rw [r2, World.cell?_alloc_new]; rfl
  · rw [r2, World.cell?_alloc_new]; rfl
end
/-- A kid of a list that lies. -/
theorem Lst.kid {w : World} {S : Nat → Prop} {ks : List Tr} {ao : Option Addr} {n c j : Nat} {a : Tr} (hL : Lst w S ks (.slice ao n c)) (ha : ks[j]? = some a) (hS : ∀ b, S b → b < w.heap.size) :
    ∃ g o a0 n0 q0, ao = some ⟨g, o, none⟩ ∧ w.cell? ⟨g, o + j * 4, none⟩ = some (.int .i64 a.kind) ∧ w.cell? ⟨g, o + j * 4 + 1, none⟩ = some (.string ⟨a.text.toArray⟩) ∧ w.cell? ⟨g, o + j * 4 + 2, none⟩ = some (.int .i64 a.num) ∧ w.cell? ⟨g, o + j * 4 + 3, none⟩ = some (.slice a0 n0 q0) ∧ g < w.heap.size ∧ KT w S a (.slice a0 n0 q0) := by
  obtain ⟨sls, h1, h2⟩ := hL
  have hl : j < ks.length := by
    rcases Nat.lt_or_ge j ks.length with h | h
    · exact h
    · rw [List.getElem?_eq_none h] at ha; cases ha
  rcases h1 with ⟨h0, ao', cap, e⟩ | ⟨g, o, cap, e, _, hg, hc⟩
  · omega
  · injection e with e1 e2 e3
    obtain ⟨sl, hs⟩ : ∃ sl, sls[j]? = some sl := ⟨_, List.getElem?_eq_getElem (by rw [h2.length]; exact hl)⟩
    have hk := h2.get ha hs
    obtain ⟨a0, n0, q0, rfl⟩ := hk.slice
    obtain ⟨q0', q1, q2, q3⟩ := cellsOf_get ha hs
    exact ⟨g, o, a0, n0, q0, e1, hc _ _ q0', hc _ _ q1, hc _ _ q2, hc _ _ q3, hS g hg, hk⟩
/-- What Same leaves. -/
def OutB (b : Bool) (w : World) (e : Ending) (w' : World) : Prop := e = .returned (.bool b) ∧ Below w.heap.size w w'
theorem OutB.of {b b' : Bool} {w : World} {e : Ending} {w' : World} (hr : Hid (b = b')) (o : OutB b' w e w') : OutB b w e w' := by
  have := hr.out; subst this; exact o


mutual
def cntN : Tr → Nat
  | .mk _ _ _ ks => 1 + cntNL ks
def cntNL : List Tr → Nat
  | [] => 0
  | t :: ts => cntN t + cntNL ts
end
mutual
def depN : Tr → Nat
  | .mk _ _ _ ks => depNL ks + 1
def depNL : List Tr → Nat
  | [] => 0
  | t :: ts => max (depN t) (depNL ts)
end
theorem cntNL_append : ∀ a b, cntNL (a ++ b) = cntNL a + cntNL b
  | [], b => by simp [cntNL]
  | t :: a, b => by simp only [List.cons_append, cntNL, cntNL_append a b]; omega
theorem depNL_append : ∀ a b, depNL (a ++ b) = max (depNL a) (depNL b)
  | [], b => by simp [depNL]
  | t :: a, b => by simp only [List.cons_append, depNL, depNL_append a b]; omega
theorem cntNL_len : ∀ ts : List Tr, ts.length ≤ cntNL ts
  | [] => Nat.le_refl _
  | .mk _ _ _ ks :: ts => by simp only [cntNL, cntN, List.length_cons]; have := cntNL_len ts; omega
theorem cntNL_mem : ∀ {ts : List Tr} {t : Tr}, t ∈ ts → cntN t ≤ cntNL ts
  | u :: ts, t, h => by
    rcases List.mem_cons.1 h with rfl | h
    · simp only [cntNL]; omega
    · have := cntNL_mem h; simp only [cntNL]; omega
mutual
theorem depN_le : ∀ t, depN t ≤ cntN t
  | .mk _ _ _ ks => by simp only [depN, cntN]; have := depNL_le ks; omega
theorem depNL_le : ∀ ts, depNL ts ≤ cntNL ts
  | [] => Nat.le_refl _
  | t :: ts => by simp only [depNL, cntNL]; have := depN_le t; have := depNL_le ts; omega
end
mutual
/-- The program's count and the document's. -/
theorem cntT_iff : ∀ (t : Tr) (deep left : Nat), (cntN t ≤ left → depN t ≤ deep → cntT t deep left = some (left - cntN t)) ∧ (left < cntN t ∨ deep < depN t → cntT t deep left = none)
  | .mk _ _ _ ks, deep, left => by
    have h := cntL_iff ks (deep - 1) (left - 1)
    simp only [cntT, cntN, depN]
    by_cases h0 : deep = 0 ∨ left = 0
    · rw [if_pos h0]
      exact ⟨fun h1 h2 => by omega, fun _ => rfl⟩
    · rw [if_neg h0]
      refine ⟨fun h1 h2 => ?_, fun h1 => ?_⟩
      · rw [h.1 (by omega) (by omega)]; congr 1; omega
      · exact h.2 (by omega)
theorem cntL_iff : ∀ (ts : List Tr) (deep left : Nat), (cntNL ts ≤ left → depNL ts ≤ deep → cntL ts deep left = some (left - cntNL ts)) ∧ (left < cntNL ts ∨ deep < depNL ts → cntL ts deep left = none)
  | [], deep, left => by
    simp only [cntL, cntNL, depNL]
    exact ⟨fun _ _ => rfl, fun h => by omega⟩
  | t :: ts, deep, left => by
    have ht := cntT_iff t deep left
    simp only [cntL, cntNL, depNL]
    by_cases h : cntN t ≤ left ∧ depN t ≤ deep
    · rw [ht.1 h.1 h.2]
      have hl := cntL_iff ts deep (left - cntN t)
      refine ⟨fun h1 h2 => ?_, fun h1 => ?_⟩
      · simp only; rw [hl.1 (by omega) (by omega)]; congr 1; omega
      · exact hl.2 (by omega)
    · have hn := ht.2 (by omega)
      rw [hn]
      exact ⟨fun h1 h2 => by omega, fun _ => rfl⟩
end
theorem smallT_iff (t : Tr) : smallT t = (decide (cntN t ≤ 20000) && decide (depN t ≤ 100)) := by
  unfold smallT
  have h := cntT_iff t 100 20000
  by_cases h1 : cntN t ≤ 20000
  · by_cases h2 : depN t ≤ 100
    · rw [h.1 h1 h2]; simp [h1, h2]
    · rw [h.2 (by omega)]; simp [h2]
  · rw [h.2 (by omega)]; simp [h1]


end Go.Proofs.YtbejkphekfbfnaaGreat
