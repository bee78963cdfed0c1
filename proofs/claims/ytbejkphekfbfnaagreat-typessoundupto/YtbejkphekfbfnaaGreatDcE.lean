/- The names sorted, and without those that stand twice. -/
import Derived.Test.YtbejkphekfbfnaaGreatDcC
import Derived.Shelf.SortM.Plain
import Derived.Shelf.SortM.SortNone
import Derived.Lib.OwnBridge
import Derived.Lib.AppendIntMem
namespace Go.Proofs.YtbejkphekfbfnaaGreat
open Go.RowKit Go.Maps Go.Sort

theorem enc_str : (encStr : List UInt8 → Value) = strV := rfl
theorem sort_any (base : Nat) (v : Value) (n : Nat) (zs : List (List UInt8)) (w : World) (h : w.ownsRow base 9 1 v n (zs.map strV)) (hn : n ≤ 1000000) :
    Calls Tryz.prog 135 #[v] w fun e w' => e = .returned (.tuple #[]) ∧ Below base w w' ∧ w'.ownsRow base 9 1 v n ((zs.mergeSort fun x y => decide (x ≤ y)).map strV) := by
  by_cases hv : v = .slice none 0 0
  · subst hv
    have h0 : n = 0 := by
      rcases h.2 with ⟨_, h0⟩ | ⟨g, c, cur, e, _⟩
      · exact h0
      · cases e
    subst h0
    have hz : zs = [] := List.eq_nil_of_length_eq_zero (by simpa using h.1)
    subst hz
    refine (AnyM.slices_Sort_string_none Tryz.laysS none 0 w).mono ?_
    rintro e w' ⟨rfl, rfl⟩
    exact ⟨rfl, Below.refl _ _, by simpa using h⟩
  · rw [← enc_str] at h
    obtain ⟨g, cap, rfl, hb, hg, h1, h2, h3, hH⟩ := Lib.holds_of_ownsRow h hv
    subst h3
    refine (AnyM.slices_Sort_string Tryz.laysS g 0 cap zs w hH hg (by omega)).mono ?_
    rintro e w' ⟨rfl, k, os, rfl⟩
    refine ⟨rfl, ?_, ?_⟩
    · have hp := Lib.below_putRow (enc := encStr) (q := k) (d := (zs.mergeSort fun x y => decide (x ≤ y)).toArray) (Below.refl base w) hb
      have hl : base ≤ (putRow encStr (Sort.ahead w k) g 0 (zs.mergeSort fun x y => decide (x ≤ y)).toArray).heap.size := Nat.le_trans (by omega) hp.size
      exact hp.trans (Lib.below_grow base _ hl 0 os)
    · have hp := Lib.ownsRow_putRow (q := k) (k := zs.length) (ys := zs.mergeSort fun x y => decide (x ≤ y)) h (by simp) (Nat.le_refl _)
      rw [List.take_of_length_le (by simp)] at hp
      exact Lib.ownsRow_grow hp 0 os
theorem compact_any (base : Nat) (v : Value) (n : Nat) (zs : List (List UInt8)) (w : World) (h : w.ownsRow base 9 1 v n (zs.map strV)) (hn : n ≤ 1000000) :
    Calls Tryz.prog 136 #[v] w fun e w' => (∃ a c, e = .returned (.slice a (Lib.compact zs).length c)) ∧ Below base w w' := by
  by_cases hv : v = .slice none 0 0
  · subst hv
    have h0 : n = 0 := by
      rcases h.2 with ⟨_, h0⟩ | ⟨g, c, cur, e, _⟩
      · exact h0
      · cases e
    subst h0
    have hz : zs = [] := List.eq_nil_of_length_eq_zero (by simpa using h.1)
    subst hz
    refine (Any.slices_Compact_string_empty Tryz.lays194 none 0 w).mono ?_
    rintro e w' ⟨rfl, rfl⟩
    exact ⟨⟨none, 0, rfl⟩, Below.refl _ _⟩
  · rw [← enc_str] at h
    obtain ⟨g, cap, rfl, hb, hg, h1, h2, h3, hH⟩ := Lib.holds_of_ownsRow h hv
    subst h3
    refine (Any.slices_Compact_string Tryz.lays194 g 0 cap zs w hH (by omega) h1).mono ?_
    rintro e w' ⟨rfl, k, rfl⟩
    exact ⟨⟨_, cap, rfl⟩, Lib.below_putRow (Below.refl base w) hb⟩
end Go.Proofs.YtbejkphekfbfnaaGreat
