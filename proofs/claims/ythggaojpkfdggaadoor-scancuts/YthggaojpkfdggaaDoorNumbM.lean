/- Digits as they are scanned: the plain mathematics of ScanNumbers. -/
import Derived.Test.YthggaojpkfdggaaDoorQuotM
namespace Go.Proofs.YthggaojpkfdggaaDoor
open Go.RowKit

theorem takeWhile_app (p : UInt8 → Bool) (ds : List UInt8) (c : UInt8) (r : List UInt8) (h : ds.all p = true) (hc : p c = false) : (ds ++ c :: r).takeWhile p = ds := by
  induction ds with
  | nil => simp [hc]
  | cons d t ih =>
    rw [List.all_cons, Bool.and_eq_true] at h
    rw [List.cons_append, List.takeWhile_cons_of_pos h.1, ih h.2]

theorem takeWhile_all (p : UInt8 → Bool) (ds : List UInt8) (h : ds.all p = true) : ds.takeWhile p = ds := by
  induction ds with
  | nil => rfl
  | cons d t ih =>
    rw [List.all_cons, Bool.and_eq_true] at h
    rw [List.takeWhile_cons_of_pos h.1, ih h.2]

/-- Digits that spell a number as it is written. -/
structure Spelt (n : Nat) (ds : List UInt8) : Prop where
  all : ds.all digitP = true
  num : numOf ds = n
  ne : ds ≠ []
  lead : ds.head? ≠ some 48 ∨ ds = [48]
  len : ds.length ≤ 19

theorem Spelt.first {n : Nat} {ds : List UInt8} (h : Spelt n ds) (r : List UInt8) : atP firstP (ds ++ r) 0 = false ∧ atP digitP (ds ++ r) 0 = true := by
  obtain ⟨hall, _, hne, _, _⟩ := h
  match ds, hne, hall with
  | d :: t, _, hall =>
    rw [List.all_cons, Bool.and_eq_true] at hall
    exact ⟨digit_first d hall.1, hall.1⟩
where
  digit_first : ∀ b : UInt8, digitP b = true → firstP b = false := byte_all (by decide +kernel)

theorem Spelt.not_nought {n : Nat} {ds : List UInt8} (h : Spelt n ds) (c : UInt8) (r : List UInt8) : ¬ ((ds ++ c :: r)[0]? = some 48 ∧ 0 + 1 < ds.length) := by
  obtain ⟨_, _, hne, hl, _⟩ := h
  match ds, hne, hl with
  | d :: t, _, hl =>
    rintro ⟨h1, h2⟩
    rcases hl with hl | hl
    · exact hl (by simpa using h1)
    · rw [hl] at h2; simp at h2

theorem endOf_spelt {ds : List UInt8} (h : ds.all digitP = true) {c : UInt8} (hc : digitP c = false) (r : List UInt8) : endOf digitP (ds ++ c :: r) 0 = ds.length := by
  unfold endOf
  rw [List.drop_zero, takeWhile_app digitP ds c r h hc, Nat.zero_add]

theorem at_len (p : UInt8 → Bool) (ds : List UInt8) (c : UInt8) (r : List UInt8) : atP p (ds ++ c :: r) ds.length = p c := by
  unfold atP
  rw [List.getElem?_append_right (Nat.le_refl _), Nat.sub_self]
  rfl

theorem tok_num {n : Nat} {ds : List UInt8} (h : Spelt n ds) (hn : n < 9223372036854775808) : tokL (ds ++ [43]) 0 = some (2, [], (n : Int), ds.length) := by
  unfold tokL
  rw [(h.first _).1, (h.first _).2]
  simp only [Bool.false_eq_true, if_false, if_true]
  have he : endOf digitP (ds ++ [43]) 0 = ds.length := endOf_spelt h.all (by decide +kernel) []
  have hs : seg (ds ++ [43]) 0 ds.length = ds := by simp [seg]
  unfold numL
  rw [he, hs, h.num, at_len]
  rw [if_neg (h.not_nought 43 []), if_neg (by decide +kernel), if_neg (by omega)]

theorem tok_letter {n : Nat} {ds : List UInt8} (h : Spelt n ds) : tokL (ds ++ [120]) 0 = none := by
  unfold tokL
  rw [(h.first _).1, (h.first _).2]
  simp only [Bool.false_eq_true, if_false, if_true]
  have he : endOf digitP (ds ++ [120]) 0 = ds.length := endOf_spelt h.all (by decide +kernel) []
  unfold numL
  rw [he, at_len]
  rw [if_neg (h.not_nought 120 []), if_pos (by decide +kernel)]

theorem tok_plus (ds : List UInt8) : tokL (ds ++ [43]) ds.length = some (4, [43], 0, ds.length + 1) := by
  unfold tokL
  rw [at_len, at_len, at_len]
  rw [if_neg (by decide +kernel), if_neg (by decide +kernel), if_neg (by decide +kernel)]
  unfold markL
  rw [if_neg (by simp), at_len, if_pos (by decide +kernel)]
  have : seg (ds ++ [43]) ds.length (ds.length + 1) = [43] := by simp [seg]
  rw [this]

theorem skip_at (l : List UInt8) (k : Nat) (c : UInt8) (h : l[k]? = some c) (hb : blankP c = false) (hc : ¬ c = 47) : skipTo l k = k := by
  unfold skipTo
  obtain ⟨hl, rfl⟩ := List.getElem?_eq_some_iff.1 h
  rw [List.drop_eq_getElem_cons hl]
  simp [skipN, hb, hc]

theorem scan_plus {n : Nat} {ds : List UInt8} (h : Spelt n ds) (hn : n < 9223372036854775808) : scanRes (ds ++ [43]) = ([(2, [], (n : Int), 0), (4, [43], 0, ds.length)], 0, 0) := by
  unfold scanRes
  have hlen := h.len
  have hlp : 0 < ds.length := List.length_pos_iff.2 h.ne
  rw [if_neg (by simp; omega)]
  have h0 : skipTo (ds ++ [43]) 0 = 0 := by
    obtain ⟨hall, _, hne, _, _⟩ := h
    match ds, hne, hall with
    | d :: t, _, hall =>
      rw [List.all_cons, Bool.and_eq_true] at hall
      exact skip_at _ 0 d rfl (dig_blank d hall.1) (dig_slash d hall.1)
  have hfu : (ds ++ [43]).length + 1 = ds.length + 1 + 1 := by simp
  rw [h0, hfu]
  rw [scanF_step (by simp) (by simp) (tok_num h hn)]
  rw [skip_at _ ds.length 43 (by rw [List.getElem?_append_right (Nat.le_refl _), Nat.sub_self]; rfl) (by decide +kernel) (by decide +kernel)]
  rw [scanF_step (by simp) (by simp) (tok_plus ds)]
  have he : skipTo (ds ++ [43]) (ds.length + 1) = ds.length + 1 := by
    have := skip_all (ds ++ [43])
    simpa using this
  rw [he, scanF_end (by omega) (by simp)]
  rfl
where
  dig_blank : ∀ b : UInt8, digitP b = true → blankP b = false := byte_all (by decide +kernel)
  dig_slash : ∀ b : UInt8, digitP b = true → ¬ b = 47 := byte_all (by decide +kernel)

theorem scan_letter {n : Nat} {ds : List UInt8} (h : Spelt n ds) : scanRes (ds ++ [120]) = ([], 0, 3) := by
  unfold scanRes
  have hlen := h.len
  have hlp : 0 < ds.length := List.length_pos_iff.2 h.ne
  rw [if_neg (by simp; omega)]
  have h0 : skipTo (ds ++ [120]) 0 = 0 := by
    obtain ⟨hall, _, hne, _, _⟩ := h
    match ds, hne, hall with
    | d :: t, _, hall =>
      rw [List.all_cons, Bool.and_eq_true] at hall
      exact skip_at _ 0 d rfl (scan_plus.dig_blank d hall.1) (scan_plus.dig_slash d hall.1)
  rw [h0]
  rw [scanF_fault (by omega) (by simp) (by simp) (tok_letter h)]

theorem scan_nought {n : Nat} {ds : List UInt8} (h : Spelt n ds) : scanRes (97 :: 32 :: 48 :: ds) = ([], 2, 3) := by
  unfold scanRes
  have hlen := h.len
  have hlp : 0 < ds.length := List.length_pos_iff.2 h.ne
  rw [if_neg (by simp; omega)]
  rw [skip_at _ 0 97 rfl (by decide +kernel) (by decide +kernel)]
  have ht : tokL (97 :: 32 :: 48 :: ds) 0 = some (1, [97], 0, 1) := by
    unfold tokL
    rw [show atP firstP (97 :: 32 :: 48 :: ds) 0 = true from (by show firstP 97 = true; decide +kernel)]
    simp only [if_true]
    have he : endOf innerP (97 :: 32 :: 48 :: ds) 0 = 1 := by
      unfold endOf
      rw [List.drop_zero, List.takeWhile_cons_of_pos (by decide +kernel), List.takeWhile_cons_of_neg (by decide +kernel)]
      rfl
    unfold nameL
    rw [he, if_neg (by omega)]
    have : seg (97 :: 32 :: 48 :: ds) 0 1 = [97] := by simp [seg]
    rw [this]
    rfl
  have hf : (97 :: 32 :: 48 :: ds).length + 1 = ds.length + 2 + 1 + 1 := by simp
  rw [hf, scanF_step (by simp) (by simp) ht]
  have hsk : skipTo (97 :: 32 :: 48 :: ds) 1 = 2 := by
    unfold skipTo
    have hb : blankP 32 = true := by decide +kernel
    have hb2 : blankP 48 = false := by decide +kernel
    show 1 + skipN false (32 :: 48 :: ds) = 2
    simp [skipN, hb, hb2]
  rw [hsk]
  have ht2 : tokL (97 :: 32 :: 48 :: ds) 2 = none := by
    unfold tokL
    rw [show atP firstP (97 :: 32 :: 48 :: ds) 2 = false from (by show firstP 48 = false; decide +kernel), show atP digitP (97 :: 32 :: 48 :: ds) 2 = true from (by show digitP 48 = true; decide +kernel)]
    simp only [Bool.false_eq_true, if_false, if_true]
    have he : endOf digitP (97 :: 32 :: 48 :: ds) 2 = 3 + ds.length := by
      unfold endOf
      show 2 + ((48 :: ds).takeWhile digitP).length = _
      rw [takeWhile_all digitP (48 :: ds) (by rw [List.all_cons, h.all]; decide +kernel)]
      simp; omega
    unfold numL
    rw [he, if_pos ⟨rfl, by omega⟩]
  rw [scanF_fault (by omega) (by simp) (by simp) ht2]

theorem scan_greatest : scanRes [57, 50, 50, 51, 51, 55, 50, 48, 51, 54, 56, 53, 52, 55, 55, 53, 56, 48, 56] = ([], 0, 3) := by decide +kernel

end Go.Proofs.YthggaojpkfdggaaDoor
