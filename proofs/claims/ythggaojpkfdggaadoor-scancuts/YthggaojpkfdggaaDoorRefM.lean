/- The document's marks. -/
import Derived.Test.YthggaojpkfdggaaDoorRef5
namespace Go.Proofs.YthggaojpkfdggaaDoor
open Go.RowKit

def singles : List (List UInt8) := [[40], [41], [123], [125], [91], [93], [44], [59], [46], [58], [61], [60], [62], [43], [45], [42], [47], [37], [38], [33]]
theorem single_eq : ∀ c : UInt8, singleP c = singles.contains [c] := byte_all (by decide +kernel)

/-- The text of the mark at place k; none: nothing. -/
def markT (l : List UInt8) (k : Nat) : List UInt8 := match markL l k with
  | some (_, t, _, _) => t
  | none => []

theorem pairCells (W : World) (k : Nat) (x : List UInt8) (hx : pairs[k]? = some x) : (W.alloc (.cells #[.string ⟨#[58, 61]⟩, .string ⟨#[61, 61]⟩, .string ⟨#[33, 61]⟩, .string ⟨#[60, 61]⟩, .string ⟨#[62, 61]⟩, .string ⟨#[38, 38]⟩, .string ⟨#[124, 124]⟩] 9)).cell? ⟨W.heap.size, k, none⟩ = some (.string ⟨x.toArray⟩) := by
  match k, hx with
  | 0, hx => cases hx; simp
  | 1, hx => cases hx; simp
  | 2, hx => cases hx; simp
  | 3, hx => cases hx; simp
  | 4, hx => cases hx; simp
  | 5, hx => cases hx; simp
  | 6, hx => cases hx; simp
  | n + 7, hx => cases hx

theorem singleCells (W : World) (k : Nat) (x : List UInt8) (hx : singles[k]? = some x) : (W.alloc (.cells #[.string ⟨#[40]⟩, .string ⟨#[41]⟩, .string ⟨#[123]⟩, .string ⟨#[125]⟩, .string ⟨#[91]⟩, .string ⟨#[93]⟩, .string ⟨#[44]⟩, .string ⟨#[59]⟩, .string ⟨#[46]⟩, .string ⟨#[58]⟩, .string ⟨#[61]⟩, .string ⟨#[60]⟩, .string ⟨#[62]⟩, .string ⟨#[43]⟩, .string ⟨#[45]⟩, .string ⟨#[42]⟩, .string ⟨#[47]⟩, .string ⟨#[37]⟩, .string ⟨#[38]⟩, .string ⟨#[33]⟩] 9)).cell? ⟨W.heap.size, k, none⟩ = some (.string ⟨x.toArray⟩) := by
  match k, hx with
  | 0, hx => cases hx; simp
  | 1, hx => cases hx; simp
  | 2, hx => cases hx; simp
  | 3, hx => cases hx; simp
  | 4, hx => cases hx; simp
  | 5, hx => cases hx; simp
  | 6, hx => cases hx; simp
  | 7, hx => cases hx; simp
  | 8, hx => cases hx; simp
  | 9, hx => cases hx; simp
  | 10, hx => cases hx; simp
  | 11, hx => cases hx; simp
  | 12, hx => cases hx; simp
  | 13, hx => cases hx; simp
  | 14, hx => cases hx; simp
  | 15, hx => cases hx; simp
  | 16, hx => cases hx; simp
  | 17, hx => cases hx; simp
  | 18, hx => cases hx; simp
  | 19, hx => cases hx; simp
  | n + 20, hx => cases hx

theorem seg_one (l : List UInt8) (k : Nat) (hk : k < l.length) : seg l k (k + 1) = [l[k]] := by
  unfold seg
  rw [List.drop_eq_getElem_cons hk, show k + 1 - k = 1 by omega]
  rfl
theorem markT_pair (l : List UInt8) (k j : Nat) (x : List UInt8) (hx : pairs[j]? = some x) (h2 : k + 2 ≤ l.length) (he : seg l k (k + 2) = x) : markT l k = x := by
  unfold markT markL
  rw [if_pos ⟨h2, by unfold pairP; rw [List.contains_iff_mem, he]; exact List.mem_of_getElem? hx⟩]
  exact he
theorem markT_single (l : List UInt8) (k j : Nat) (x : List UInt8) (hx : singles[j]? = some x) (hk : k < l.length) (hp : k + 2 ≤ l.length → ∀ (j : Nat) (x : List UInt8), pairs[j]? = some x → ¬ seg l k (k + 2) = x) (he : seg l k (k + 1) = x) : markT l k = x := by
  have h1 : atP singleP l k = true := by
    have : seg l k (k + 1) = [l[k]] := by rw [seg_one l k hk]
    unfold atP
    rw [List.getElem?_eq_getElem hk]
    show singleP l[k] = true
    rw [single_eq, List.contains_iff_mem, ← this, he]
    exact List.mem_of_getElem? hx
  unfold markT markL
  rw [if_neg, if_pos h1]
  · exact he
  · rintro ⟨h2, h3⟩
    unfold pairP at h3
    rw [List.contains_iff_mem] at h3
    obtain ⟨j, hj⟩ := List.mem_iff_getElem?.1 h3
    exact hp h2 j _ hj rfl
theorem markT_none (l : List UInt8) (k : Nat) (hk : k < l.length) (hp : k + 2 ≤ l.length → ∀ (j : Nat) (x : List UInt8), pairs[j]? = some x → ¬ seg l k (k + 2) = x) (hs : ∀ (j : Nat) (x : List UInt8), singles[j]? = some x → ¬ seg l k (k + 1) = x) : markT l k = [] := by
  have h1 : ¬ atP singleP l k = true := by
    have : seg l k (k + 1) = [l[k]] := by rw [seg_one l k hk]
    unfold atP
    rw [List.getElem?_eq_getElem hk]
    show ¬ singleP l[k] = true
    rw [single_eq, List.contains_iff_mem, ← this]
    intro hm
    obtain ⟨j, hj⟩ := List.mem_iff_getElem?.1 hm
    exact hs j _ hj rfl
  unfold markT markL
  rw [if_neg, if_neg h1]
  rintro ⟨h2, h3⟩
  unfold pairP at h3
  rw [List.contains_iff_mem] at h3
  obtain ⟨j, hj⟩ := List.mem_iff_getElem?.1 h3
  exact hp h2 j _ hj rfl

/-- No pair before the j-th stands at place k. -/
def NoPair (s : ByteArray) (k n : Nat) : Prop := k + 2 ≤ s.size → ∀ (j : Nat) (x : List UInt8), j < n → pairs[j]? = some x → ¬ seg s.data.toList k (k + 2) = x
def NoSingle (s : ByteArray) (k n : Nat) : Prop := ∀ (j : Nat) (x : List UInt8), j < n → singles[j]? = some x → ¬ seg s.data.toList k (k + 1) = x
theorem NoPair.start (s : ByteArray) (k : Nat) : NoPair s k 0 := fun _ _ _ h => absurd h (Nat.not_lt_zero _)
theorem NoSingle.start (s : ByteArray) (k : Nat) : NoSingle s k 0 := fun _ _ h => absurd h (Nat.not_lt_zero _)
theorem NoPair.short (s : ByteArray) (k n : Nat) (h : ¬ k + 2 ≤ s.size) : NoPair s k n := fun h2 => absurd h2 h
theorem NoPair.step {s : ByteArray} {k n : Nat} {x : List UInt8} (h : NoPair s k n) (hx : pairs[n]? = some x) (he : ((s.extract k (k + 2)).toList == x) = false) : NoPair s k (n + 1) := by
  intro h2 j y hj hy e
  rcases Nat.lt_succ_iff_lt_or_eq.1 hj with hj | hj
  · exact h h2 j y hj hy e
  · subst hj
    rw [hy] at hx
    cases hx
    rw [extract_toList, e] at he
    simp at he
theorem NoSingle.step {s : ByteArray} {k n : Nat} {x : List UInt8} (h : NoSingle s k n) (hx : singles[n]? = some x) (he : ((s.extract k (k + 1)).toList == x) = false) : NoSingle s k (n + 1) := by
  intro j y hj hy e
  rcases Nat.lt_succ_iff_lt_or_eq.1 hj with hj | hj
  · exact h j y hj hy e
  · subst hj
    rw [hy] at hx
    cases hx
    rw [extract_toList, e] at he
    simp at he

set_option maxHeartbeats 2000000 in
theorem markR_any (s : ByteArray) (hs : s.size ≤ 65536) (k : Nat) (hk : k < s.size) (w : World) :
    Calls Tryd.prog 36 #[.string s, .int .i64 k] w fun e w' => e = .returned (.string ⟨(markT s.data.toList k).toArray⟩) ∧ Below w.heap.size w w' := by
  go_enter Tryd.func36, Tryd.ntmps36
  go_wp2_with fail
  have hb1 : Below w.heap.size w (w.alloc (.cells #[.string ⟨#[58, 61]⟩, .string ⟨#[61, 61]⟩, .string ⟨#[33, 61]⟩, .string ⟨#[60, 61]⟩, .string ⟨#[62, 61]⟩, .string ⟨#[38, 38]⟩, .string ⟨#[124, 124]⟩] 9)) := (Below.refl _ _).alloc (Nat.le_refl _) _
  have HC1 := Lib.hid (pairCells w)
  generalize w.alloc (.cells #[.string ⟨#[58, 61]⟩, .string ⟨#[61, 61]⟩, .string ⟨#[33, 61]⟩, .string ⟨#[60, 61]⟩, .string ⟨#[62, 61]⟩, .string ⟨#[38, 38]⟩, .string ⟨#[124, 124]⟩] 9) = W at *
  go_loop [11] (fun i => ∃ n : Nat, n ≤ 7 ∧ i = .int .i64 n ∧ Hid (NoPair s k n)) (fun i => 7 - (intOf i).toNat)
  case atStart => exact ⟨0, Nat.zero_le _, rfl, NoPair.start _ _⟩
  case round =>
    obtain ⟨n, hn, rfl, HZ⟩ := hrel
    by_cases hlt : n < 7
    · obtain ⟨x, hx⟩ : ∃ x, pairs[n]? = some x := ⟨pairs[n]'(by exact hlt), List.getElem?_eq_getElem _⟩
      have hc := HC1.out n x hx
      have HX := Lib.hid hx
      clear hx
      generalize hxs : (⟨x.toArray⟩ : ByteArray) = t at *
      have HT : Hid (t.toList = x) := by show t.toList = x; rw [← hxs, Lib.toList_data]
      have HT2 := Lib.hid hxs
      clear hxs
      by_cases h2 : k + 2 ≤ s.size
      · cases he : ((s.extract k (k + 2)).toList == t.toList)
        · have HN : Hid (NoPair s k (n + 1)) := HZ.out.step HX.out (by rw [← HT.out]; exact he)
          go_wp2
          go_round
          case rel => exact ⟨n + 1, by omega, by go_num, HN⟩
          case measure => simp [intOf]; omega
        · have HM : Hid (markT s.data.toList k = x) := markT_pair _ _ _ _ HX.out (by simpa using h2) (by rw [← extract_toList, ← HT.out]; simpa using he)
          go_wp2
          go_ret
          exact ⟨by rw [HM.out, HT2.out]; rfl, hb1⟩
      · have HN : Hid (NoPair s k (n + 1)) := NoPair.short _ _ _ h2
        go_wp2
        go_round
        case rel => exact ⟨n + 1, by omega, by go_num, HN⟩
        case measure => simp [intOf]; omega
    · have HP : Hid (NoPair s k 7) := by have : n = 7 := by omega
                                         subst this; exact HZ.out
      clear HC1
      go_wp2_with fail
      have hb2 : Below w.heap.size w (W.alloc (.cells #[.string ⟨#[40]⟩, .string ⟨#[41]⟩, .string ⟨#[123]⟩, .string ⟨#[125]⟩, .string ⟨#[91]⟩, .string ⟨#[93]⟩, .string ⟨#[44]⟩, .string ⟨#[59]⟩, .string ⟨#[46]⟩, .string ⟨#[58]⟩, .string ⟨#[61]⟩, .string ⟨#[60]⟩, .string ⟨#[62]⟩, .string ⟨#[43]⟩, .string ⟨#[45]⟩, .string ⟨#[42]⟩, .string ⟨#[47]⟩, .string ⟨#[37]⟩, .string ⟨#[38]⟩, .string ⟨#[33]⟩] 9)) := hb1.alloc hb1.size _
      have HC2 := Lib.hid (singleCells W)
      generalize W.alloc (.cells #[.string ⟨#[40]⟩, .string ⟨#[41]⟩, .string ⟨#[123]⟩, .string ⟨#[125]⟩, .string ⟨#[91]⟩, .string ⟨#[93]⟩, .string ⟨#[44]⟩, .string ⟨#[59]⟩, .string ⟨#[46]⟩, .string ⟨#[58]⟩, .string ⟨#[61]⟩, .string ⟨#[60]⟩, .string ⟨#[62]⟩, .string ⟨#[43]⟩, .string ⟨#[45]⟩, .string ⟨#[42]⟩, .string ⟨#[47]⟩, .string ⟨#[37]⟩, .string ⟨#[38]⟩, .string ⟨#[33]⟩] 9) = W2 at *
      go_loop [33] (fun i => ∃ n : Nat, n ≤ 20 ∧ i = .int .i64 n ∧ Hid (NoSingle s k n)) (fun i => 20 - (intOf i).toNat)
      case atStart => exact ⟨0, Nat.zero_le _, rfl, NoSingle.start _ _⟩
      case round =>
        obtain ⟨n2, hn2, rfl, HZ2⟩ := hrel
        have HPP : Hid (k + 2 ≤ s.data.toList.length → ∀ (j : Nat) (x : List UInt8), pairs[j]? = some x → ¬ seg s.data.toList k (k + 2) = x) := fun h2 j x hx => HP.out (by simpa using h2) j x (by have := (List.getElem?_eq_some_iff.1 hx).1; have e : pairs.length = 7 := rfl; omega) hx
        by_cases hlt2 : n2 < 20
        · obtain ⟨x, hx⟩ : ∃ x, singles[n2]? = some x := ⟨singles[n2]'(by exact hlt2), List.getElem?_eq_getElem _⟩
          have hc := HC2.out n2 x hx
          have HX := Lib.hid hx
          clear hx
          generalize hxs : (⟨x.toArray⟩ : ByteArray) = t at *
          have HT : Hid (t.toList = x) := by show t.toList = x; rw [← hxs, Lib.toList_data]
          have HT2 := Lib.hid hxs
          clear hxs
          cases he : ((s.extract k (k + 1)).toList == t.toList)
          · have HN : Hid (NoSingle s k (n2 + 1)) := HZ2.out.step HX.out (by rw [← HT.out]; exact he)
            go_wp2
            go_round
            case rel => exact ⟨n2 + 1, by omega, by go_num, HN⟩
            case measure => simp [intOf]; omega
          · have HM : Hid (markT s.data.toList k = x) := markT_single _ _ _ _ HX.out (by simpa using hk) HPP.out (by rw [← extract_toList, ← HT.out]; simpa using he)
            go_wp2
            go_ret
            exact ⟨by rw [HM.out, HT2.out]; rfl, hb2⟩
        · have HM : Hid (markT s.data.toList k = []) := markT_none _ _ (by simpa using hk) HPP.out (fun j x hx => HZ2.out j x (by have := (List.getElem?_eq_some_iff.1 hx).1; have e : singles.length = 20 := rfl; omega) hx)
          go_wp2
          go_ret
          exact ⟨by rw [HM.out]; rfl, hb2⟩

end Go.Proofs.YthggaojpkfdggaaDoor
