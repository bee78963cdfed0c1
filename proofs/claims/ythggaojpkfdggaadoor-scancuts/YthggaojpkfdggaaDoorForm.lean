/- The forms of tokens as one function on bytes, and the reader's four forms held against it. -/
import Derived.Test.YthggaojpkfdggaaDoorText
namespace Go.Proofs.YthggaojpkfdggaaDoor
open Go.RowKit

/-- Kind, text, number, and where the token ends. -/
abbrev Tok := Int × List UInt8 × Int × Nat

def seg (l : List UInt8) (k e : Nat) : List UInt8 := (l.drop k).take (e - k)

def nameL (l : List UInt8) (k : Nat) : Option Tok :=
  if 64 < endOf innerP l k - k then none else some (kindOf (seg l k (endOf innerP l k)), seg l k (endOf innerP l k), 0, endOf innerP l k)
def numL (l : List UInt8) (k : Nat) : Option Tok :=
  if l[k]? = some 48 ∧ k + 1 < endOf digitP l k then none
  else if atP firstP l (endOf digitP l k) = true then none
  else if 9223372036854775808 ≤ numOf (seg l k (endOf digitP l k)) then none
  else some (2, [], numOf (seg l k (endOf digitP l k)), endOf digitP l k)
def textL (l : List UInt8) (k : Nat) : Option Tok := match textRes l k with
  | some (t, e) => some (3, t, 0, e)
  | none => none
def markL (l : List UInt8) (k : Nat) : Option Tok :=
  if k + 2 ≤ l.length ∧ pairP (seg l k (k + 2)) = true then some (4, seg l k (k + 2), 0, k + 2)
  else if atP singleP l k = true then some (4, seg l k (k + 1), 0, k + 1)
  else none
def tokL (l : List UInt8) (k : Nat) : Option Tok :=
  if atP firstP l k = true then nameL l k
  else if atP digitP l k = true then numL l k
  else if atP quoteP l k = true then textL l k
  else markL l k

def tokVal (k : Nat) : Option Tok → Value
  | some (kd, t, n, e) => .tuple #[tokV kd ⟨t.toArray⟩ n k, .int .i64 e, .bool true]
  | none => noTok

theorem extract_eq (s : ByteArray) (k e : Nat) : s.extract k e = ⟨(seg s.data.toList k e).toArray⟩ := by
  have h := Lib.extract_data s k e
  unfold seg
  rw [← h]
theorem extract_toList (s : ByteArray) (k e : Nat) : (s.extract k e).toList = seg s.data.toList k e := by
  rw [Lib.toList_data, Lib.extract_data]; rfl

theorem name_all (a : AB) (B : Nat) (w : World) (hA : Alpha a B w) (s : ByteArray) (hs : s.size ≤ 65536) (k : Nat) (hk : k < s.size) :
    Calls Tryd.prog 30 #[a.rd s, .int .i64 k] w fun e w' => e = .returned (tokVal k (nameL s.data.toList k)) ∧ Below w.heap.size w w' := by
  unfold nameL
  by_cases h : 64 < endOf innerP s.data.toList k - k
  · rw [if_pos h]; exact name_long a B w hA s hs k hk h
  · rw [if_neg h]
    have := name_ok a B w hA s hs k hk _ rfl h
    rw [extract_toList, extract_eq] at this
    exact this

theorem getElem_list (s : ByteArray) (k : Nat) (hk : k < s.size) : s.data.toList[k]? = some s[k] := by
  rw [List.getElem?_eq_getElem (by simpa using hk)]; rfl

theorem mark_all (a : AB) (B : Nat) (w : World) (hA : Alpha a B w) (s : ByteArray) (hs : s.size ≤ 65536) (k : Nat) (hk : k < s.size) :
    Calls Tryd.prog 33 #[a.rd s, .int .i64 k] w fun e w' => e = .returned (tokVal k (markL s.data.toList k)) ∧ Below w.heap.size w w' := by
  unfold markL
  have hll : s.data.toList.length = s.size := by simp
  rw [hll, atP_lt hk]
  by_cases h2 : k + 2 ≤ s.size
  · cases hp : pairP (seg s.data.toList k (k + 2))
    · rw [if_neg (by simp)]
      cases hg : singleP s[k]
      · rw [if_neg (by simp)]
        exact mark_s0_no a B w hA s hs k hk hg h2 (by rw [extract_toList]; exact hp)
      · rw [if_pos rfl]
        have := mark_s1_no a B w hA s hs k hk hg h2 (by rw [extract_toList]; exact hp)
        rw [extract_eq] at this
        exact this
    · rw [if_pos ⟨h2, rfl⟩]
      cases hg : singleP s[k]
      · have := mark_s0_yes a B w hA s hs k hk hg h2 (by rw [extract_toList]; exact hp)
        rw [extract_eq] at this
        exact this
      · have := mark_s1_yes a B w hA s hs k hk hg h2 (by rw [extract_toList]; exact hp)
        rw [extract_eq] at this
        exact this
  · rw [if_neg (by omega)]
    cases hg : singleP s[k]
    · rw [if_neg (by simp)]
      exact mark_s0_end a B w hA s hs k hk hg h2
    · rw [if_pos rfl]
      have := mark_s1_end a B w hA s hs k hk hg h2
      rw [extract_eq] at this
      exact this

theorem seg_takeWhile (p : UInt8 → Bool) (l : List UInt8) (k : Nat) : seg l k (endOf p l k) = (l.drop k).takeWhile p := by
  unfold seg endOf
  rw [Nat.add_sub_cancel_left]
  have h : ∀ m : List UInt8, m.take (m.takeWhile p).length = m.takeWhile p := by
    intro m
    induction m with
    | nil => rfl
    | cons c r ih => by_cases hc : p c <;> simp [hc, ih]
  exact h _

theorem all_takeWhile (p : UInt8 → Bool) (m : List UInt8) : (m.takeWhile p).all p = true := by
  induction m with
  | nil => rfl
  | cons c r ih => by_cases hc : p c <;> simp [hc]

theorem number_all (a : AB) (B : Nat) (w : World) (hA : Alpha a B w) (hG : Gl w) (s : ByteArray) (hs : s.size ≤ 65536) (k : Nat) (hk : k < s.size) (hd : digitP s[k] = true) :
    Calls Tryd.prog 31 #[a.rd s, .int .i64 k] w fun e w' => e = .returned (tokVal k (numL s.data.toList k)) ∧ Below w.heap.size w w' := by
  unfold numL
  rw [getElem_list s k hk]
  have hseg := seg_takeWhile digitP s.data.toList k
  have hall : (seg s.data.toList k (endOf digitP s.data.toList k)).all digitP = true := by rw [hseg]; exact all_takeWhile _ _
  have hne : seg s.data.toList k (endOf digitP s.data.toList k) ≠ [] := by
    rw [hseg, List.drop_eq_getElem_cons (by simpa using hk), List.takeWhile_cons_of_pos (by exact hd)]
    simp
  have hpi := parseInt_digits _ hall hne
  have hex : (s.extract k (endOf digitP s.data.toList k)).data.toList = seg s.data.toList k (endOf digitP s.data.toList k) := by rw [Lib.extract_data]; rfl
  by_cases h48 : s[k] = 48
  · have e48 : ((s[k].toNat : Int) == 48) = true := by rw [h48]; rfl
    by_cases hlt : k + 1 < endOf digitP s.data.toList k
    · rw [if_pos ⟨by rw [h48], hlt⟩]
      exact number_nought a B w hA s hs k hk _ rfl e48 hlt
    · rw [if_neg (by omega)]
      by_cases hf : atP firstP s.data.toList (endOf digitP s.data.toList k) = true
      · rw [if_pos hf]; exact number_letter_b a B w hA s hs k hk _ rfl e48 hlt hf
      · rw [if_neg hf]
        by_cases hr : 9223372036854775808 ≤ numOf (seg s.data.toList k (endOf digitP s.data.toList k))
        · rw [if_pos hr]; exact number_range_b a B w hA s hs k hk _ rfl e48 hlt (by simpa using hf) hG (by rw [hex]; exact hpi.1 hr)
        · rw [if_neg hr]; exact number_ok_b a B w hA s hs k hk _ rfl e48 hlt (by simpa using hf) _ (by rw [hex]; exact hpi.2 hr)
  · have e48 : ((s[k].toNat : Int) == 48) = false := beqF (d := 48) rfl h48
    rw [if_neg (by intro h; exact h48 (Option.some.inj h.1))]
    by_cases hf : atP firstP s.data.toList (endOf digitP s.data.toList k) = true
    · rw [if_pos hf]; exact number_letter_a a B w hA s hs k hk _ rfl e48 hf
    · rw [if_neg hf]
      by_cases hr : 9223372036854775808 ≤ numOf (seg s.data.toList k (endOf digitP s.data.toList k))
      · rw [if_pos hr]; exact number_range_a a B w hA s hs k hk _ rfl e48 (by simpa using hf) hG (by rw [hex]; exact hpi.1 hr)
      · rw [if_neg hr]; exact number_ok_a a B w hA s hs k hk _ rfl e48 (by simpa using hf) _ (by rw [hex]; exact hpi.2 hr)

theorem text_all (a : AB) (B : Nat) (w : World) (hA : Alpha a B w) (hG : Gl w) (s : ByteArray) (hs : s.size ≤ 65536) (k : Nat) (hk : k < s.size) :
    Calls Tryd.prog 32 #[a.rd s, .int .i64 k] w fun e w' => e = .returned (tokVal k (textL s.data.toList k)) ∧ Below w.heap.size w w' := by
  have h := text_any a B w hA hG s hs k hk
  unfold textL
  cases hr : textRes s.data.toList k with
  | none => rw [hr] at h; exact h
  | some x => obtain ⟨t, e⟩ := x; rw [hr] at h; exact h

end Go.Proofs.YthggaojpkfdggaaDoor
