/- The document's numbers. -/
import Derived.Test.YthggaojpkfdggaaDoorRef5
namespace Go.Proofs.YthggaojpkfdggaaDoor
open Go.RowKit

theorem numFrom_app (a : List UInt8) (c : UInt8) (acc : Nat) : numFrom acc (a ++ [c]) = numFrom acc a * 10 + (c.toNat - 48) := by
  induction a generalizing acc with
  | nil => rfl
  | cons d r ih => exact ih _

theorem seg_succ (l : List UInt8) (k m : Nat) (hk : k ≤ m) (hm : m < l.length) : seg l k (m + 1) = seg l k m ++ [l[m]] := by
  unfold seg
  rw [Nat.succ_sub hk, List.take_add_one]
  congr 1
  rw [List.getElem?_drop, show k + (m - k) = m by omega, List.getElem?_eq_getElem hm]
  rfl

theorem seg_self (l : List UInt8) (k : Nat) : seg l k k = [] := by unfold seg; rw [Nat.sub_self]; rfl
theorem seg_len (l : List UInt8) (k m : Nat) (hm : m ≤ l.length) : (seg l k m).length = m - k := by
  unfold seg; simp; omega

theorem num_succ (s : ByteArray) (k m : Nat) (hk : k ≤ m) (hm : m < s.size) : numOf (seg s.data.toList k (m + 1)) = numOf (seg s.data.toList k m) * 10 + (s[m].toNat - 48) := by
  rw [seg_succ _ _ _ hk (by simpa using hm)]
  unfold numOf
  rw [numFrom_app]
  rfl

theorem num_lt (l : List UInt8) (acc : Nat) (h : l.all digitP = true) : numFrom acc l < (acc + 1) * 10 ^ l.length := by
  induction l generalizing acc with
  | nil => show acc < (acc + 1) * 1; omega
  | cons c r ih =>
    rw [List.all_cons, Bool.and_eq_true] at h
    have hd := (digit_iff c).1 h.1
    have h1 := ih (acc * 10 + (c.toNat - 48)) h.2
    have h2 : acc * 10 + (c.toNat - 48) + 1 ≤ (acc + 1) * 10 := by omega
    have h3 : (acc + 1) * 10 ^ (c :: r).length = (acc + 1) * 10 * 10 ^ r.length := by
      rw [List.length_cons, Nat.pow_succ, Nat.mul_comm (10 ^ r.length) 10, ← Nat.mul_assoc]
    rw [h3]
    exact Nat.lt_of_lt_of_le h1 (Nat.mul_le_mul_right _ h2)

theorem num_gt (l : List UInt8) (acc : Nat) : acc * 10 ^ l.length ≤ numFrom acc l := by
  induction l generalizing acc with
  | nil => show acc * 1 ≤ acc; omega
  | cons c r ih =>
    have := ih (acc * 10 + (c.toNat - 48))
    show _ ≤ numFrom (acc * 10 + (c.toNat - 48)) r
    refine Nat.le_trans ?_ this
    rw [List.length_cons, Nat.pow_succ, Nat.mul_comm (10 ^ r.length) 10, ← Nat.mul_assoc]
    exact Nat.mul_le_mul_right _ (by omega)

/-- What the document's number answers: the number and where it ends. -/
def numR : Option Tok → Value
  | some (_, _, v, e) => .tuple #[.int .i64 v, .int .i64 e]
  | none => .tuple #[.int .i64 0, .int .i64 (-1)]

theorem end_seg_all (p : UInt8 → Bool) (l : List UInt8) (k m : Nat) (hm : m ≤ endOf p l k) : (seg l k m).all p = true := by
  rw [List.all_eq_true]
  intro x hx
  have : x ∈ seg l k (endOf p l k) := by
    unfold seg at hx ⊢
    exact List.take_subset_take_left (l.drop k) (by omega) hx
  rw [seg_takeWhile] at this
  exact List.all_eq_true.1 (all_takeWhile p _) x this

theorem numL_long (s : ByteArray) (k : Nat) (hk : k < s.size) (hd : digitP s[k] = true) (h : 20 ≤ endOf digitP s.data.toList k - k) : numL s.data.toList k = none := by
  unfold numL
  have hle := endOf_le digitP s.data.toList k (by simp; omega)
  rw [getElem_list s k hk]
  by_cases h48 : s[k] = 48
  · rw [if_pos ⟨by rw [h48], by omega⟩]
  · rw [if_neg (by intro hh; exact h48 (Option.some.inj hh.1))]
    by_cases hf : atP firstP s.data.toList (endOf digitP s.data.toList k) = true
    · rw [if_pos hf]
    · rw [if_neg hf, if_pos]
      have hd' := (digit_iff s[k]).1 hd
      have hne : s[k].toNat ≠ 48 := fun e => h48 (UInt8.toNat_inj.1 (by rw [e]; rfl))
      have hl := seg_len s.data.toList k _ hle
      match hsg : seg s.data.toList k (endOf digitP s.data.toList k), hl with
      | [], hl => simp at hl; omega
      | c :: r, hl =>
        have hc : c = s[k] := by
          have h0 : (seg s.data.toList k (endOf digitP s.data.toList k))[0]? = some s[k] := by
            unfold seg
            rw [List.getElem?_take_of_lt (by omega), List.getElem?_drop, Nat.add_zero, getElem_list s k hk]
          rw [hsg] at h0
          simpa using h0
        subst hc
        have := num_gt r (0 * 10 + (s[k].toNat - 48))
        show _ ≤ numFrom (0 * 10 + (s[k].toNat - 48)) r
        refine Nat.le_trans ?_ this
        have h1 : 19 ≤ r.length := by simp at hl; omega
        have h2 : 10 ^ 19 ≤ 10 ^ r.length := Nat.pow_le_pow_right (by omega) h1
        have h3 : 1 * 10 ^ r.length ≤ (0 * 10 + (s[k].toNat - 48)) * 10 ^ r.length := Nat.mul_le_mul_right _ (by omega)
        have h4 : (9223372036854775808 : Nat) ≤ 10 ^ 19 := by decide
        omega

end Go.Proofs.YthggaojpkfdggaaDoor
