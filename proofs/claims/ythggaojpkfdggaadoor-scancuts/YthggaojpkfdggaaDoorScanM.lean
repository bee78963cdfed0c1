/- Scan as a function on bytes: the plain mathematics. -/
import Derived.Test.YthggaojpkfdggaaDoorToken
namespace Go.Proofs.YthggaojpkfdggaaDoor
open Go.RowKit

/-- A token: kind, text, number, place. -/
abbrev TkA := Int × List UInt8 × Int × Nat

def tkCells (t : TkA) : List Value := [.int .i64 t.1, .string ⟨t.2.1.toArray⟩, .int .i64 t.2.2.1, .int .i64 t.2.2.2]
def tksCells (ts : List TkA) : List Value := ts.flatMap tkCells

def scanF (l : List UInt8) : Nat → Nat → List TkA → List TkA × Nat × Int
  | 0, _, acc => (acc, 0, 0)
  | f + 1, a, acc => if a < l.length then
      (if acc.length = 20000 then ([], a, 4) else match tokL l a with
        | none => ([], a, 3)
        | some (kd, t, n, e) => scanF l f (skipTo l e) (acc ++ [(kd, t, n, a)]))
    else (acc, 0, 0)
def scanRes (l : List UInt8) : List TkA × Nat × Int := if 65536 < l.length then ([], 0, 13) else scanF l (l.length + 1) (skipTo l 0) []

theorem tksCells_length (ts : List TkA) : (tksCells ts).length = ts.length * 4 := by
  induction ts with
  | nil => rfl
  | cons t r ih => simp [tksCells, tkCells] at ih ⊢; omega

theorem first_inner : ∀ c : UInt8, firstP c = true → innerP c = true := byte_all (by decide +kernel)

theorem endOf_gt {p : UInt8 → Bool} {l : List UInt8} {k : Nat} (h : atP p l k = true) : k < endOf p l k := by
  have := endOf_yes h
  have := endOf_ge p l (k + 1)
  omega

theorem at_mono {p q : UInt8 → Bool} (hpq : ∀ c, p c = true → q c = true) {l : List UInt8} {k : Nat} (h : atP p l k = true) : atP q l k = true := by
  unfold atP at h ⊢
  cases hk : l[k]? with
  | none => rw [hk] at h; cases h
  | some c => rw [hk] at h; exact hpq c h

theorem strF_len : ∀ (f : Nat) (l t : List UInt8) (n : Nat), strF f l = some (t, n) → 1 ≤ n ∧ n ≤ l.length := by
  intro f
  induction f with
  | zero => intro l t n h; cases h
  | succ f ih =>
    intro l t n h
    match l with
    | [] => cases h
    | c :: r =>
      simp only [strF] at h
      split at h
      · cases h; simp
      · split at h
        · cases hs : strF f r with
          | none => rw [hs] at h; cases h
          | some x =>
            obtain ⟨t', n'⟩ := x
            rw [hs] at h
            cases h
            have := ih r t' n' hs
            simp; omega
        · split at h
          · rename_i b m he
            have hm := escL_len _ _ _ he
            cases hs : strF f ((c :: r).drop m) with
            | none => rw [hs] at h; cases h
            | some x =>
              obtain ⟨t', n'⟩ := x
              rw [hs] at h
              cases h
              have := ih _ t' n' hs
              rw [List.length_drop] at this
              omega
          · cases h

theorem tokL_end {l : List UInt8} {k : Nat} {kd : Int} {t : List UInt8} {n : Int} {e : Nat} (hk : k < l.length) (h : tokL l k = some (kd, t, n, e)) : k < e ∧ e ≤ l.length := by
  unfold tokL at h
  split at h
  · rename_i hf
    unfold nameL at h
    split at h
    · cases h
    · cases h
      exact ⟨endOf_gt (at_mono first_inner hf), endOf_le _ _ _ (by omega)⟩
  · split at h
    · rename_i hd
      unfold numL at h
      split at h
      · cases h
      · split at h
        · cases h
        · split at h
          · cases h
          · cases h
            exact ⟨endOf_gt hd, endOf_le _ _ _ (by omega)⟩
    · split at h
      · unfold textL at h
        split at h
        · rename_i t' e' hr
          cases h
          unfold textRes at hr
          split at hr
          · rename_i t2 n2 hs
            split at hr
            · cases hr
              have := strF_len _ _ _ _ hs
              rw [List.length_drop] at this
              omega
            · cases hr
          · cases hr
        · cases h
      · unfold markL at h
        split at h
        · cases h; omega
        · split at h
          · cases h; omega
          · cases h

theorem scanF_end {l : List UInt8} {f a : Nat} {acc : List TkA} (hf : 0 < f) (h : ¬ a < l.length) : scanF l f a acc = (acc, 0, 0) := by
  match f, hf with
  | f + 1, _ => simp only [scanF]; rw [if_neg h]
theorem scanF_large {l : List UInt8} {f a : Nat} {acc : List TkA} (hf : 0 < f) (h : a < l.length) (hl : acc.length = 20000) : scanF l f a acc = ([], a, 4) := by
  match f, hf with
  | f + 1, _ => simp only [scanF]; rw [if_pos h, if_pos hl]
theorem scanF_fault {l : List UInt8} {f a : Nat} {acc : List TkA} (hf : 0 < f) (h : a < l.length) (hl : ¬ acc.length = 20000) (ht : tokL l a = none) : scanF l f a acc = ([], a, 3) := by
  match f, hf with
  | f + 1, _ => simp only [scanF]; rw [if_pos h, if_neg hl, ht]
theorem scanF_step {l : List UInt8} {f a : Nat} {acc : List TkA} {kd : Int} {t : List UInt8} {n : Int} {e : Nat} (h : a < l.length) (hl : ¬ acc.length = 20000) (ht : tokL l a = some (kd, t, n, e)) : scanF l (f + 1) a acc = scanF l f (skipTo l e) (acc ++ [(kd, t, n, a)]) := by
  simp only [scanF]; rw [if_pos h, if_neg hl, ht]

end Go.Proofs.YthggaojpkfdggaaDoor
