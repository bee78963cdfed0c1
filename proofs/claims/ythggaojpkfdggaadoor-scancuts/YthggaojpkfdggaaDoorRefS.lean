/- What the document's strings mean, step by step. -/
import Derived.Test.YthggaojpkfdggaaDoorRefM
namespace Go.Proofs.YthggaojpkfdggaaDoor
open Go.RowKit

/-- What the document's str answers. -/
def strRV : Option (List UInt8 × Nat) → Value
  | some (t, e) => .tuple #[.string ⟨t.toArray⟩, .int .i64 e]
  | none => .tuple #[.string ⟨#[]⟩, .int .i64 (-1)]

/-- What the loop keeps: what is read so far, and what is left. -/
structure StrTo (l : List UInt8) (k i : Nat) (out : List UInt8) : Prop where
  low : k + 1 ≤ i
  eq : strL (l.drop (k + 1)) = shiftS out (i - (k + 1)) (strL (l.drop i))

theorem StrTo.start (l : List UInt8) (k : Nat) : StrTo l k (k + 1) [] := ⟨Nat.le_refl _, by rw [Nat.sub_self, shiftS_nil]⟩

theorem StrTo.step {l : List UInt8} {k i : Nat} {out bs : List UInt8} {n : Nat} (h : StrTo l k i out) (hs : strL (l.drop i) = shiftS bs n (strL (l.drop (i + n)))) : StrTo l k (i + n) (out ++ bs) := by
  have hl := h.low
  refine ⟨by omega, ?_⟩
  rw [h.eq, hs, shiftS_shiftS]
  congr 1
  omega

theorem StrTo.none {l : List UInt8} {k i : Nat} {out : List UInt8} (h : StrTo l k i out) (hn : strL (l.drop i) = .none) : textRes l k = .none := textRes_none h.eq hn

theorem drop_at (s : ByteArray) (i : Nat) (h : i < s.size) : s.data.toList.drop i = s[i] :: s.data.toList.drop (i + 1) := by
  have hl : i < s.data.toList.length := by simpa using h
  rw [List.drop_eq_getElem_cons hl]
  rfl

theorem plain_of : ∀ c : UInt8, ¬ c = 34 → ¬ c = 10 → ¬ c = 92 → plainP c = true := byte_all (by decide +kernel)
theorem quoteP34 : quoteP 34 = true := by decide

theorem strL_pl (c : UInt8) (r : List UInt8) (h : plainP c = true) : strL (c :: r) = shiftS [c] 1 (strL r) := by
  rw [strL_cons, plain_not_quote c h, if_neg (by decide), if_pos h]

theorem strL_nl (r : List UInt8) : strL (10 :: r) = none := by
  rw [strL_cons, if_neg (by decide), if_neg (by decide)]
  cases r <;> rfl

theorem strL_92 (r : List UInt8) : strL (92 :: r) = match escL (92 :: r) with
    | some (b, n) => shiftS [b] n (strL ((92 :: r).drop n))
    | none => none := by
  rw [strL_cons, if_neg (by decide), if_neg (by decide)]
  cases escL (92 :: r) <;> rfl

theorem strL_92nil : strL [92] = none := by rw [strL_92]; rfl
theorem strL_n (r : List UInt8) : strL (92 :: 110 :: r) = shiftS [10] 2 (strL r) := by rw [strL_92]; rfl
theorem strL_t (r : List UInt8) : strL (92 :: 116 :: r) = shiftS [9] 2 (strL r) := by rw [strL_92]; rfl
theorem strL_self (d : UInt8) (r : List UInt8) (h : d = 34 ∨ d = 92) : strL (92 :: d :: r) = shiftS [d] 2 (strL r) := by
  rcases h with rfl | rfl
  · rw [strL_92]; rfl
  · rw [strL_92]; rfl
theorem strL_other (d : UInt8) (r : List UInt8) (h1 : ¬ d = 110) (h2 : ¬ d = 116) (h3 : ¬ d = 34) (h4 : ¬ d = 92) (h5 : ¬ d = 120) : strL (92 :: d :: r) = none := by
  have he : escL (92 :: d :: r) = none := by
    unfold escL
    dsimp only
    rw [if_pos rfl, if_neg h1, if_neg h2, if_neg (by rintro (h | h) <;> contradiction), if_neg h5]
  rw [strL_92, he]
theorem strL_hexShort (r : List UInt8) (h : r.length < 2) : strL (92 :: 120 :: r) = none := by
  rw [strL_92]
  match r, h with
  | [], _ => rfl
  | [x], _ => rfl
theorem strL_hex (x y : UInt8) (r : List UInt8) : strL (92 :: 120 :: x :: y :: r) = match hexFrom 0 [x, y] with
    | some v => shiftS [UInt8.ofNat v] 4 (strL r)
    | none => none := by
  rw [strL_92]
  cases hx : hexFrom 0 [x, y] with
  | none =>
    have he : escL (92 :: 120 :: x :: y :: r) = none := by
      unfold escL
      dsimp only
      rw [if_pos rfl, if_neg (by decide), if_neg (by decide), if_neg (by decide), if_pos rfl, hx]
    rw [he]
  | some v =>
    have he : escL (92 :: 120 :: x :: y :: r) = some (UInt8.ofNat v, 4) := by
      unfold escL
      dsimp only
      rw [if_pos rfl, if_neg (by decide), if_neg (by decide), if_neg (by decide), if_pos rfl, hx]
    rw [he]
    rfl

theorem hexI_some {c : UInt8} (h : 0 ≤ hexI c) : ∃ v : Nat, hexV c = some v ∧ hexI c = v ∧ v ≤ 15 := by
  unfold hexI at h ⊢
  cases hv : hexV c with
  | none => rw [hv] at h; exact absurd h (by decide)
  | some v => exact ⟨v, rfl, rfl, hexV_le c v hv⟩
theorem hexI_none {c : UInt8} (h : hexI c < 0) : hexV c = none ∧ hexI c = -1 := by
  unfold hexI at h ⊢
  cases hv : hexV c with
  | none => exact ⟨rfl, rfl⟩
  | some v => rw [hv] at h; dsimp only at h; omega

theorem StrTo.fin {s : ByteArray} {k i : Nat} {out : List UInt8} (h : StrTo s.data.toList k i out) (hi : ¬ i < s.size) : textRes s.data.toList k = .none := by
  refine h.none ?_
  rw [List.drop_of_length_le (by simp; omega)]
  rfl
theorem StrTo.long {s : ByteArray} {k i : Nat} {out : List UInt8} (h : StrTo s.data.toList k i out) (hl : 1024 < out.length) : textRes s.data.toList k = .none := textRes_long h.eq hl
theorem StrTo.shut {s : ByteArray} {k i : Nat} {out : List UInt8} (h : StrTo s.data.toList k i out) (hi : i < s.size) (hc : s[i] = 34) (hl : ¬ 1024 < out.length) : textRes s.data.toList k = some (out, i + 1) :=
  textRes_quote h.eq h.low (by rw [atP_lt hi, hc]; rfl) hl
theorem StrTo.nl {s : ByteArray} {k i : Nat} {out : List UInt8} (h : StrTo s.data.toList k i out) (hi : i < s.size) (hc : s[i] = 10) : textRes s.data.toList k = .none := by
  refine h.none ?_
  rw [drop_at s i hi, hc, strL_nl]
theorem StrTo.plain {s : ByteArray} {k i : Nat} {out : List UInt8} (h : StrTo s.data.toList k i out) (hi : i < s.size) (h1 : ¬ s[i] = 34) (h2 : ¬ s[i] = 10) (h3 : ¬ s[i] = 92) : StrTo s.data.toList k (i + 1) (out ++ [s[i]]) := by
  refine h.step ?_
  rw [drop_at s i hi, strL_pl _ _ (plain_of _ h1 h2 h3)]
theorem StrTo.short {s : ByteArray} {k i : Nat} {out : List UInt8} (h : StrTo s.data.toList k i out) (hi : i < s.size) (hc : s[i] = 92) (hi1 : i + 1 = s.size) : textRes s.data.toList k = .none := by
  refine h.none ?_
  rw [drop_at s i hi, hc, List.drop_of_length_le (by simp; omega), strL_92nil]

theorem drop2 {s : ByteArray} {i : Nat} (hi : i < s.size) (hi1 : i + 1 < s.size) (hc : s[i] = 92) : s.data.toList.drop i = 92 :: s[i + 1] :: s.data.toList.drop (i + 2) := by
  rw [drop_at s i hi, drop_at s (i + 1) hi1, hc]

theorem StrTo.n {s : ByteArray} {k i : Nat} {out : List UInt8} (h : StrTo s.data.toList k i out) (hi : i < s.size) (hi1 : i + 1 < s.size) (hc : s[i] = 92) (hd : s[i + 1] = 110) : StrTo s.data.toList k (i + 2) (out ++ [10]) := by
  refine h.step ?_
  rw [drop2 hi hi1 hc, hd, strL_n]
theorem StrTo.t {s : ByteArray} {k i : Nat} {out : List UInt8} (h : StrTo s.data.toList k i out) (hi : i < s.size) (hi1 : i + 1 < s.size) (hc : s[i] = 92) (hd : s[i + 1] = 116) : StrTo s.data.toList k (i + 2) (out ++ [9]) := by
  refine h.step ?_
  rw [drop2 hi hi1 hc, hd, strL_t]
theorem StrTo.self {s : ByteArray} {k i : Nat} {out : List UInt8} (h : StrTo s.data.toList k i out) (hi : i < s.size) (hi1 : i + 1 < s.size) (hc : s[i] = 92) (hd : s[i + 1] = 34 ∨ s[i + 1] = 92) : StrTo s.data.toList k (i + 2) (out ++ [s[i + 1]]) := by
  refine h.step ?_
  rw [drop2 hi hi1 hc, strL_self _ _ hd]
theorem StrTo.other {s : ByteArray} {k i : Nat} {out : List UInt8} (h : StrTo s.data.toList k i out) (hi : i < s.size) (hi1 : i + 1 < s.size) (hc : s[i] = 92) (h1 : ¬ s[i + 1] = 110) (h2 : ¬ s[i + 1] = 116) (h3 : ¬ s[i + 1] = 34) (h4 : ¬ s[i + 1] = 92) (h5 : ¬ s[i + 1] = 120) : textRes s.data.toList k = .none := by
  refine h.none ?_
  rw [drop2 hi hi1 hc, strL_other _ _ h1 h2 h3 h4 h5]
theorem StrTo.hexShort {s : ByteArray} {k i : Nat} {out : List UInt8} (h : StrTo s.data.toList k i out) (hi : i < s.size) (hi1 : i + 1 < s.size) (hc : s[i] = 92) (hd : s[i + 1] = 120) (hs : s.size ≤ i + 3) : textRes s.data.toList k = .none := by
  refine h.none ?_
  rw [drop2 hi hi1 hc, hd, strL_hexShort _ (by rw [List.length_drop]; simp; omega)]
theorem drop4 {s : ByteArray} {i : Nat} (hi : i < s.size) (hi1 : i + 1 < s.size) (hi3 : i + 3 < s.size) (hc : s[i] = 92) (hd : s[i + 1] = 120) : s.data.toList.drop i = 92 :: 120 :: s[i + 2] :: s[i + 3] :: s.data.toList.drop (i + 4) := by
  rw [drop2 hi hi1 hc, hd, drop_at s (i + 2) (by omega), drop_at s (i + 3) hi3]
theorem StrTo.hexNone {s : ByteArray} {k i : Nat} {out : List UInt8} (h : StrTo s.data.toList k i out) (hi : i < s.size) (hi1 : i + 1 < s.size) (hi3 : i + 3 < s.size) (hc : s[i] = 92) (hd : s[i + 1] = 120) (hx : hexI s[i + 2] < 0 ∨ hexI s[i + 3] < 0) : textRes s.data.toList k = .none := by
  refine h.none ?_
  have hn : hexFrom 0 [s[i + 2], s[i + 3]] = .none := by
    show (match hexV s[i + 2] with | some v => hexFrom (0 * 16 + v) [s[i + 3]] | .none => .none) = .none
    rcases hx with hx | hx
    · rw [(hexI_none hx).1]
    · cases hexV s[i + 2] with
      | none => rfl
      | some v =>
        show (match hexV s[i + 3] with | some u => hexFrom ((0 * 16 + v) * 16 + u) [] | .none => .none) = .none
        rw [(hexI_none hx).1]
  rw [drop4 hi hi1 hi3 hc hd, strL_hex, hn]
theorem StrTo.hexSome {s : ByteArray} {k i : Nat} {out : List UInt8} (h : StrTo s.data.toList k i out) (hi : i < s.size) (hi1 : i + 1 < s.size) (hi3 : i + 3 < s.size) (hc : s[i] = 92) (hd : s[i + 1] = 120) (u v : Nat) (hu : hexV s[i + 2] = some u) (hv : hexV s[i + 3] = some v) : StrTo s.data.toList k (i + 4) (out ++ [UInt8.ofNat (u * 16 + v)]) := by
  refine h.step ?_
  have hn : hexFrom 0 [s[i + 2], s[i + 3]] = some (u * 16 + v) := by
    show (match hexV s[i + 2] with | some v => hexFrom (0 * 16 + v) [s[i + 3]] | .none => .none) = _
    rw [hu]
    show (match hexV s[i + 3] with | some v => hexFrom ((0 * 16 + u) * 16 + v) [] | .none => .none) = _
    rw [hv]
    show some ((0 * 16 + u) * 16 + v) = _
    congr 1
    omega
  rw [drop4 hi hi1 hi3 hc hd, strL_hex, hn]

end Go.Proofs.YthggaojpkfdggaaDoor
