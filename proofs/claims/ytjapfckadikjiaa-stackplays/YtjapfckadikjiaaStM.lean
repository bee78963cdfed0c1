/- A stack of frames, plainly. -/
namespace Go.Proofs.Ytjapfckadikjiaa

/-- A word: its number, and is it a pointer? -/
structure Wo where
  v : Int
  p : Bool
/-- A stack: where it stands, how many words it may have, its frames. -/
structure Sk where
  base : Int
  most : Int
  fr : List (List Wo)
def Sk.ws (s : Sk) : List Wo := s.fr.flatten
/-- How many words stand ahead of a frame. -/
def pre (fr : List (List Wo)) (i : Nat) : Nat := (fr.take i).flatten.length
def sta : Nat → List (List Wo) → List Nat
  | _, [] => []
  | b, f :: r => b :: sta (b + f.length) r
theorem sta_length : ∀ (b : Nat) (fr : List (List Wo)), (sta b fr).length = fr.length
  | _, [] => rfl
  | b, f :: r => by simp [sta, sta_length _ r]
theorem sta_get : ∀ {fr : List (List Wo)} {i : Nat} (b : Nat), i < fr.length → (sta b fr)[i]? = some (b + pre fr i)
  | [], i, b, h => by simp at h
  | f :: r, 0, b, _ => by simp [sta, pre]
  | f :: r, i + 1, b, h => by
    have := sta_get (fr := r) (i := i) (b + f.length) (by simpa using h)
    simp only [sta, List.getElem?_cons_succ, this, pre, List.take_succ_cons, List.flatten_cons, List.length_append, Nat.add_assoc]
theorem sta_snoc : ∀ (b : Nat) (fr : List (List Wo)) (f : List Wo), sta b (fr ++ [f]) = sta b fr ++ [b + fr.flatten.length]
  | b, [], f => by simp [sta]
  | b, g :: r, f => by simp [sta, sta_snoc _ r f, Nat.add_assoc]
theorem sta_map (g : Wo → Wo) : ∀ (b : Nat) (fr : List (List Wo)), sta b (fr.map (List.map g)) = sta b fr
  | _, [] => rfl
  | b, f :: r => by simp [sta, sta_map g _ r]
theorem pre_zero (fr : List (List Wo)) : pre fr 0 = 0 := by simp [pre]
theorem pre_succ {fr : List (List Wo)} {i : Nat} {f : List Wo} (h : fr[i]? = some f) : pre fr (i + 1) = pre fr i + f.length := by
  unfold pre
  rw [List.take_add_one, h]
  simp
theorem pre_len {fr : List (List Wo)} {i : Nat} (h : fr.length ≤ i) : pre fr i = fr.flatten.length := by
  unfold pre; rw [List.take_of_length_le h]
theorem flat_take_drop (fr : List (List Wo)) (i : Nat) : fr.flatten = (fr.take i).flatten ++ (fr.drop i).flatten := by
  rw [← List.flatten_append, List.take_append_drop]
theorem pre_le (fr : List (List Wo)) (i : Nat) : pre fr i ≤ fr.flatten.length := by
  rw [flat_take_drop fr i]; simp [pre]
theorem pre_get {fr : List (List Wo)} {i : Nat} {f : List Wo} (h : fr[i]? = some f) : pre fr i + f.length ≤ fr.flatten.length := by
  rw [← pre_succ h]; exact pre_le _ _
theorem get_lt {α : Type} {l : List α} {i : Nat} {x : α} (h : l[i]? = some x) : i < l.length := by
  rcases Nat.lt_or_ge i l.length with h1 | h1
  · exact h1
  · rw [List.getElem?_eq_none h1] at h; cases h
/-- The place of the word that has an address. -/
def plc (s : Sk) (x : Int) : Option Nat := if s.base ≤ x ∧ x - s.base < s.ws.length then some (x - s.base).toNat else none
theorem plc_some {s : Sk} {x : Int} {i : Nat} (h : plc s x = some i) : x = s.base + i ∧ i < s.ws.length := by
  unfold plc at h
  split at h
  · rename_i h1; cases h; omega
  · cases h
theorem plc_none {s : Sk} {x : Int} (h : plc s x = none) : x < s.base ∨ (s.base ≤ x ∧ (s.ws.length : Int) ≤ x - s.base) := by
  unfold plc at h
  split at h
  · cases h
  · rename_i h1; omega
theorem plc_mk {s : Sk} {i : Nat} (h : i < s.ws.length) : plc s (s.base + i) = some i := by
  unfold plc
  rw [if_pos (by omega)]
  congr 1; omega
structure SInv (s : Sk) : Prop where
  b1 : 1 ≤ s.base
  b2 : s.base ≤ 1099511627776
  m0 : 0 ≤ s.most
  m1 : s.most ≤ 65536
  fit : (s.ws.length : Int) ≤ s.most
  few : s.fr.length ≤ 1000
  vals : ∀ u ∈ s.ws, u.v ≤ 9223372036854775807
/-- The n-th word of all set. -/
def setFr (v : Int) : List (List Wo) → Nat → List (List Wo)
  | [], _ => []
  | f :: r, n => if n < f.length then f.modify n (fun u => { u with v := v }) :: r else f :: setFr v r (n - f.length)
theorem setFr_flat (v : Int) : ∀ (fr : List (List Wo)) (n : Nat), (setFr v fr n).flatten = fr.flatten.modify n (fun u => { u with v := v })
  | [], n => by simp [setFr]
  | f :: r, n => by
    unfold setFr
    split
    · rename_i h
      simp only [List.flatten_cons]
      apply List.ext_getElem?
      intro i
      simp only [List.getElem?_append, List.getElem?_modify, List.length_modify]
      split
      · rfl
      · rename_i h1
        have h2 : n ≠ i := by omega
        simp [h2]
    · rename_i h
      simp only [List.flatten_cons, setFr_flat v r]
      apply List.ext_getElem?
      intro i
      simp only [List.getElem?_append, List.getElem?_modify]
      split
      · rename_i h1
        have h2 : n ≠ i := by omega
        simp [h2]
      · rename_i h1
        have h2 : (n - f.length = i - f.length) = (n = i) := by apply propext; omega
        simp only [h2]
theorem setFr_sta (v : Int) : ∀ (fr : List (List Wo)) (n b : Nat), sta b (setFr v fr n) = sta b fr
  | [], n, b => rfl
  | f :: r, n, b => by
    unfold setFr
    split
    · simp [sta]
    · simp [sta, setFr_sta v r]
theorem setFr_length (v : Int) : ∀ (fr : List (List Wo)) (n : Nat), (setFr v fr n).length = fr.length
  | [], n => rfl
  | f :: r, n => by
    unfold setFr
    split
    · simp
    · simp [setFr_length v r]
def setS (s : Sk) (n : Nat) (v : Int) : Sk := { s with fr := setFr v s.fr n }
theorem setS_ws (s : Sk) (n : Nat) (v : Int) : (setS s n v).ws = s.ws.modify n (fun u => { u with v := v }) := setFr_flat v s.fr n
theorem setS_len (s : Sk) (n : Nat) (v : Int) : (setS s n v).ws.length = s.ws.length := by rw [setS_ws]; simp
theorem SInv.set {s : Sk} (I : SInv s) {n : Nat} {v : Int} (hv : v ≤ 9223372036854775807) : SInv (setS s n v) := by
  refine ⟨I.b1, I.b2, I.m0, I.m1, by rw [setS_len]; exact I.fit, by simp [setS, setFr_length]; exact I.few, fun u hu => ?_⟩
  rw [setS_ws] at hu
  obtain ⟨i, hi⟩ := List.mem_iff_getElem?.mp hu
  rw [List.getElem?_modify] at hi
  cases h : s.ws[i]? with
  | none => rw [h] at hi; simp at hi
  | some u0 =>
    rw [h] at hi
    simp at hi
    split at hi
    · subst hi; exact hv
    · subst hi; exact I.vals _ (List.mem_of_getElem? h)
/-- Push. -/
def pushOk (s : Sk) (n : Nat) : Bool := decide (s.fr.length < 1000 ∧ ((s.ws.length + n : Nat) : Int) ≤ s.most)
def pushS (s : Sk) (ps : List Bool) : Sk := { s with fr := s.fr ++ [ps.map fun b => ⟨0, b⟩] }
theorem pushS_ws (s : Sk) (ps : List Bool) : (pushS s ps).ws = s.ws ++ ps.map fun b => ⟨0, b⟩ := by simp [pushS, Sk.ws]
theorem SInv.push {s : Sk} (I : SInv s) {ps : List Bool} (h : pushOk s ps.length = true) : SInv (pushS s ps) := by
  have h1 := of_decide_eq_true h
  refine ⟨I.b1, I.b2, I.m0, I.m1, by rw [pushS_ws]; simpa [pushS] using h1.2, by simp [pushS]; omega, fun u hu => ?_⟩
  rw [pushS_ws] at hu
  rcases List.mem_append.mp hu with h2 | h2
  · exact I.vals u h2
  · simp at h2
    rcases h2 with ⟨_, rfl⟩ | ⟨_, rfl⟩ <;> decide
/-- Does a pointer among the first words name a word from there on? -/
def atB (a : Nat) : Option Nat → Bool
  | some i => decide (a ≤ i)
  | none => false
def isN (s : Sk) (a : Nat) (u : Wo) : Bool := u.p && atB a (plc s u.v)
def namedB (s : Sk) (a : Nat) (n : Nat) : Bool := (s.ws.take n).any (isN s a)
theorem namedB_succ {s : Sk} {a n : Nat} {u : Wo} (h : s.ws[n]? = some u) : namedB s a (n + 1) = (namedB s a n || isN s a u) := by
  unfold namedB
  rw [List.take_add_one, h]
  simp
def popS (s : Sk) : Sk := { s with fr := s.fr.dropLast }
theorem SInv.pop {s : Sk} (I : SInv s) : SInv (popS s) := by
  have hs : ∀ u ∈ (popS s).ws, u ∈ s.ws := fun u hu => by
    simp only [popS, Sk.ws, List.mem_flatten] at hu ⊢
    obtain ⟨l, h1, h2⟩ := hu
    exact ⟨l, List.dropLast_subset _ h1, h2⟩
  have hl : (popS s).ws.length ≤ s.ws.length := by
    simp only [popS, Sk.ws, List.dropLast_eq_take]
    have := pre_le s.fr (s.fr.length - 1)
    simpa [pre] using this
  refine ⟨I.b1, I.b2, I.m0, I.m1, by have := I.fit; simp only [popS] at *; omega, by have := I.few; simp [popS]; omega, fun u hu => I.vals u (hs u hu)⟩
theorem popS_ws {s : Sk} : (popS s).ws = s.ws.take (pre s.fr (s.fr.length - 1)) := by
  simp only [popS, Sk.ws, List.dropLast_eq_take]
  rw [flat_take_drop s.fr (s.fr.length - 1)]
  simp [pre]
/-- Move. -/
def mv (s : Sk) (b : Int) (u : Wo) : Wo := if u.p then (match plc s u.v with | some i => { u with v := b + i } | none => u) else u
def isP (s : Sk) (u : Wo) : Bool := u.p && (plc s u.v).isSome
def moveS (s : Sk) (b : Int) : Sk := { s with base := b, fr := s.fr.map (List.map (mv s b)) }
def cntP (s : Sk) (n : Nat) : Nat := ((s.ws.take n).filter (isP s)).length
theorem cntP_succ {s : Sk} {n : Nat} {u : Wo} (h : s.ws[n]? = some u) : cntP s (n + 1) = cntP s n + (if isP s u then 1 else 0) := by
  unfold cntP
  rw [List.take_add_one, h]
  simp [List.filter_append]
  cases hp : isP s u <;> simp [hp]
theorem cntP_le (s : Sk) (n : Nat) : cntP s n ≤ s.ws.length := by
  unfold cntP
  exact Nat.le_trans (List.length_filter_le _ _) (by simp; exact Nat.min_le_right _ _)
theorem moveS_ws (s : Sk) (b : Int) : (moveS s b).ws = s.ws.map (mv s b) := by simp [moveS, Sk.ws, List.map_flatten]
theorem mv_p (s : Sk) (b : Int) (u : Wo) : (mv s b u).p = u.p := by
  unfold mv
  split
  · split <;> rfl
  · rfl
theorem SInv.move {s : Sk} (I : SInv s) {b : Int} (h1 : 1 ≤ b) (h2 : b ≤ 1099511627776) : SInv (moveS s b) := by
  have hf := I.fit
  have hm := I.m1
  refine ⟨h1, h2, I.m0, I.m1, by rw [moveS_ws]; simpa [moveS] using I.fit, by simpa [moveS] using I.few, fun u hu => ?_⟩
  rw [moveS_ws] at hu
  obtain ⟨u0, h3, rfl⟩ := List.mem_map.mp hu
  unfold mv
  split
  · cases h : plc s u0.v with
    | none => exact I.vals u0 h3
    | some i => have := (plc_some h).2; show b + i ≤ _; omega
  · exact I.vals u0 h3
/-- The words behind the first n of a move. -/
def mvd (s : Sk) (b : Int) (n : Nat) : List Wo := (s.ws.take n).map (mv s b) ++ s.ws.drop n
theorem mvd_zero (s : Sk) (b : Int) : mvd s b 0 = s.ws := by simp [mvd]
theorem mvd_all (s : Sk) (b : Int) : mvd s b s.ws.length = (moveS s b).ws := by simp [mvd, moveS_ws]
theorem mvd_length (s : Sk) (b : Int) (n : Nat) : (mvd s b n).length = s.ws.length := by simp [mvd]; omega
theorem mvd_get {s : Sk} {b : Int} {n : Nat} {u : Wo} (h : s.ws[n]? = some u) : (mvd s b n)[n]? = some u := by
  have hl := get_lt h
  simp only [mvd, List.getElem?_append, List.length_map, List.length_take]
  rw [if_neg (by omega), List.getElem?_drop]
  rw [show n + (n - min n s.ws.length) = n by omega]
  exact h
theorem mvd_succ {s : Sk} {b : Int} {n : Nat} {u : Wo} (h : s.ws[n]? = some u) : mvd s b (n + 1) = (mvd s b n).set n (mv s b u) := by
  have hl := get_lt h
  obtain rfl : s.ws[n] = u := by rw [List.getElem?_eq_getElem hl] at h; exact Option.some.inj h
  apply List.ext_getElem?
  intro i
  simp only [mvd, List.getElem?_append, List.length_map, List.length_take, List.getElem?_set, List.getElem?_drop, List.getElem?_map, List.getElem?_take, List.length_append, List.length_drop]
  rcases Nat.lt_trichotomy i n with h1 | h1 | h1
  · rw [if_pos (by omega), if_pos (by omega), if_neg (by omega), if_pos (by omega), if_pos (by omega)]
  · subst h1
    rw [if_pos (by omega), if_pos (by omega), if_pos rfl, if_pos (by omega), h]; rfl
  · rw [if_neg (by omega), if_neg (by omega), if_neg (by omega)]
    congr 1; omega
end Go.Proofs.Ytjapfckadikjiaa
