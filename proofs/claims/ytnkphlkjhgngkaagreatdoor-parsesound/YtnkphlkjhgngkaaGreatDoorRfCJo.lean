/- The document's test of trees, as a plain function, and that it is the program's. -/
import Derived.Test.YtnkphlkjhgngkaaGreatDoorRfAJo
import Derived.Test.YtnkphlkjhgngkaaGreatDoorRef1Jo
namespace Go.Proofs.YtnkphlkjhgngkaaGreatDoor
open Go.RowKit

/-- The sorts of a node's kids, that of all further ones, what its text is, and whether it is of the sort. -/
abbrev Sh := List Int × Int × Int × Bool
def shX (t : Tr) : Sh :=
  if t.kind == 40 then ([], 0, 0, decide (0 ≤ t.num))
  else if t.kind == 41 then ([], 0, 2, decide (t.text.length ≤ 1024))
  else if t.kind == 42 then ([], 0, 0, t.num == 0 || t.num == 1)
  else if t.kind == 43 then ([], 0, 0, true)
  else if t.kind == 44 then ([], 0, 1, true)
  else if t.kind == 45 then ([], 7, 1, true)
  else if t.kind == 46 then ([2], 7, 0, true)
  else if t.kind == 47 then ([3, 5], 0, 0, true)
  else if t.kind == 48 then ([7], 0, 1, true)
  else if t.kind == 49 then ([7, 7], 0, 0, true)
  else if t.kind == 50 then
    (if t.num == 0 then ([7], 0, 0, true) else if t.num == 1 || t.num == 2 then ([7, 7], 0, 0, true) else if t.num == 3 then ([7, 7, 7], 0, 0, true) else ([], 0, 0, false))
  else if t.kind == 51 then ([7], 7, 0, true)
  else if t.kind == 52 then ([7], 0, 2, prefixL t.text)
  else if t.kind == 53 then ([7, 7], 0, 2, decide (0 < rankL t.text))
  else ([], 0, 0, false)
def shS (t : Tr) : Sh :=
  if t.kind == 20 then ([], 6, 0, true)
  else if t.kind == 21 then (if t.kids.length = 1 then ([2], 0, 1, true) else ([2, 7], 0, 1, true))
  else if t.kind == 22 then (List.replicate (repN t.num) 11, 7, 0, decide (1 ≤ t.num) && decide (t.num < t.kids.length))
  else if t.kind == 23 then (List.replicate (repN t.num) 10, 7, 0, decide (1 ≤ t.num) && decide (t.num < t.kids.length))
  else if t.kind == 24 then ([12], 0, 0, true)
  else if t.kind == 25 then (if t.kids.length = 2 then ([7, 5], 0, 0, true) else ([7, 5, 13], 0, 0, true))
  else if t.kind == 26 then (if t.kids.length = 1 then ([5], 0, 0, true) else ([7, 5], 0, 0, true))
  else if t.kind == 27 then ([], 7, 0, true)
  else if t.kind == 28 || t.kind == 29 then ([], 0, 0, true)
  else ([], 0, 0, false)
def okR (t : Tr) : Bool := match t.kids with
  | [k] => k.kind == 11 && (match k.kids with
    | [j] => j.kind == 10
    | _ => false)
  | _ => false
/-- At a sort that calls for no other. -/
def shE (t : Tr) (s : Int) : Sh :=
  if s == 11 then ([], 0, 1, t.kind == 44)
  else if s == 14 then ([2], 0, 1, okR t && t.kind == 8)
  else if s == 8 then ([2], 0, 1, t.kind == 6)
  else if s == 9 then ([3], 0, 1, t.kind == 6)
  else if s == 4 then ([2], 0, 1, t.kind == 8)
  else if s == 5 then ([], 6, 0, t.kind == 20)
  else if s == 3 then (List.replicate (repN t.num) 4, 2, 0, t.kind == 7 && (decide (0 ≤ t.num) && decide (t.num ≤ t.kids.length)))
  else if s == 1 then
    (if t.kind == 2 then ([], 8, 1, true) else if t.kind == 3 then ([], 9, 1, true) else if t.kind == 4 then ([3, 5], 0, 1, true) else if t.kind == 5 then ([14, 3, 5], 0, 1, true) else ([], 0, 0, false))
  else if s == 2 then
    (if t.kind == 10 then ([], 0, 1, true) else if t.kind == 11 || t.kind == 12 then ([2], 0, 0, true) else if t.kind == 13 then ([], 2, 0, decide (0 ≤ t.num) && decide (t.num ≤ t.kids.length)) else ([], 0, 0, false))
  else if s == 6 then shS t
  else if s == 7 then shX t
  else ([], 0, 0, false)
def shp (t : Tr) (s : Int) : Sh :=
  if s == 10 then ((shX t).1, (shX t).2.1, (shX t).2.2.1, isPlaceT t && (shX t).2.2.2)
  else if s == 12 then ((shX t).1, (shX t).2.1, (shX t).2.2.1, (shX t).2.2.2 && t.kind == 51)
  else if s == 13 then (if t.kind == 25 then shS t else shE t 5)
  else shE t s
def kidsP (r : Tr → Int → Bool) : List Int → Int → List Tr → Bool
  | k :: ks, rest, t :: ts => r t k && kidsP r ks rest ts
  | [], rest, t :: ts => r t rest && kidsP r [] rest ts
  | _, _, [] => true
def chk (r : Tr → Int → Bool) (sh : Sh) (t : Tr) : Bool :=
  sh.2.2.2 && (decide (sh.1.length ≤ t.kids.length) && ((sh.2.1 != 0 || decide (t.kids.length ≤ sh.1.length)) && ((t.num == 0 || numK t.kind) && ((sh.2.2.1 != 0 || t.text == []) && ((sh.2.2.1 != 1 || nameP t.text) && kidsP r sh.1 sh.2.1 t.kids)))))
/-- Is a tree, down to so many nodes, of a sort? -/
def isP : Nat → Tr → Int → Bool
  | 0, _, _ => false
  | n + 1, t, s => chk (isP n) (shp t s) t

theorem kidsP_all (r : Tr → Int → Bool) (rest : Int) : ∀ ts, kidsP r [] rest ts = ts.all (r · rest)
  | [] => rfl
  | t :: ts => by simp only [kidsP, List.all_cons, kidsP_all r rest ts]
theorem kidsP_row (r : Tr → Int → Bool) (rest : Int) : ∀ (ks : List Int) (ts : List Tr), (decide (ks.length ≤ ts.length) && (decide (ts.length ≤ ks.length) && kidsP r ks rest ts)) = rowB (ks.map fun k t => r t k) ts
  | [], [] => rfl
  | [], t :: ts => by simp [rowB]
  | k :: ks, [] => by simp [rowB]
  | k :: ks, t :: ts => by
    have h := kidsP_row r rest ks ts
    simp only [List.map_cons, rowB, ← h, kidsP, List.length_cons, Nat.add_le_add_iff_right]
    cases r t k <;> simp
theorem kidsP_rep (r : Tr → Int → Bool) (rest a : Int) : ∀ (n : Nat) (ts : List Tr), kidsP r (List.replicate n a) rest ts = ((ts.take n).all (r · a) && (ts.drop n).all (r · rest))
  | 0, ts => by simp [kidsP_all]
  | n + 1, [] => by simp [List.replicate_succ, kidsP]
  | n + 1, t :: ts => by simp only [List.replicate_succ, kidsP, kidsP_rep r rest a n ts, List.take_succ_cons, List.drop_succ_cons, List.all_cons, Bool.and_assoc]
theorem kidsP_one (r : Tr → Int → Bool) (rest a : Int) (ts : List Tr) : (decide (1 ≤ ts.length) && kidsP r [a] rest ts) = (decide (1 ≤ ts.length) && ((ts.take 1).all (r · a) && (ts.drop 1).all (r · rest))) := by
  rw [← kidsP_rep r rest a 1 ts]; rfl
theorem repN_in {n : Int} (h0 : 0 ≤ n) (h1 : n ≤ 20000) : repN n = n.toNat := by
  unfold repN
  split
  · omega
  · rw [if_pos (by omega)]
theorem all_c {p q : Tr → Bool} : ∀ {ts : List Tr}, (∀ k ∈ ts, p k = q k) → ts.all p = ts.all q
  | [], _ => rfl
  | t :: ts, h => by simp only [List.all_cons, h t (by simp), all_c (ts := ts) fun k hk => h k (by simp [hk])]
theorem row1_c {p q : Tr → Bool} {ts : List Tr} (h : ∀ k ∈ ts, p k = q k) : rowB [p] ts = rowB [q] ts := by
  cases ts with
  | nil => rfl
  | cons a ts => simp only [rowB, h a (by simp)]
theorem rowS_c {p q : Tr → Bool} {ps qs : List (Tr → Bool)} {ts : List Tr} (h : ∀ k ∈ ts, p k = q k) (h' : rowB ps ts.tail = rowB qs ts.tail) : rowB (p :: ps) ts = rowB (q :: qs) ts := by
  cases ts with
  | nil => rfl
  | cons a ts => simp only [rowB, h a (by simp)]; rw [show rowB ps ts = rowB qs ts from h']
structure Rel (R : Tr → Int → Bool) (r : Q → Tr → Bool) (ts : List Tr) : Prop where
  typ : ∀ k ∈ ts, R k 2 = r .typ k
  sig : ∀ k ∈ ts, R k 3 = r .sig k
  par : ∀ k ∈ ts, R k 4 = r .par k
  blk : ∀ k ∈ ts, R k 5 = r .blk k
  stm : ∀ k ∈ ts, R k 6 = r .stm k
  exp : ∀ k ∈ ts, R k 7 = r .exp k
  plc : ∀ k ∈ ts, R k 10 = (isPlaceT k && r .exp k)
  nam : ∀ k ∈ ts, R k 11 = (isNameT k && r .exp k)
  cal : ∀ k ∈ ts, R k 12 = (isCallT k && r .exp k)
  els : ∀ k ∈ ts, R k 13 = r .els k
section
variable {R : Tr → Int → Bool} {r : Q → Tr → Bool}
theorem Rel.sub {ts us : List Tr} (h : Rel R r ts) (hs : ∀ k ∈ us, k ∈ ts) : Rel R r us :=
  ⟨fun k hk => h.typ k (hs k hk), fun k hk => h.sig k (hs k hk), fun k hk => h.par k (hs k hk), fun k hk => h.blk k (hs k hk), fun k hk => h.stm k (hs k hk), fun k hk => h.exp k (hs k hk), fun k hk => h.plc k (hs k hk), fun k hk => h.nam k (hs k hk), fun k hk => h.cal k (hs k hk), fun k hk => h.els k (hs k hk)⟩
/-- A row of kids of sorts, nothing else. -/
theorem chk_row (R : Tr → Int → Bool) (ks : List Int) (tx : Int) (ok : Bool) (t : Tr) : chk R (ks, 0, tx, ok) t = (ok && ((t.num == 0 || numK t.kind) && ((tx != 0 || t.text == []) && ((tx != 1 || nameP t.text) && rowB (ks.map fun k t => R t k) t.kids)))) := by
  rw [← kidsP_row R 0 ks t.kids]
  simp only [chk, bne_self_eq_false, Bool.false_or]
  ac_rfl
theorem chk_all (R : Tr → Int → Bool) (rest tx : Int) (ok : Bool) (t : Tr) (hr : (rest != 0) = true) : chk R ([], rest, tx, ok) t = (ok && ((t.num == 0 || numK t.kind) && ((tx != 0 || t.text == []) && ((tx != 1 || nameP t.text) && t.kids.all (R · rest))))) := by
  simp only [chk, hr, kidsP_all]
  simp
theorem chk_rep (R : Tr → Int → Bool) (m : Nat) (a rest tx : Int) (ok : Bool) (t : Tr) (hr : (rest != 0) = true) : chk R (List.replicate m a, rest, tx, ok) t = (ok && (decide (m ≤ t.kids.length) && ((t.num == 0 || numK t.kind) && ((tx != 0 || t.text == []) && ((tx != 1 || nameP t.text) && ((t.kids.take m).all (R · a) && (t.kids.drop m).all (R · rest))))))) := by
  simp only [chk, hr, kidsP_rep, List.length_replicate]
  simp
theorem chk_no (R : Tr → Int → Bool) (ks : List Int) (rest tx : Int) (t : Tr) : chk R (ks, rest, tx, false) t = false := by simp [chk]

theorem Rel.take {ts : List Tr} (h : Rel R r ts) (n : Nat) : Rel R r (ts.take n) := h.sub fun _ hk => List.mem_of_mem_take hk
theorem Rel.drop {ts : List Tr} (h : Rel R r ts) (n : Nat) : Rel R r (ts.drop n) := h.sub fun _ hk => List.mem_of_mem_drop hk
theorem tl {p q : Tr → Bool} {ts : List Tr} (h : ∀ k ∈ ts, p k = q k) : ∀ k ∈ ts.tail, p k = q k := fun k hk => h k (List.mem_of_mem_tail hk)
theorem nil_row (ts : List Tr) : rowB [] ts = decide (¬ 0 < ts.length) := by cases ts <;> simp [rowB]
theorem if_c (n : Nat) (b : Bool) : (if 0 < n then false else b) = (!decide (0 < n) && b) := by by_cases h : 0 < n <;> simp [h]
theorem if_not (n : Nat) : decide (¬ 0 < n) = !decide (0 < n) := by by_cases h : 0 < n <;> simp [h]
theorem row1x {p q : Tr → Bool} {ts : List Tr} (h : ∀ k ∈ ts, p k = q k) : rowB [p] ts = (((ts.length : Int) == 1) && ts.all q) := by
  match ts, h with
  | [], _ => rfl
  | [a], h => simp [rowB, h]
  | a :: b :: ts, h => simp [rowB]; omega
theorem row2x {p q : Tr → Bool} {ts : List Tr} (h : ∀ k ∈ ts, p k = q k) : rowB [p, p] ts = (((ts.length : Int) == 2) && ts.all q) := by
  match ts, h with
  | [], _ => rfl
  | [a], h => simp [rowB]
  | [a, b], h => simp [rowB, h]
  | a :: b :: c :: ts, h => simp [rowB]; omega
theorem row3x {p q : Tr → Bool} {ts : List Tr} (h : ∀ k ∈ ts, p k = q k) : rowB [p, p, p] ts = (((ts.length : Int) == 3) && ts.all q) := by
  match ts, h with
  | [], _ => rfl
  | [a], h => simp [rowB]
  | [a, b], h => simp [rowB]
  | [a, b, c], h => simp [rowB, h]
  | a :: b :: c :: d :: ts, h => simp [rowB]; omega
theorem all_two (p q : Tr → Bool) (n : Nat) (ts : List Tr) : ((ts.take n).all (fun k => p k && q k) && (ts.drop n).all q) = ((ts.take n).all p && ts.all q) := by
  have h : ∀ us : List Tr, us.all (fun k => p k && q k) = (us.all p && us.all q) := by
    intro us
    induction us with
    | nil => rfl
    | cons a us ih => simp only [List.all_cons, ih]; ac_rfl
  rw [h, Bool.and_assoc, ← List.all_append, List.take_append_drop]
theorem row_two {f p q : Tr → Bool} {ts : List Tr} (h : ∀ k ∈ ts, f k = (p k && q k)) : rowB [f] ts = (rowB [p] ts && rowB [q] ts) := by
  match ts, h with
  | [], _ => rfl
  | [a], h => simp [rowB, h]
  | a :: b :: ts, h => simp [rowB]
theorem eq_typ (t : Tr) (h : Rel R r t.kids) : chk R (shp t 2) t = typB r t := by
  obtain ⟨k, x, m, ks⟩ := t
  replace h : Rel R r ks := h
  by_cases h10 : k = 10
  · subst h10
    show chk R ([], 0, 1, true) _ = _
    rw [chk_row]
    show (true && ((m == 0 || false) && (true && (nameP x && rowB [] ks)))) = ((m == 0 && nameP x) && rowB [] ks)
    simp only [Bool.or_false, Bool.true_and]; ac_rfl
  by_cases h11 : k = 11
  · subst h11
    show chk R ([2], 0, 0, true) _ = _
    rw [chk_row]
    show (true && ((m == 0 || false) && (x == [] && (true && rowB [fun t => R t 2] ks)))) = ((x == [] && m == 0) && rowB [r .typ] ks)
    rw [show rowB [fun t => R t 2] ks = rowB [r .typ] ks from rowS_c h.typ rfl]
    simp only [Bool.or_false, Bool.true_and]; ac_rfl
  by_cases h12 : k = 12
  · subst h12
    show chk R ([2], 0, 0, true) _ = _
    rw [chk_row]
    show (true && ((m == 0 || false) && (x == [] && (true && rowB [fun t => R t 2] ks)))) = ((x == [] && m == 0) && rowB [r .typ] ks)
    rw [show rowB [fun t => R t 2] ks = rowB [r .typ] ks from rowS_c h.typ rfl]
    simp only [Bool.or_false, Bool.true_and]; ac_rfl
  by_cases h13 : k = 13
  · subst h13
    show chk R ([], 2, 0, (decide (0 ≤ m) && decide (m ≤ ks.length))) _ = _
    rw [chk_all _ _ _ _ _ rfl]
    show ((decide (0 ≤ m) && decide (m ≤ ks.length)) && ((m == 0 || true) && (x == [] && (true && ks.all (R · 2))))) = ((x == []) && (decide (0 ≤ m) && (decide (m ≤ ks.length) && ((ks.take m.toNat).all (r .typ) && (ks.drop m.toNat).all (r .typ)))))
    rw [all_c h.typ]
    rw [← List.all_append, List.take_append_drop]
    simp only [Bool.or_true, Bool.true_and]; ac_rfl
  · have e : shp (.mk k x m ks) 2 = ([], 0, 0, false) := by simp [shp, shE, Tr.kind, h10, h11, h12, h13]
    rw [e, chk_no]
    simp [typB, Tr.kind, h10, h11, h12, h13]
theorem eq_exp (t : Tr) (h : Rel R r t.kids) : chk R (shp t 7) t = expB r t := by
  obtain ⟨k, x, m, ks⟩ := t
  replace h : Rel R r ks := h
  by_cases h40 : k = 40
  · subst h40
    show chk R ([], 0, 0, decide (0 ≤ m)) _ = _
    rw [chk_row]
    show (decide (0 ≤ m) && ((m == 0 || true) && (x == [] && (true && rowB [] ks)))) = (if 0 < ks.length then false else ((x == []) && decide (0 ≤ m)))
    rw [nil_row, if_c, if_not]
    simp only [Bool.or_true, Bool.true_and]; ac_rfl
  by_cases h41 : k = 41
  · subst h41
    show chk R ([], 0, 2, decide (x.length ≤ 1024)) _ = _
    rw [chk_row]
    show (decide (x.length ≤ 1024) && ((m == 0 || false) && (true && (true && rowB [] ks)))) = (if 0 < ks.length then false else (m == 0 && decide (x.length ≤ 1024)))
    rw [nil_row, if_c, if_not]
    simp only [Bool.or_false, Bool.true_and]; ac_rfl
  by_cases h42 : k = 42
  · subst h42
    show chk R ([], 0, 0, (m == 0 || m == 1)) _ = _
    rw [chk_row]
    show ((m == 0 || m == 1) && ((m == 0 || true) && (x == [] && (true && rowB [] ks)))) = (if 0 < ks.length then false else ((x == []) && (m == 0 || m == 1)))
    rw [nil_row, if_c, if_not]
    simp only [Bool.or_true, Bool.true_and]; ac_rfl
  by_cases h43 : k = 43
  · subst h43
    show chk R ([], 0, 0, true) _ = _
    rw [chk_row]
    show (true && ((m == 0 || false) && (x == [] && (true && rowB [] ks)))) = (if 0 < ks.length then false else (x == [] && m == 0))
    rw [nil_row, if_c, if_not]
    simp only [Bool.or_false, Bool.true_and]; ac_rfl
  by_cases h44 : k = 44
  · subst h44
    show chk R ([], 0, 1, true) _ = _
    rw [chk_row]
    show (true && ((m == 0 || false) && (true && (nameP x && rowB [] ks)))) = (if 0 < ks.length then false else (m == 0 && nameP x))
    rw [nil_row, if_c, if_not]
    simp only [Bool.or_false, Bool.true_and]; ac_rfl
  by_cases h45 : k = 45
  · subst h45
    show chk R ([], 7, 1, true) _ = _
    rw [chk_all _ _ _ _ _ rfl]
    show (true && ((m == 0 || false) && (true && (nameP x && ks.all (R · 7))))) = ((m == 0 && nameP x) && ks.all (r .exp))
    rw [all_c h.exp]
    simp only [Bool.or_false, Bool.true_and]; ac_rfl
  by_cases h46 : k = 46
  · subst h46
    show chk R (List.replicate 1 2, 7, 0, true) _ = _
    rw [chk_rep _ _ _ _ _ _ _ rfl]
    show (true && (decide (1 ≤ ks.length) && ((m == 0 || false) && (x == [] && (true && ((ks.take 1).all (R · 2) && (ks.drop 1).all (R · 7))))))) = ((x == [] && m == 0) && (true && (decide ((1 : Int) ≤ ks.length) && ((ks.take 1).all (r .typ) && (ks.drop 1).all (r .exp)))))
    rw [all_c (h.take 1).typ, all_c (h.drop 1).exp, show decide (1 ≤ ks.length) = decide ((1 : Int) ≤ ks.length) from decide_eq_decide.2 (by omega)]
    simp only [Bool.or_false, Bool.true_and]; ac_rfl
  by_cases h47 : k = 47
  · subst h47
    show chk R ([3, 5], 0, 0, true) _ = _
    rw [chk_row]
    show (true && ((m == 0 || false) && (x == [] && (true && rowB [fun t => R t 3, fun t => R t 5] ks)))) = ((x == [] && m == 0) && rowB [r .sig, r .blk] ks)
    rw [show rowB [fun t => R t 3, fun t => R t 5] ks = rowB [r .sig, r .blk] ks from rowS_c h.sig (rowS_c (tl h.blk) rfl)]
    simp only [Bool.or_false, Bool.true_and]; ac_rfl
  by_cases h48 : k = 48
  · subst h48
    show chk R ([7], 0, 1, true) _ = _
    rw [chk_row]
    show (true && ((m == 0 || false) && (true && (nameP x && rowB [fun t => R t 7] ks)))) = ((m == 0 && nameP x) && rowB [r .exp] ks)
    rw [show rowB [fun t => R t 7] ks = rowB [r .exp] ks from rowS_c h.exp rfl]
    simp only [Bool.or_false, Bool.true_and]; ac_rfl
  by_cases h49 : k = 49
  · subst h49
    show chk R ([7, 7], 0, 0, true) _ = _
    rw [chk_row]
    show (true && ((m == 0 || false) && (x == [] && (true && rowB [fun t => R t 7, fun t => R t 7] ks)))) = ((x == [] && m == 0) && rowB [r .exp, r .exp] ks)
    rw [show rowB [fun t => R t 7, fun t => R t 7] ks = rowB [r .exp, r .exp] ks from rowS_c h.exp (rowS_c (tl h.exp) rfl)]
    simp only [Bool.or_false, Bool.true_and]; ac_rfl
  by_cases h50 : k = 50
  · subst h50
    by_cases m0 : m = 0
    · subst m0
      show chk R ([7], 0, 0, true) _ = _
      rw [chk_row]
      show (true && (((0 : Int) == 0 || true) && (x == [] && (true && rowB [fun t => R t 7] ks)))) = (x == [] && (((ks.length : Int) == 1) && ks.all (r .exp)))
      rw [row1x h.exp]
      simp only [Bool.or_true, Bool.true_and]
    by_cases m1 : m = 1
    · subst m1
      show chk R ([7, 7], 0, 0, true) _ = _
      rw [chk_row]
      show (true && (((1 : Int) == 0 || true) && (x == [] && (true && rowB [fun t => R t 7, fun t => R t 7] ks)))) = (x == [] && (((ks.length : Int) == 2) && ks.all (r .exp)))
      rw [row2x h.exp]
      simp only [Bool.or_true, Bool.true_and]
    by_cases m2 : m = 2
    · subst m2
      show chk R ([7, 7], 0, 0, true) _ = _
      rw [chk_row]
      show (true && (((2 : Int) == 0 || true) && (x == [] && (true && rowB [fun t => R t 7, fun t => R t 7] ks)))) = (x == [] && (((ks.length : Int) == 2) && ks.all (r .exp)))
      rw [row2x h.exp]
      simp only [Bool.or_true, Bool.true_and]
    by_cases m3 : m = 3
    · subst m3
      show chk R ([7, 7, 7], 0, 0, true) _ = _
      rw [chk_row]
      show (true && (((3 : Int) == 0 || true) && (x == [] && (true && rowB [fun t => R t 7, fun t => R t 7, fun t => R t 7] ks)))) = (x == [] && (((ks.length : Int) == 3) && ks.all (r .exp)))
      rw [row3x h.exp]
      simp only [Bool.or_true, Bool.true_and]
    · have e : shp (.mk 50 x m ks) 7 = ([], 0, 0, false) := by simp [shp, shE, shX, Tr.kind, Tr.num, m0, m1, m2, m3]
      rw [e, chk_no]
      have e2 : cutN m = -1 := by simp [cutN, m0, m1, m2, m3]
      show false = ((x == []) && (((ks.length : Int) == cutN m) && ks.all (r .exp)))
      rw [e2, show ((ks.length : Int) == -1) = false from by simp]
      simp
  by_cases h51 : k = 51
  · subst h51
    show chk R (List.replicate 1 7, 7, 0, true) _ = _
    rw [chk_rep _ _ _ _ _ _ _ rfl]
    show (true && (decide (1 ≤ ks.length) && ((m == 0 || false) && (x == [] && (true && ((ks.take 1).all (R · 7) && (ks.drop 1).all (R · 7))))))) = ((x == [] && m == 0) && (decide (0 < ks.length) && ks.all (r .exp)))
    rw [← List.all_append, List.take_append_drop, all_c h.exp, show decide (1 ≤ ks.length) = decide (0 < ks.length) from decide_eq_decide.2 (by omega)]
    simp only [Bool.or_false, Bool.true_and]; ac_rfl
  by_cases h52 : k = 52
  · subst h52
    show chk R ([7], 0, 2, prefixL x) _ = _
    rw [chk_row]
    show (prefixL x && ((m == 0 || false) && (true && (true && rowB [fun t => R t 7] ks)))) = (m == 0 && (prefixL x && rowB [r .exp] ks))
    rw [show rowB [fun t => R t 7] ks = rowB [r .exp] ks from rowS_c h.exp rfl]
    simp only [Bool.or_false, Bool.true_and]; ac_rfl
  by_cases h53 : k = 53
  · subst h53
    show chk R ([7, 7], 0, 2, decide (0 < rankL x)) _ = _
    rw [chk_row]
    show (decide (0 < rankL x) && ((m == 0 || false) && (true && (true && rowB [fun t => R t 7, fun t => R t 7] ks)))) = (m == 0 && (decide (0 < rankL x) && rowB [r .exp, r .exp] ks))
    rw [show rowB [fun t => R t 7, fun t => R t 7] ks = rowB [r .exp, r .exp] ks from rowS_c h.exp (rowS_c (tl h.exp) rfl)]
    simp only [Bool.or_false, Bool.true_and]; ac_rfl
  · have e : shp (.mk k x m ks) 7 = ([], 0, 0, false) := by simp [shp, shE, shX, Tr.kind, h40, h41, h42, h43, h44, h45, h46, h47, h48, h49, h50, h51, h52, h53]
    rw [e, chk_no]
    simp [expB, Tr.kind, h40, h41, h42, h43, h44, h45, h46, h47, h48, h49, h50, h51, h52, h53]
theorem eq_stm (t : Tr) (h : Rel R r t.kids) (hl : t.kids.length ≤ 20000) : chk R (shp t 6) t = stmB r t := by
  obtain ⟨k, x, m, ks⟩ := t
  replace h : Rel R r ks := h
  replace hl : ks.length ≤ 20000 := hl
  by_cases h20 : k = 20
  · subst h20
    show chk R ([], 6, 0, true) _ = _
    rw [chk_all _ _ _ _ _ rfl]
    show (true && ((m == 0 || false) && (x == [] && (true && ks.all (R · 6))))) = (true && ((x == [] && m == 0) && ks.all (r .stm)))
    rw [all_c h.stm]
    simp only [Bool.or_false, Bool.true_and]; ac_rfl
  by_cases h21 : k = 21
  · subst h21
    by_cases hc : ks.length = 1
    · have e : shp (.mk 21 x m ks) 6 = ([2], 0, 1, true) := by simp [shp, shE, shS, Tr.kind, Tr.kids, hc]
      rw [e, chk_row]
      show (true && ((m == 0 || false) && (true && (nameP x && rowB [fun t => R t 2] ks)))) = ((m == 0 && nameP x) && (rowB [r .typ] ks || rowB [r .typ, r .exp] ks))
      rw [show rowB [fun t => R t 2] ks = rowB [r .typ] ks from rowS_c h.typ rfl, rowB_ne (ps := [r .typ, r .exp]) (by simp [hc])]
      simp only [Bool.or_false, Bool.true_and]; ac_rfl
    · have e : shp (.mk 21 x m ks) 6 = ([2, 7], 0, 1, true) := by simp [shp, shE, shS, Tr.kind, Tr.kids, hc]
      rw [e, chk_row]
      show (true && ((m == 0 || false) && (true && (nameP x && rowB [fun t => R t 2, fun t => R t 7] ks)))) = ((m == 0 && nameP x) && (rowB [r .typ] ks || rowB [r .typ, r .exp] ks))
      rw [show rowB [fun t => R t 2, fun t => R t 7] ks = rowB [r .typ, r .exp] ks from rowS_c h.typ (rowS_c (tl h.exp) rfl), rowB_ne (ps := [r .typ]) (by simpa using hc)]
      simp only [Bool.or_false, Bool.false_or, Bool.true_and]; ac_rfl
  by_cases h22 : k = 22
  · subst h22
    by_cases hm : 1 ≤ m ∧ m < ks.length
    · have e : shp (.mk 22 x m ks) 6 = (List.replicate m.toNat 11, 7, 0, true) := by
        simp only [shp, shE, shS, Tr.kind, Tr.kids, Tr.num]
        rw [repN_in (by omega) (by omega)]
        simp [hm.1, hm.2]
      rw [e, chk_rep _ _ _ _ _ _ _ rfl]
      show (true && (decide (m.toNat ≤ ks.length) && ((m == 0 || true) && (x == [] && (true && ((ks.take m.toNat).all (R · 11) && (ks.drop m.toNat).all (R · 7))))))) = (x == [] && (decide (0 < m) && (decide (m < ks.length) && ((ks.take m.toNat).all isNameT && ks.all (r .exp)))))
      rw [all_c (h.take m.toNat).nam, all_c (h.drop m.toNat).exp, decide_eq_true (show m.toNat ≤ ks.length by omega), decide_eq_true (show 0 < m by omega), decide_eq_true hm.2, all_two isNameT (r .exp) m.toNat ks]
      simp only [Bool.or_true, Bool.true_and]
    · have e : shp (.mk 22 x m ks) 6 = (List.replicate (repN m) 11, 7, 0, false) := by
        show (List.replicate (repN m) 11, (7 : Int), (0 : Int), decide (1 ≤ m) && decide (m < ks.length)) = _
        rw [show (decide (1 ≤ m) && decide (m < (ks.length : Int))) = false from Bool.eq_false_iff.2 fun hh => hm (by simpa using hh)]
      rw [e, chk_no]
      show false = (x == [] && (decide (0 < m) && (decide (m < ks.length) && ((ks.take m.toNat).all isNameT && ks.all (r .exp)))))
      rw [← Bool.and_assoc (decide (0 < m)), show (decide (0 < m) && decide (m < ks.length)) = false from Bool.eq_false_iff.2 fun hh => hm (by simp at hh; omega)]
      simp
  by_cases h23 : k = 23
  · subst h23
    by_cases hm : 1 ≤ m ∧ m < ks.length
    · have e : shp (.mk 23 x m ks) 6 = (List.replicate m.toNat 10, 7, 0, true) := by
        simp only [shp, shE, shS, Tr.kind, Tr.kids, Tr.num]
        rw [repN_in (by omega) (by omega)]
        simp [hm.1, hm.2]
      rw [e, chk_rep _ _ _ _ _ _ _ rfl]
      show (true && (decide (m.toNat ≤ ks.length) && ((m == 0 || true) && (x == [] && (true && ((ks.take m.toNat).all (R · 10) && (ks.drop m.toNat).all (R · 7))))))) = (x == [] && (decide (0 < m) && (decide (m < ks.length) && ((ks.take m.toNat).all isPlaceT && ks.all (r .exp)))))
      rw [all_c (h.take m.toNat).plc, all_c (h.drop m.toNat).exp, decide_eq_true (show m.toNat ≤ ks.length by omega), decide_eq_true (show 0 < m by omega), decide_eq_true hm.2, all_two isPlaceT (r .exp) m.toNat ks]
      simp only [Bool.or_true, Bool.true_and]
    · have e : shp (.mk 23 x m ks) 6 = (List.replicate (repN m) 10, 7, 0, false) := by
        show (List.replicate (repN m) 10, (7 : Int), (0 : Int), decide (1 ≤ m) && decide (m < ks.length)) = _
        rw [show (decide (1 ≤ m) && decide (m < (ks.length : Int))) = false from Bool.eq_false_iff.2 fun hh => hm (by simpa using hh)]
      rw [e, chk_no]
      show false = (x == [] && (decide (0 < m) && (decide (m < ks.length) && ((ks.take m.toNat).all isPlaceT && ks.all (r .exp)))))
      rw [← Bool.and_assoc (decide (0 < m)), show (decide (0 < m) && decide (m < ks.length)) = false from Bool.eq_false_iff.2 fun hh => hm (by simp at hh; omega)]
      simp
  by_cases h24 : k = 24
  · subst h24
    show chk R ([12], 0, 0, true) _ = _
    rw [chk_row]
    show (true && ((m == 0 || false) && (x == [] && (true && rowB [fun t => R t 12] ks)))) = ((x == [] && m == 0) && (rowB [isCallT] ks && rowB [r .exp] ks))
    rw [row_two h.cal]
    simp only [Bool.or_false, Bool.true_and]; ac_rfl
  by_cases h25 : k = 25
  · subst h25
    by_cases hc : ks.length = 2
    · have e : shp (.mk 25 x m ks) 6 = ([7, 5], 0, 0, true) := by simp [shp, shE, shS, Tr.kind, Tr.kids, hc]
      rw [e, chk_row]
      show (true && ((m == 0 || false) && (x == [] && (true && rowB [fun t => R t 7, fun t => R t 5] ks)))) = (true && ((x == [] && m == 0) && (rowB [r .exp, r .blk] ks || rowB [r .exp, r .blk, r .els] ks)))
      rw [show rowB [fun t => R t 7, fun t => R t 5] ks = rowB [r .exp, r .blk] ks from rowS_c h.exp (rowS_c (tl h.blk) rfl), rowB_ne (ps := [r .exp, r .blk, r .els]) (by simp [hc])]
      simp only [Bool.or_false, Bool.true_and]; ac_rfl
    · have e : shp (.mk 25 x m ks) 6 = ([7, 5, 13], 0, 0, true) := by simp [shp, shE, shS, Tr.kind, Tr.kids, hc]
      rw [e, chk_row]
      show (true && ((m == 0 || false) && (x == [] && (true && rowB [fun t => R t 7, fun t => R t 5, fun t => R t 13] ks)))) = (true && ((x == [] && m == 0) && (rowB [r .exp, r .blk] ks || rowB [r .exp, r .blk, r .els] ks)))
      rw [show rowB [fun t => R t 7, fun t => R t 5, fun t => R t 13] ks = rowB [r .exp, r .blk, r .els] ks from rowS_c h.exp (rowS_c (tl h.blk) (rowS_c (tl (tl h.els)) rfl)), rowB_ne (ps := [r .exp, r .blk]) (by simpa using hc)]
      simp only [Bool.or_false, Bool.false_or, Bool.true_and]; ac_rfl
  by_cases h26 : k = 26
  · subst h26
    by_cases hc : ks.length = 1
    · have e : shp (.mk 26 x m ks) 6 = ([5], 0, 0, true) := by simp [shp, shE, shS, Tr.kind, Tr.kids, hc]
      rw [e, chk_row]
      show (true && ((m == 0 || false) && (x == [] && (true && rowB [fun t => R t 5] ks)))) = ((x == [] && m == 0) && (rowB [r .blk] ks || rowB [r .exp, r .blk] ks))
      rw [show rowB [fun t => R t 5] ks = rowB [r .blk] ks from rowS_c h.blk rfl, rowB_ne (ps := [r .exp, r .blk]) (by simp [hc])]
      simp only [Bool.or_false, Bool.true_and]; ac_rfl
    · have e : shp (.mk 26 x m ks) 6 = ([7, 5], 0, 0, true) := by simp [shp, shE, shS, Tr.kind, Tr.kids, hc]
      rw [e, chk_row]
      show (true && ((m == 0 || false) && (x == [] && (true && rowB [fun t => R t 7, fun t => R t 5] ks)))) = ((x == [] && m == 0) && (rowB [r .blk] ks || rowB [r .exp, r .blk] ks))
      rw [show rowB [fun t => R t 7, fun t => R t 5] ks = rowB [r .exp, r .blk] ks from rowS_c h.exp (rowS_c (tl h.blk) rfl), rowB_ne (ps := [r .blk]) (by simpa using hc)]
      simp only [Bool.or_false, Bool.false_or, Bool.true_and]; ac_rfl
  by_cases h27 : k = 27
  · subst h27
    show chk R ([], 7, 0, true) _ = _
    rw [chk_all _ _ _ _ _ rfl]
    show (true && ((m == 0 || false) && (x == [] && (true && ks.all (R · 7))))) = ((x == [] && m == 0) && ks.all (r .exp))
    rw [all_c h.exp]
    simp only [Bool.or_false, Bool.true_and]; ac_rfl
  by_cases h28 : k = 28
  · subst h28
    show chk R ([], 0, 0, true) _ = _
    rw [chk_row]
    show (true && ((m == 0 || false) && (x == [] && (true && rowB [] ks)))) = ((x == [] && m == 0) && rowB [] ks)
    simp only [Bool.or_false, Bool.true_and]; ac_rfl
  by_cases h29 : k = 29
  · subst h29
    show chk R ([], 0, 0, true) _ = _
    rw [chk_row]
    show (true && ((m == 0 || false) && (x == [] && (true && rowB [] ks)))) = ((x == [] && m == 0) && rowB [] ks)
    simp only [Bool.or_false, Bool.true_and]; ac_rfl
  · have e : shp (.mk k x m ks) 6 = ([], 0, 0, false) := by simp [shp, shE, shS, Tr.kind, h20, h21, h22, h23, h24, h25, h26, h27, h28, h29]
    rw [e, chk_no]
    simp [stmB, Tr.kind, h20, h21, h22, h23, h24, h25, h26, h27, h28, h29]
theorem eq_row1 (t : Tr) (k : Int) (s : Int) (R : Tr → Int → Bool) (p : Tr → Bool) (h : ∀ u ∈ t.kids, R u s = p u) (hk : numK k = false) : (t.kind == k && (chk R ([s], 0, 1, true) t)) = (t.kind == k && (namedT t && rowB [p] t.kids)) := by
  by_cases e : t.kind = k
  · rw [chk_row]
    show (t.kind == k && (true && ((t.num == 0 || numK t.kind) && (true && (nameP t.text && rowB [fun u => R u s] t.kids))))) = (t.kind == k && ((t.num == 0 && nameP t.text) && rowB [p] t.kids))
    rw [row1_c h, e, hk]
    simp only [Bool.or_false, Bool.true_and]; ac_rfl
  · simp only [show (t.kind == k) = false from beq_false_of_ne e, Bool.false_and]
theorem chk_and (R : Tr → Int → Bool) (ks : List Int) (rest tx : Int) (a b : Bool) (t : Tr) : chk R (ks, rest, tx, a && b) t = (a && chk R (ks, rest, tx, b) t) := by simp only [chk]; ac_rfl
theorem chk_ok (R : Tr → Int → Bool) (ks : List Int) (rest tx : Int) (a : Bool) (t : Tr) : chk R (ks, rest, tx, a) t = (a && chk R (ks, rest, tx, true) t) := by rw [← chk_and]; simp
theorem chk_eta (R : Tr → Int → Bool) (sh : Sh) (b : Bool) (t : Tr) : chk R (sh.1, sh.2.1, sh.2.2.1, b && sh.2.2.2) t = (b && chk R sh t) := chk_and R _ _ _ _ _ t
theorem eq_par (t : Tr) (h : Rel R r t.kids) : chk R (shp t 4) t = parB r t := by
  show chk R ([2], 0, 1, t.kind == 8) t = _
  rw [chk_ok]
  exact eq_row1 t 8 2 R (r .typ) h.typ rfl
theorem eq_blk (t : Tr) (h : Rel R r t.kids) : chk R (shp t 5) t = blkB r t := by
  show chk R ([], 6, 0, t.kind == 20) t = _
  rw [chk_ok, chk_all _ _ _ _ _ rfl, all_c h.stm]
  by_cases e : t.kind = 20
  · show (t.kind == 20 && (true && ((t.num == 0 || numK t.kind) && (t.text == [] && (true && t.kids.all (r .stm)))))) = (t.kind == 20 && ((t.text == [] && t.num == 0) && t.kids.all (r .stm)))
    rw [e]
    show (true && (true && ((t.num == 0 || false) && (t.text == [] && (true && t.kids.all (r .stm)))))) = (true && ((t.text == [] && t.num == 0) && t.kids.all (r .stm)))
    simp only [Bool.or_false, Bool.true_and]; ac_rfl
  · simp only [blkB, show (t.kind == 20) = false from beq_false_of_ne e, Bool.false_and]
theorem eq_sig (t : Tr) (h : Rel R r t.kids) (hl : t.kids.length ≤ 20000) : chk R (shp t 3) t = sigB r t := by
  show chk R (List.replicate (repN t.num) 4, 2, 0, t.kind == 7 && (decide (0 ≤ t.num) && decide (t.num ≤ t.kids.length))) t = _
  by_cases e : t.kind = 7
  · by_cases hm : 0 ≤ t.num ∧ t.num ≤ t.kids.length
    · rw [repN_in hm.1 (by omega), chk_rep _ _ _ _ _ _ _ rfl, all_c (h.take _).par, all_c (h.drop _).typ]
      show ((t.kind == 7 && (decide (0 ≤ t.num) && decide (t.num ≤ t.kids.length))) && (decide (t.num.toNat ≤ t.kids.length) && ((t.num == 0 || numK t.kind) && (t.text == [] && (true && ((t.kids.take t.num.toNat).all (r .par) && (t.kids.drop t.num.toNat).all (r .typ))))))) = (t.kind == 7 && (t.text == [] && (decide (0 ≤ t.num) && (decide (t.num ≤ t.kids.length) && ((t.kids.take t.num.toNat).all (r .par) && (t.kids.drop t.num.toNat).all (r .typ))))))
      rw [decide_eq_true hm.1, decide_eq_true hm.2, decide_eq_true (show t.num.toNat ≤ t.kids.length by omega), e, show numK 7 = true from rfl]
      simp only [Bool.or_true, Bool.true_and, Bool.and_true, beq_self_eq_true]
    · rw [show (decide (0 ≤ t.num) && decide (t.num ≤ (t.kids.length : Int))) = false from Bool.eq_false_iff.2 fun hh => hm (by simpa using hh)]
      rw [Bool.and_false, chk_no]
      show false = (t.kind == 7 && (t.text == [] && (decide (0 ≤ t.num) && (decide (t.num ≤ t.kids.length) && ((t.kids.take t.num.toNat).all (r .par) && (t.kids.drop t.num.toNat).all (r .typ))))))
      rw [← Bool.and_assoc (decide (0 ≤ t.num)), show (decide (0 ≤ t.num) && decide (t.num ≤ (t.kids.length : Int))) = false from Bool.eq_false_iff.2 fun hh => hm (by simpa using hh)]
      simp
  · rw [show (t.kind == 7) = false from by simpa using e, Bool.false_and, chk_no]
    simp [sigB, e]
theorem eq_els (t : Tr) (h : Rel R r t.kids) (hl : t.kids.length ≤ 20000) : chk R (shp t 13) t = elsB r t := by
  have h6 := eq_stm t h hl
  have h5 := eq_blk t h
  by_cases e : t.kind = 25
  · have e1 : shp t 13 = shp t 6 := by
      show (if t.kind == 25 then shS t else shE t 5) = shS t
      simp [e]
    rw [e1, h6]
    simp [stmB, elsB, blkB, e]
  · have e1 : shp t 13 = shp t 5 := by
      show (if t.kind == 25 then shS t else shE t 5) = shE t 5
      simp [e]
    rw [e1, h5]
    simp [elsB, ifB, e]
theorem eq_plc (t : Tr) (h : Rel R r t.kids) : chk R (shp t 10) t = (isPlaceT t && expB r t) := by
  rw [← eq_exp t h]
  show chk R ((shX t).1, (shX t).2.1, (shX t).2.2.1, isPlaceT t && (shX t).2.2.2) t = _
  rw [chk_eta]; rfl
theorem eq_cal (t : Tr) (h : Rel R r t.kids) : chk R (shp t 12) t = (isCallT t && expB r t) := by
  rw [← eq_exp t h]
  show chk R ((shX t).1, (shX t).2.1, (shX t).2.2.1, (shX t).2.2.2 && t.kind == 51) t = _
  rw [Bool.and_comm, chk_eta]; rfl
theorem eq_nam (t : Tr) (h : Rel R r t.kids) : chk R (shp t 11) t = (isNameT t && expB r t) := by
  rw [← eq_exp t h]
  show chk R ([], 0, 1, t.kind == 44) t = _
  rw [chk_ok]
  by_cases e : t.kind = 44
  · have e1 : shp t 7 = ([], 0, 1, true) := by
      show shX t = _
      simp [shX, e]
    rw [e1]; rfl
  · simp only [isNameT, show (t.kind == 44) = false from beq_false_of_ne e, Bool.false_and]
end
/-- The two ways tell one, sort by sort. -/
theorem isP_snd : ∀ (n : Nat) (t : Tr), Fit n t → isP n t 2 = snd n .typ t ∧ isP n t 3 = snd n .sig t ∧ isP n t 4 = snd n .par t ∧ isP n t 5 = snd n .blk t ∧ isP n t 6 = snd n .stm t ∧ isP n t 7 = snd n .exp t ∧
    isP n t 10 = (isPlaceT t && snd n .exp t) ∧ isP n t 11 = (isNameT t && snd n .exp t) ∧ isP n t 12 = (isCallT t && snd n .exp t) ∧ isP n t 13 = snd n .els t
  | 0, t, h => h.elim
  | n + 1, t, ⟨hl, _, hk⟩ => by
    have h : Rel (isP n) (snd n) t.kids := ⟨fun k m => (isP_snd n k (hk k m)).1, fun k m => (isP_snd n k (hk k m)).2.1, fun k m => (isP_snd n k (hk k m)).2.2.1, fun k m => (isP_snd n k (hk k m)).2.2.2.1, fun k m => (isP_snd n k (hk k m)).2.2.2.2.1, fun k m => (isP_snd n k (hk k m)).2.2.2.2.2.1, fun k m => (isP_snd n k (hk k m)).2.2.2.2.2.2.1, fun k m => (isP_snd n k (hk k m)).2.2.2.2.2.2.2.1, fun k m => (isP_snd n k (hk k m)).2.2.2.2.2.2.2.2.1, fun k m => (isP_snd n k (hk k m)).2.2.2.2.2.2.2.2.2⟩
    exact ⟨eq_typ t h, eq_sig t h hl, eq_par t h, eq_blk t h, eq_stm t h hl, eq_exp t h, eq_plc t h, eq_nam t h, eq_cal t h, eq_els t h hl⟩
theorem Fit.rel {n : Nat} {t : Tr} (hF : Fit (n + 1) t) : Rel (isP n) (snd n) t.kids :=
  ⟨fun k m => (isP_snd n k (hF.2.2 k m)).1, fun k m => (isP_snd n k (hF.2.2 k m)).2.1, fun k m => (isP_snd n k (hF.2.2 k m)).2.2.1, fun k m => (isP_snd n k (hF.2.2 k m)).2.2.2.1, fun k m => (isP_snd n k (hF.2.2 k m)).2.2.2.2.1, fun k m => (isP_snd n k (hF.2.2 k m)).2.2.2.2.2.1, fun k m => (isP_snd n k (hF.2.2 k m)).2.2.2.2.2.2.1, fun k m => (isP_snd n k (hF.2.2 k m)).2.2.2.2.2.2.2.1, fun k m => (isP_snd n k (hF.2.2 k m)).2.2.2.2.2.2.2.2.1, fun k m => (isP_snd n k (hF.2.2 k m)).2.2.2.2.2.2.2.2.2⟩
theorem isP_fld (n : Nat) (t : Tr) (hF : Fit (n + 1) t) : isP (n + 1) t 8 = fldB (snd n) t := by
  show chk (isP n) ([2], 0, 1, t.kind == 6) t = _
  rw [chk_ok]
  exact eq_row1 t 6 2 _ _ hF.rel.typ rfl
theorem isP_met (n : Nat) (t : Tr) (hF : Fit (n + 1) t) : isP (n + 1) t 9 = metB (snd n) t := by
  show chk (isP n) ([3], 0, 1, t.kind == 6) t = _
  rw [chk_ok]
  exact eq_row1 t 6 3 _ _ hF.rel.sig rfl
theorem isP_rec (n : Nat) (t : Tr) (hF : Fit (n + 1) t) : isP (n + 1) t 14 = recB (snd n) t := by
  show chk (isP n) ([2], 0, 1, okR t && t.kind == 8) t = _
  rw [chk_and, chk_ok, eq_row1 t 8 2 _ _ hF.rel.typ rfl]
  show (okR t && parB (snd n) t) = (parB (snd n) t && _)
  rw [Bool.and_comm]
  cases hp : parB (snd n) t with
  | false => rfl
  | true =>
    rw [Bool.true_and, Bool.true_and]
    simp only [parB, Bool.and_eq_true] at hp
    have hr := hp.2.2
    obtain ⟨k, x, m, ks⟩ := t
    match ks, hr, hF with
    | [a], hr, hF =>
      show (a.kind == 11 && _) = (a.kind == 11 && _)
      simp only [Tr.kids, rowB, Bool.and_true] at hr
      by_cases e : a.kind = 11
      · congr 1
        cases n with
        | zero => cases hr
        | succ n =>
          have h2 : typB (snd n) a = true := hr
          have h3 : rowB [snd n .typ] a.kids = true := by
            simp only [typB, e] at h2
            simp at h2
            exact h2.2
          have h4 := rowB_length h3
          revert h4
          cases a.kids with
          | nil => intro h4; cases h4
          | cons b bs =>
            cases bs with
            | nil => intro _; rfl
            | cons c cs => intro h4; simp at h4
      · simp only [show (a.kind == 11) = false from beq_false_of_ne e, Bool.false_and]
    | [], hr, _ => cases hr
    | _ :: _ :: _, hr, _ => simp [Tr.kids, rowB] at hr
theorem isP_dec (n : Nat) (t : Tr) (hF : Fit (n + 2) t) : isP (n + 2) t 1 = decB n t := by
  have hk : ∀ k ∈ t.kids, Fit (n + 1) k := hF.2.2
  have hl := hF.1
  have g := hF.rel
  obtain ⟨k, x, m, ks⟩ := t
  replace hk : ∀ k ∈ ks, Fit (n + 1) k := hk
  replace g : Rel (isP (n + 1)) (snd (n + 1)) ks := g
  clear hF hl
  show chk (isP (n + 1)) (shp (.mk k x m ks) 1) (.mk k x m ks) = _
  by_cases h2 : k = 2
  · subst h2
    show chk _ ([], 8, 1, true) _ = _
    rw [chk_all _ _ _ _ _ rfl]
    show (true && ((m == 0 || false) && (true && (nameP x && ks.all (isP (n + 1) · 8))))) = ((m == 0 && nameP x) && ks.all (fldB (snd n)))
    rw [all_c fun u hu => isP_fld n u (hk u hu)]
    simp only [Bool.or_false, Bool.true_and]; ac_rfl
  by_cases h3 : k = 3
  · subst h3
    show chk _ ([], 9, 1, true) _ = _
    rw [chk_all _ _ _ _ _ rfl]
    show (true && ((m == 0 || false) && (true && (nameP x && ks.all (isP (n + 1) · 9))))) = ((m == 0 && nameP x) && ks.all (metB (snd n)))
    rw [all_c fun u hu => isP_met n u (hk u hu)]
    simp only [Bool.or_false, Bool.true_and]; ac_rfl
  by_cases h4 : k = 4
  · subst h4
    show chk _ ([3, 5], 0, 1, true) _ = _
    rw [chk_row]
    show (true && ((m == 0 || false) && (true && (nameP x && rowB [fun t => isP (n + 1) t 3, fun t => isP (n + 1) t 5] ks)))) = ((m == 0 && nameP x) && rowB [snd (n + 1) .sig, snd (n + 1) .blk] ks)
    rw [show rowB [fun t => isP (n + 1) t 3, fun t => isP (n + 1) t 5] ks = rowB [snd (n + 1) .sig, snd (n + 1) .blk] ks from rowS_c g.sig (rowS_c (tl g.blk) rfl)]
    simp only [Bool.or_false, Bool.true_and]; ac_rfl
  by_cases h5 : k = 5
  · subst h5
    show chk _ ([14, 3, 5], 0, 1, true) _ = _
    rw [chk_row]
    show (true && ((m == 0 || false) && (true && (nameP x && rowB [fun t => isP (n + 1) t 14, fun t => isP (n + 1) t 3, fun t => isP (n + 1) t 5] ks)))) = ((m == 0 && nameP x) && rowB [recB (snd n), snd (n + 1) .sig, snd (n + 1) .blk] ks)
    rw [show rowB [fun t => isP (n + 1) t 14, fun t => isP (n + 1) t 3, fun t => isP (n + 1) t 5] ks = rowB [recB (snd n), snd (n + 1) .sig, snd (n + 1) .blk] ks from rowS_c (fun u hu => isP_rec n u (hk u hu)) (rowS_c (tl g.sig) (rowS_c (tl (tl g.blk)) rfl))]
    simp only [Bool.or_false, Bool.true_and]; ac_rfl
  · have e : shp (.mk k x m ks) 1 = ([], 0, 0, false) := by simp [shp, shE, Tr.kind, h2, h3, h4, h5]
    rw [e, chk_no]
    simp [decB, Tr.kind, h2, h3, h4, h5]
end Go.Proofs.YtnkphlkjhgngkaaGreatDoor
