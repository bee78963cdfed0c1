/- The arena as plain mathematics: classes, pieces, what went back, and what each call makes of them. -/
import Derived.Test.YtimpmgbahgganaaArK
namespace Go.Proofs.Ytimpmgbahgganaa

theorem cls_none {n : Nat} (h : n < 1 ∨ 65536 < n) : clsN n = 0 := by unfold clsN; exact if_pos h
theorem cls_big {n : Nat} (h : 4096 < n) (h2 : n ≤ 65536) : clsN n = (n + 1023) / 1024 * 1024 := by
  unfold clsN
  rw [if_neg (by omega), if_pos h]
theorem cls_small {n : Nat} (h : 1 ≤ n) (h2 : n ≤ 4096) : clsN n = if n ≤ 2 ^ Lib.bitLen (n - 1) / 4 * 3 then 2 ^ Lib.bitLen (n - 1) / 4 * 3 else 2 ^ Lib.bitLen (n - 1) := by
  unfold clsN
  rw [if_neg (by omega), if_neg (by omega)]
theorem cls_le {n : Nat} (h0 : 1 ≤ n) (h : n ≤ 65536) : n ≤ clsN n ∧ clsN n ≤ 65536 := by
  rcases Nat.lt_or_ge 4096 n with h1 | h1
  · rw [cls_big h1 h]; omega
  · have := okC_parts h0 h1; omega
theorem cls_pos {n : Nat} (h : clsN n ≠ 0) : 1 ≤ n ∧ n ≤ 65536 := by
  rcases Nat.lt_or_ge n 1 with h1 | h1
  · exact absurd (cls_none (.inl h1)) h
  · rcases Nat.lt_or_ge 65536 n with h2 | h2
    · exact absurd (cls_none (.inr h2)) h
    · exact ⟨h1, h2⟩
/-- The least class that is not below it, none between. -/
theorem cls_least {n : Nat} (h0 : 1 ≤ n) (h : n ≤ 65536) : clsN (clsN n) = clsN n ∧ (clsN n = n ∨ clsN (clsN n - 1) = clsN n) := by
  rcases Nat.lt_or_ge 4096 n with h1 | h1
  · have e := cls_big h1 h
    have b : 4096 < (n + 1023) / 1024 * 1024 ∧ (n + 1023) / 1024 * 1024 ≤ 65536 := by omega
    rw [e]
    refine ⟨?_, ?_⟩
    · rw [cls_big b.1 b.2]; omega
    · right
      rw [cls_big (by omega) (by omega)]; omega
  · have := okC_parts h0 h1; exact ⟨this.2.2.1, this.2.2.2.1⟩

/-- A piece: where it begins, its class's words, the words it was asked for with (0: it is back). -/
structure Pc where
  a : Nat
  c : Nat
  n : Nat
instance : Inhabited Pc := ⟨⟨0, 0, 0⟩⟩
/-- An arena: its words, how many are ahead of the line, its pieces, and for each class what went back. -/
structure As where
  ws : List Int
  gv : Nat
  ps : List Pc
  bk : Nat → List Nat

/-- Pieces one behind the other from b on, up to e. -/
def Row : Nat → List Pc → Nat → Prop
  | b, [], e => b = e
  | b, p :: r, e => p.a = b ∧ 1 ≤ p.c ∧ p.n ≤ p.c ∧ (p.n = 0 ∨ clsN p.n = p.c) ∧ Row (b + p.c) r e
theorem Row.le : ∀ {ps : List Pc} {b e : Nat}, Row b ps e → b + ps.length ≤ e
  | [], b, e, h => by simp only [Row] at h; simp; omega
  | p :: r, b, e, h => by
    obtain ⟨_, h1, _, _, h2⟩ := h
    have := h2.le
    simp; omega
theorem Row.snoc : ∀ {ps : List Pc} {b e : Nat} {p : Pc}, Row b ps e → p.a = e → 1 ≤ p.c → p.n ≤ p.c → (p.n = 0 ∨ clsN p.n = p.c) → Row b (ps ++ [p]) (e + p.c)
  | [], b, e, p, h, h1, h2, h3, h4 => by simp only [Row] at h; subst h; exact ⟨h1, h2, h3, h4, rfl⟩
  | q :: r, b, e, p, h, h1, h2, h3, h4 => ⟨h.1, h.2.1, h.2.2.1, h.2.2.2.1, h.2.2.2.2.snoc h1 h2 h3 h4⟩
/-- Where a piece lies. -/
theorem Row.at : ∀ {ps : List Pc} {b e i : Nat} {p : Pc}, Row b ps e → ps[i]? = some p → b ≤ p.a ∧ p.a + p.c ≤ e ∧ 1 ≤ p.c ∧ p.n ≤ p.c ∧ (p.n = 0 ∨ clsN p.n = p.c)
  | [], b, e, i, p, h, hp => by simp at hp
  | q :: r, b, e, 0, p, h, hp => by
    simp at hp; subst hp
    have := h.2.2.2.2.le
    exact ⟨by have := h.1; omega, by have := h.1; omega, h.2.1, h.2.2.1, h.2.2.2.1⟩
  | q :: r, b, e, i + 1, p, h, hp => by
    have h1 := h.2.2.2.2.at (i := i) (p := p) (by simpa using hp)
    exact ⟨by omega, h1.2.1, h1.2.2⟩
theorem Row.apart : ∀ {ps : List Pc} {b e i j : Nat} {p q : Pc}, Row b ps e → ps[i]? = some p → ps[j]? = some q → i < j → p.a + p.c ≤ q.a
  | [], b, e, i, j, p, q, h, hp, _, _ => by simp at hp
  | x :: r, b, e, 0, j + 1, p, q, h, hp, hq, _ => by
    simp at hp; subst hp
    have h1 := h.2.2.2.2.at (i := j) (p := q) (by simpa using hq)
    have := h.1; omega
  | x :: r, b, e, i + 1, j + 1, p, q, h, hp, hq, hij => h.2.2.2.2.apart (i := i) (j := j) (by simpa using hp) (by simpa using hq) (by omega)
/-- How many pieces do not begin behind an address. -/
def cnt (ps : List Pc) (x : Int) : Nat := ps.countP fun p => decide ((p.a : Int) ≤ x)
theorem cnt_le (ps : List Pc) (x : Int) : cnt ps x ≤ ps.length := List.countP_le_length
theorem Row.cnt_none : ∀ {ps : List Pc} {b e : Nat} {x : Int}, Row b ps e → x < b → cnt ps x = 0
  | [], _, _, _, _, _ => rfl
  | p :: r, b, e, x, h, hx => by
    have h1 := h.2.2.2.2.cnt_none (x := x) (by omega)
    unfold cnt at *
    rw [List.countP_cons_of_neg (by have := h.1; simp; omega), h1]
theorem Row.cnt_at : ∀ {ps : List Pc} {b e i : Nat} {p : Pc} {x : Int}, Row b ps e → ps[i]? = some p → (p.a : Int) ≤ x → x < p.a + p.c → cnt ps x = i + 1
  | [], b, e, i, p, x, h, hp, _, _ => by simp at hp
  | q :: r, b, e, 0, p, x, h, hp, h1, h2 => by
    simp at hp; subst hp
    have h3 := h.2.2.2.2.cnt_none (x := x) (by have := h.1; omega)
    unfold cnt at *
    rw [List.countP_cons_of_pos (by simpa using h1), h3]
  | q :: r, b, e, i + 1, p, x, h, hp, h1, h2 => by
    have hr := h.2.2.2.2.at (i := i) (p := p) (by simpa using hp)
    have h3 := h.2.2.2.2.cnt_at (i := i) (p := p) (x := x) (by simpa using hp) h1 h2
    unfold cnt at *
    rw [List.countP_cons_of_pos (by have := h.1; simp; omega), h3]
/-- The last piece that does not begin behind an address: it holds it, or nobody does. -/
theorem Row.cnt_pos : ∀ {ps : List Pc} {b e : Nat} {x : Int}, Row b ps e → 0 < cnt ps x → ∃ p, ps[cnt ps x - 1]? = some p ∧ (p.a : Int) ≤ x ∧ (x < p.a + p.c ∨ (e : Int) ≤ x)
  | [], _, _, _, _, h => by simp [cnt] at h
  | q :: r, b, e, x, h, hc => by
    by_cases hq : (q.a : Int) ≤ x
    · have e1 : cnt (q :: r) x = cnt r x + 1 := by unfold cnt; rw [List.countP_cons_of_pos (by simpa using hq)]
      rw [e1]
      rcases Nat.eq_zero_or_pos (cnt r x) with h0 | h0
      · rw [h0]
        refine ⟨q, by simp, hq, ?_⟩
        cases r with
        | nil => have := h.1; have h2 : b + q.c = e := h.2.2.2.2; omega
        | cons p r' =>
          left
          have h3 : ¬ (p.a : Int) ≤ x := fun h4 => by
            have : 0 < cnt (p :: r') x := by unfold cnt; rw [List.countP_cons_of_pos (by simpa using h4)]; omega
            omega
          have h4 : p.a = b + q.c := h.2.2.2.2.1
          have := h.1; omega
      · obtain ⟨p, hp, h1, h2⟩ := h.2.2.2.2.cnt_pos h0
        refine ⟨p, ?_, h1, h2⟩
        rw [show cnt r x + 1 - 1 = (cnt r x - 1) + 1 from by omega]
        simpa using hp
    · exfalso
      have h1 : cnt r x = 0 := h.2.2.2.2.cnt_none (by have := h.1; omega)
      unfold cnt at *
      rw [List.countP_cons_of_neg (by simpa using hq), h1] at hc
      omega

/-- The place of the piece that has an address among the words it was asked for with. -/
def hold (ps : List Pc) (x : Int) : Option Nat :=
  match ps[cnt ps x - 1]? with
  | some p => if 0 < cnt ps x ∧ x - p.a < p.n then some (cnt ps x - 1) else none
  | none => none
theorem hold_some {ps : List Pc} {e i : Nat} {x : Int} (h : Row 1 ps e) (hi : hold ps x = some i) : ∃ p, ps[i]? = some p ∧ (p.a : Int) ≤ x ∧ x < p.a + p.n ∧ i + 1 = cnt ps x ∧ 1 ≤ x ∧ x < e := by
  unfold hold at hi
  split at hi
  · rename_i p hp
    split at hi
    · rename_i hc
      obtain ⟨q, hq, h1, _⟩ := h.cnt_pos hc.1
      rw [hp] at hq
      cases hq
      cases hi
      have := h.at hp
      exact ⟨p, hp, h1, by omega, by omega, by omega, by omega⟩
    · cases hi
  · cases hi
theorem hold_mk {ps : List Pc} {b e i : Nat} {p : Pc} {x : Int} (h : Row b ps e) (hp : ps[i]? = some p) (h1 : (p.a : Int) ≤ x) (h2 : x < p.a + p.n) : hold ps x = some i := by
  have := h.at hp
  have hc := h.cnt_at hp h1 (by omega)
  unfold hold
  rw [hc, Nat.add_sub_cancel, hp]
  simp only
  rw [if_pos ⟨by omega, by omega⟩]

/-- A piece is given n words (or, 0, goes back). -/
def mark (ps : List Pc) (i n : Nat) : List Pc := ps.modify i fun p => ⟨p.a, p.c, n⟩
theorem mark_length (ps : List Pc) (i n : Nat) : (mark ps i n).length = ps.length := by simp [mark]
theorem mark_same {ps : List Pc} {i n : Nat} {p : Pc} (h : ps[i]? = some p) : (mark ps i n)[i]? = some ⟨p.a, p.c, n⟩ := by simp [mark, h]
theorem mark_other {ps : List Pc} {i j n : Nat} (h : i ≠ j) : (mark ps i n)[j]? = ps[j]? := by simp [mark, h]
theorem Row.mark : ∀ {ps : List Pc} {b e i n : Nat} {p : Pc}, Row b ps e → ps[i]? = some p → n ≤ p.c → (n = 0 ∨ clsN n = p.c) → Row b (mark ps i n) e
  | [], b, e, i, n, p, h, hp, _, _ => by simp at hp
  | q :: r, b, e, 0, n, p, h, hp, h1, h2 => by
    simp at hp; subst hp
    simp only [Proofs.Ytimpmgbahgganaa.mark, List.modify_zero_cons]
    exact ⟨h.1, h.2.1, h1, h2, h.2.2.2.2⟩
  | q :: r, b, e, i + 1, n, p, h, hp, h1, h2 => by
    simp only [Proofs.Ytimpmgbahgganaa.mark, List.modify_succ_cons]
    exact ⟨h.1, h.2.1, h.2.2.1, h.2.2.2.1, h.2.2.2.2.mark (i := i) (by simpa using hp) h1 h2⟩
theorem cnt_mark (ps : List Pc) (i n : Nat) (x : Int) : cnt (mark ps i n) x = cnt ps x := by
  unfold cnt mark
  induction ps generalizing i with
  | nil => simp
  | cons q r ih =>
    cases i with
    | zero => simp [List.modify_zero_cons, List.countP_cons]
    | succ i => simp [List.modify_succ_cons, List.countP_cons, ih]

/-- n words from place o on are emptied. -/
def clr (ws : List Int) (o n : Nat) : List Int := ws.take o ++ List.replicate n 0 ++ ws.drop (o + n)
theorem clr_length {ws : List Int} {o n : Nat} (h : o + n ≤ ws.length) : (clr ws o n).length = ws.length := by simp [clr]; omega
theorem clr_get {ws : List Int} {o n : Nat} (h : o + n ≤ ws.length) (i : Nat) : (clr ws o n)[i]? = if o ≤ i ∧ i < o + n then some 0 else ws[i]? := by
  unfold clr
  rcases Nat.lt_or_ge i o with h1 | h1
  · rw [if_neg (by omega), List.getElem?_append_left (by simp; omega), List.getElem?_append_left (by simp; omega), List.getElem?_take, if_pos h1]
  · rcases Nat.lt_or_ge i (o + n) with h2 | h2
    · rw [if_pos ⟨h1, h2⟩, List.getElem?_append_left (by simp; omega), List.getElem?_append_right (by simp; omega)]
      rw [List.getElem?_replicate, if_pos (by simp; omega)]
    · rw [if_neg (by omega), List.getElem?_append_right (by simp; omega)]
      simp only [List.length_append, List.length_take, List.length_replicate, List.getElem?_drop]
      congr 1
      omega

/-- Where a function of classes is changed. -/
def upd {α : Type} (f : Nat → α) (c : Nat) (v : α) : Nat → α := fun d => if d = c then v else f d
theorem upd_same {α : Type} (f : Nat → α) (c : Nat) (v : α) : upd f c v c = v := if_pos rfl
theorem upd_other {α : Type} (f : Nat → α) {c d : Nat} (v : α) (h : d ≠ c) : upd f c v d = f d := if_neg h

/-- The piece of a class that went back last is taken. -/
def popS (s : As) (c : Nat) : As := { s with bk := upd s.bk c (s.bk c).dropLast }
/-- A piece is cut off at the line. -/
def pushS (s : As) (c : Nat) : As := { s with gv := s.gv + c, ps := s.ps ++ [⟨s.gv + 1, c, 0⟩] }
/-- The piece that begins at x is asked for with n words. -/
def markS (s : As) (x n : Nat) : As := { s with ps := mark s.ps (cnt s.ps x - 1) n, ws := clr s.ws (x - 1) n }
/-- The i-th piece goes back. -/
def freeS (s : As) (i : Nat) (p : Pc) : As := { s with ps := mark s.ps i 0, bk := upd s.bk (clsN p.n) (s.bk (clsN p.n) ++ [p.a]) }
def setS (s : As) (x : Nat) (v : Int) : As := { s with ws := s.ws.set (x - 1) v }
/-- Alloc's answer and the arena behind it; none: there is no room. -/
def allocS (s : As) (n : Nat) : Option (Nat × As) :=
  match (s.bk (clsN n)).getLast? with
  | some x => some (x, markS (popS s (clsN n)) x n)
  | none => if clsN n ≤ s.ws.length - s.gv then some (s.gv + 1, markS (pushS s (clsN n)) (s.gv + 1) n) else none
def newS (n : Nat) : As := ⟨List.replicate n 0, 0, [], fun _ => []⟩
def liveS (s : As) : List Nat := (s.ps.filter fun p => decide (0 < p.n)).map (·.a)

/-- What holds of every arena. -/
structure Inv (s : As) : Prop where
  row : Row 1 s.ps (s.gv + 1)
  fits : s.gv ≤ s.ws.length
  small : s.ws.length ≤ 65536
  back : ∀ c, ∀ x ∈ s.bk c, ∃ (i : Nat) (p : Pc), s.ps[i]? = some p ∧ p.a = x ∧ p.c = c ∧ p.n = 0
  once : ∀ c, (s.bk c).Nodup
  all : ∀ (i : Nat) (p : Pc), s.ps[i]? = some p → p.n = 0 → p.a ∈ s.bk p.c
/-- What holds of an arena in the midst of a call, too. -/
structure Inv0 (s : As) : Prop where
  row : Row 1 s.ps (s.gv + 1)
  fits : s.gv ≤ s.ws.length
  small : s.ws.length ≤ 65536
theorem Inv.z {s : As} (h : Inv s) : Inv0 s := ⟨h.row, h.fits, h.small⟩
theorem Inv0.pieces {s : As} (h : Inv0 s) : s.ps.length ≤ 65536 := by
  have h1 := h.row.le
  have h2 := h.fits
  have h3 := h.small
  omega
theorem inv_new {n : Nat} (h : n ≤ 65536) : Inv (newS n) :=
  ⟨rfl, by simp [newS], by simp [newS]; exact h, by simp [newS], by simp [newS], by simp [newS]⟩
theorem Inv.pieces {s : As} (h : Inv s) : s.ps.length ≤ 65536 := by
  have h1 := h.row.le
  have h2 := h.fits
  have h3 := h.small
  omega
theorem Row.inj {ps : List Pc} {b e i j : Nat} {p q : Pc} (h : Row b ps e) (hp : ps[i]? = some p) (hq : ps[j]? = some q) (he : p.a = q.a) : i = j := by
  rcases Nat.lt_trichotomy i j with h1 | h1 | h1
  · have := h.apart hp hq h1; have := h.at hp; omega
  · exact h1
  · have := h.apart hq hp h1; have := h.at hq; omega
theorem Inv.set {s : As} (h : Inv s) (x : Nat) (v : Int) : Inv (setS s x v) :=
  ⟨h.row, by simpa [setS] using h.fits, by simpa [setS] using h.small, h.back, h.once, h.all⟩
theorem Inv.free {s : As} (h : Inv s) {i : Nat} {p : Pc} (hp : s.ps[i]? = some p) (hn : 0 < p.n) : Inv (freeS s i p) := by
  have hr := h.row.at hp
  have hc : clsN p.n = p.c := by omega
  have hnot : p.a ∉ s.bk p.c := fun hm => by
    obtain ⟨j, q, hq, h1, _, h3⟩ := h.back _ _ hm
    have := h.row.inj hq hp h1
    subst this
    rw [hp] at hq; cases hq; omega
  refine ⟨h.row.mark hp (by omega) (.inl rfl), h.fits, h.small, ?_, ?_, ?_⟩
  · intro c x hx
    simp only [freeS] at hx ⊢
    by_cases hcc : c = clsN p.n
    · subst hcc
      rw [upd_same] at hx
      rcases List.mem_append.1 hx with hx | hx
      · obtain ⟨j, q, hq, h1, h2, h3⟩ := h.back _ _ hx
        have hij : i ≠ j := fun e => by subst e; rw [hp] at hq; cases hq; omega
        exact ⟨j, q, by rw [mark_other hij]; exact hq, h1, h2, h3⟩
      · simp at hx; subst hx
        exact ⟨i, _, mark_same hp, rfl, hc.symm, rfl⟩
    · rw [upd_other _ _ hcc] at hx
      obtain ⟨j, q, hq, h1, h2, h3⟩ := h.back _ _ hx
      have hij : i ≠ j := fun e => by subst e; rw [hp] at hq; cases hq; omega
      exact ⟨j, q, by rw [mark_other hij]; exact hq, h1, h2, h3⟩
  · intro c
    simp only [freeS]
    by_cases hcc : c = clsN p.n
    · subst hcc
      rw [upd_same, List.nodup_append]
      exact ⟨h.once _, by simp, fun x hx y hy => by simp at hy; subst hy; intro e; subst e; exact hnot (hc ▸ hx)⟩
    · rw [upd_other _ _ hcc]; exact h.once c
  · intro j q hq hn0
    simp only [freeS] at hq ⊢
    by_cases hij : i = j
    · subst hij
      rw [mark_same hp] at hq
      cases hq
      show p.a ∈ upd s.bk (clsN p.n) _ p.c
      rw [hc, upd_same]; simp
    · rw [mark_other hij] at hq
      have := h.all j q hq hn0
      by_cases hcc : q.c = clsN p.n
      · rw [hcc, upd_same]; rw [← hcc]; simp [this]
      · rw [upd_other _ _ hcc]; exact this
theorem getLast_split {α : Type} {l : List α} {x : α} (h : l.getLast? = some x) : l = l.dropLast ++ [x] := by
  have hne : l ≠ [] := fun e => by subst e; simp at h
  rw [List.getLast?_eq_some_getLast hne] at h
  cases h
  exact (List.dropLast_concat_getLast hne).symm
/-- What Alloc gives, and that the arena behind it is one. -/
structure Given (s : As) (n : Nat) (x : Nat) (s' : As) : Prop where
  inv : Inv s'
  len : s'.ws.length = s.ws.length
  piece : ∃ i, s'.ps[i]? = some ⟨x, clsN n, n⟩ ∧ (s.ps[i]? = some ⟨x, clsN n, 0⟩ ∨ i = s.ps.length ∧ x = s.gv + 1) ∧ ∀ j, j ≠ i → s'.ps[j]? = s.ps[j]?
  ws : s'.ws = clr s.ws (x - 1) n
  within : 1 ≤ x ∧ x + clsN n ≤ s'.gv + 1
theorem alloc_given {s s' : As} {n x : Nat} (h : Inv s) (h1 : 1 ≤ n) (h2 : n ≤ 65536) (ha : allocS s n = some (x, s')) : Given s n x s' := by
  have hcl := cls_le h1 h2
  unfold allocS at ha
  split at ha
  · rename_i y hy
    cases ha
    have hsp := getLast_split hy
    have hmem : x ∈ s.bk (clsN n) := by rw [hsp]; simp
    obtain ⟨i, p, hp, e1, e2, e3⟩ := h.back _ _ hmem
    have hr := h.row.at hp
    have hc : cnt s.ps x = i + 1 := h.row.cnt_at hp (by omega) (by omega)
    have hfit := h.fits
    have hlen : x - 1 + n ≤ s.ws.length := by omega
    have hnd : x ∉ (s.bk (clsN n)).dropLast := by
      have := h.once (clsN n)
      rw [hsp, List.nodup_append] at this
      intro hm
      exact this.2.2 x hm x (by simp) rfl
    have hps : (markS (popS s (clsN n)) x n).ps = mark s.ps i n := by simp [markS, popS, hc]
    have hrow : Row 1 (mark s.ps i n) (s.gv + 1) := h.row.mark hp (by omega) (.inr e2.symm)
    refine ⟨⟨hps ▸ hrow, ?_, ?_, ?_, ?_, ?_⟩, clr_length hlen, ⟨i, ?_, .inl ?_, ?_⟩, rfl, ?_⟩
    · show s.gv ≤ (clr s.ws (x - 1) n).length
      rw [clr_length hlen]; exact h.fits
    · show (clr s.ws (x - 1) n).length ≤ 65536
      rw [clr_length hlen]; exact h.small
    · intro c y hy'
      have hy2 : y ∈ s.bk c ∧ ¬ (y = x ∧ c = clsN n) := by
        simp only [markS, popS] at hy'
        by_cases hcc : c = clsN n
        · subst hcc
          rw [upd_same] at hy'
          exact ⟨List.dropLast_subset _ hy', fun e => hnd (e.1 ▸ hy')⟩
        · rw [upd_other _ _ hcc] at hy'; exact ⟨hy', fun e => hcc e.2⟩
      obtain ⟨j, q, hq, f1, f2, f3⟩ := h.back _ _ hy2.1
      have hij : i ≠ j := fun e => by
        subst e; rw [hp] at hq; cases hq
        exact hy2.2 ⟨by omega, by omega⟩
      exact ⟨j, q, by rw [hps, mark_other hij]; exact hq, f1, f2, f3⟩
    · intro c
      simp only [markS, popS]
      by_cases hcc : c = clsN n
      · subst hcc; rw [upd_same]; exact (h.once _).sublist (List.dropLast_sublist _)
      · rw [upd_other _ _ hcc]; exact h.once c
    · intro j q hq hn0
      rw [hps] at hq
      by_cases hij : i = j
      · subst hij
        rw [mark_same hp] at hq
        cases hq
        simp at hn0; omega
      · rw [mark_other hij] at hq
        have hm := h.all j q hq hn0
        simp only [markS, popS]
        by_cases hcc : q.c = clsN n
        · rw [hcc, upd_same]
          rw [hcc, hsp] at hm
          rcases List.mem_append.1 hm with hm | hm
          · exact hm
          · simp at hm
            exact absurd (h.row.inj hp hq (by omega)) hij
        · rw [upd_other _ _ hcc]; exact hm
    · rw [hps, mark_same hp, e1, e2]
    · rw [hp, ← e1, ← e2, ← e3]
    · intro j hj; rw [hps, mark_other (Ne.symm hj)]
    · exact ⟨by omega, by show x + clsN n ≤ s.gv + 1; omega⟩
  · rename_i hnone
    split at ha
    · rename_i hroom
      cases ha
      have hnil : s.bk (clsN n) = [] := by simpa using hnone
      have hfit := h.fits
      have hsm := h.small
      have hrow0 : Row 1 (s.ps ++ [⟨s.gv + 1, clsN n, 0⟩]) (s.gv + 1 + clsN n) := h.row.snoc rfl (by show 1 ≤ clsN n; omega) (Nat.zero_le _) (.inl rfl)
      have hat : (s.ps ++ [(⟨s.gv + 1, clsN n, 0⟩ : Pc)])[s.ps.length]? = some ⟨s.gv + 1, clsN n, 0⟩ := by simp
      have hc : cnt (s.ps ++ [(⟨s.gv + 1, clsN n, 0⟩ : Pc)]) ((s.gv + 1 : Nat) : Int) = s.ps.length + 1 := hrow0.cnt_at hat (Int.le_refl _) (by simp only; omega)
      have hps : (markS (pushS s (clsN n)) (s.gv + 1) n).ps = mark (s.ps ++ [⟨s.gv + 1, clsN n, 0⟩]) s.ps.length n := by
        show mark _ (cnt (s.ps ++ [(⟨s.gv + 1, clsN n, 0⟩ : Pc)]) ((s.gv + 1 : Nat) : Int) - 1) n = _
        rw [hc]; rfl
      have hlen : s.gv + 1 - 1 + n ≤ s.ws.length := by omega
      have hin : ∀ {j q}, s.ps[j]? = some q → (s.ps ++ [(⟨s.gv + 1, clsN n, 0⟩ : Pc)])[j]? = some q ∧ s.ps.length ≠ j := fun {j q} hq => by
        have hj : j < s.ps.length := by
          rcases Nat.lt_or_ge j s.ps.length with h1 | h1
          · exact h1
          · rw [List.getElem?_eq_none h1] at hq; cases hq
        exact ⟨by rw [List.getElem?_append_left hj]; exact hq, by omega⟩
      have hrow : Row 1 (mark (s.ps ++ [⟨s.gv + 1, clsN n, 0⟩]) s.ps.length n) (s.gv + 1 + clsN n) := hrow0.mark hat (by show n ≤ clsN n; omega) (.inr rfl)
      refine ⟨⟨?_, ?_, ?_, ?_, ?_, ?_⟩, clr_length hlen, ⟨s.ps.length, ?_, .inr ⟨rfl, rfl⟩, ?_⟩, rfl, ?_⟩
      · rw [hps]
        show Row 1 _ (s.gv + clsN n + 1)
        rw [show s.gv + clsN n + 1 = s.gv + 1 + clsN n from by omega]; exact hrow
      · show s.gv + clsN n ≤ (clr s.ws (s.gv + 1 - 1) n).length
        rw [clr_length hlen]; omega
      · show (clr s.ws (s.gv + 1 - 1) n).length ≤ 65536
        rw [clr_length hlen]; exact h.small
      · intro c y hy
        obtain ⟨j, q, hq, f1, f2, f3⟩ := h.back c y hy
        obtain ⟨g1, g2⟩ := hin hq
        exact ⟨j, q, by rw [hps, mark_other g2]; exact g1, f1, f2, f3⟩
      · exact h.once
      · intro j q hq hn0
        rw [hps] at hq
        by_cases hij : s.ps.length = j
        · subst hij
          rw [mark_same hat] at hq
          cases hq
          simp at hn0; omega
        · rw [mark_other hij] at hq
          have hj : j < s.ps.length := by
            rcases Nat.lt_or_ge j s.ps.length with h1 | h1
            · exact h1
            · rw [List.getElem?_eq_none (by simp; omega)] at hq; cases hq
          rw [List.getElem?_append_left hj] at hq
          exact h.all j q hq hn0
      · rw [hps, mark_same hat]
      · intro j hj
        rw [hps, mark_other (Ne.symm hj)]
        rcases Nat.lt_or_ge j s.ps.length with h1 | h1
        · rw [List.getElem?_append_left h1]
        · rw [List.getElem?_eq_none (by simp; omega), List.getElem?_eq_none h1]
      · exact ⟨by omega, by show s.gv + 1 + clsN n ≤ s.gv + clsN n + 1; omega⟩
    · cases ha
end Go.Proofs.Ytimpmgbahgganaa
