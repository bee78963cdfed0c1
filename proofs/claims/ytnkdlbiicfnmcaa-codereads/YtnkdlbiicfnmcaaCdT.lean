/- There and back: plain. -/
import Derived.Test.YtnkdlbiicfnmcaaCdSTJt
namespace Go.Proofs.Ytnkdlbiicfnmcaa
def In64 (n : Int) : Prop := -9223372036854775808 ≤ n ∧ n ≤ 9223372036854775807
def InL {α : Type} (Q : α → Prop) (l : List α) : Prop := l.length ≤ 9223372036854775807 ∧ ∀ x ∈ l, Q x
def InI (i : In3) : Prop := In64 i.o ∧ In64 i.a ∧ In64 i.b
def InF (f : Fd) : Prop := In64 f.pa ∧ InL In64 f.lo ∧ InL In64 f.re ∧ InL In64 f.ar ∧ InL InI f.co
def InS (s : By) : Prop := s.length ≤ 9223372036854775807
def InP (p : Pg) : Prop := InL (InL In64) p.ty ∧ InL InF p.fu ∧ InL (InL In64) p.ta ∧ InL InS p.st
theorem unzig_zig (n : Int) : unzig (zig n) = n := by
  unfold unzig zig
  split <;> split <;> omega
theorem zig_unzig (z : Nat) : zig (unzig z) = z := by
  unfold unzig zig
  split <;> split <;> omega
theorem zig_lt64 {n : Int} (h : In64 n) : zig n < 18446744073709551616 := by
  obtain ⟨h1, h2⟩ := h
  unfold zig
  split <;> omega
theorem toNat_ofNat {n : Nat} (h : n < 256) : (UInt8.ofNat n).toNat = n := by rw [UInt8.toNat_ofNat']; omega
theorem bits_enc : ∀ (f i z acc : Nat) (r : By), i + f = 9 → z < 2 * 128 ^ f → (0 < i → z ≠ 0) → bitsR i acc (sv f z ++ r) = some (acc + z * 128 ^ i, r)
  | 0, i, z, acc, r, hi, hz, h0 => by
    have hb : (UInt8.ofNat z).toNat = z := toNat_ofNat (by omega)
    simp only [sv, List.cons_append, List.nil_append, bitsR, hb]
    rw [if_neg (by omega), if_pos (by omega), Nat.mod_eq_of_lt (by omega)]
  | f + 1, i, z, acc, r, hi, hz, h0 => by
    unfold sv
    by_cases h : z < 128
    · have hb : (UInt8.ofNat z).toNat = z := toNat_ofNat (by omega)
      rw [if_pos h]
      simp only [List.cons_append, List.nil_append, bitsR, hb]
      rw [if_neg (by omega), if_pos h, Nat.mod_eq_of_lt h]
    · have hb : (UInt8.ofNat (z % 128 + 128)).toNat = z % 128 + 128 := toNat_ofNat (by omega)
      rw [if_neg h]
      simp only [List.cons_append, bitsR, hb]
      have hp := pow_7 f
      rw [if_neg (by omega), if_neg (by omega), bits_enc f (i + 1) (z / 128) _ r (by omega) (by omega) (by omega)]
      have e : (z % 128 + 128) % 128 = z % 128 := by omega
      have h2 := pow_7 i
      have h3 : z % 128 * 128 ^ i + z / 128 * 128 ^ (i + 1) = z * 128 ^ i := by
        rw [h2, ← Nat.mul_assoc, ← Nat.add_mul]
        congr 1
        omega
      rw [e, Nat.add_assoc, h3]
theorem byte_of {b : UInt8} {n : Nat} (h : b.toNat = n) : UInt8.ofNat n = b := by subst h; simp
theorem bits_dec : ∀ (f i acc y : Nat) (b r : By), i + f = 9 → bitsR i acc b = some (y, r) → ∃ z, b = sv f z ++ r ∧ y = acc + z * 128 ^ i ∧ z < 2 * 128 ^ f ∧ (0 < i → z ≠ 0)
  | f, i, acc, y, [], r, hi, h => by simp [bitsR] at h
  | 0, i, acc, y, b :: l, r, hi, h => by
    obtain rfl : i = 9 := by omega
    unfold bitsR at h
    split at h
    · cases h
    · rename_i hn
      rw [if_pos (by omega)] at h
      cases h
      refine ⟨b.toNat, ?_, by rw [Nat.mod_eq_of_lt (by omega)], by omega, by omega⟩
      simp [sv, byte_of rfl]
  | f + 1, i, acc, y, b :: l, r, hi, h => by
    unfold bitsR at h
    split at h
    · cases h
    · rename_i hn
      have hp := pow_7 f
      have hpos : 1 ≤ 128 ^ f := Nat.pos_of_ne_zero (by simp)
      split at h
      · rename_i hb
        cases h
        refine ⟨b.toNat, ?_, by rw [Nat.mod_eq_of_lt hb], by omega, by omega⟩
        unfold sv
        rw [if_pos hb, byte_of rfl]
        rfl
      · rename_i hb
        obtain ⟨z, h1, h2, h3, h4⟩ := bits_dec f (i + 1) _ y l r (by omega) h
        have hz := h4 (by omega)
        have hlt := b.toNat_lt
        refine ⟨b.toNat % 128 + 128 * z, ?_, ?_, by omega, by omega⟩
        · unfold sv
          rw [if_neg (by omega), show (b.toNat % 128 + 128 * z) % 128 = b.toNat % 128 by omega, show (b.toNat % 128 + 128 * z) / 128 = z by omega, byte_of (b := b) (by omega), h1]
          rfl
        · rw [h2, pow_7 i, Nat.add_mul, Nat.add_assoc]
          congr 2
          rw [← Nat.mul_assoc, Nat.mul_comm z 128]
/-- What is written is read. -/
def Enc {α : Type} (it : Rs → α × Rs) (E : α → By) (Q : α → Prop) : Prop := ∀ x r, Q x → it ⟨E x ++ r, false⟩ = (x, ⟨r, false⟩)
/-- What is read was written so. -/
def Dcd {α : Type} (it : Rs → α × Rs) (E : α → By) (Q : α → Prop) : Prop := ∀ s, s.bad = false → (it s).2.bad = false → s.rest = E (it s).1 ++ (it s).2.rest ∧ Q (it s).1
theorem num_enc : Enc numR numE In64 := fun n r hn => by
  have h := bits_enc 9 0 (zig n) 0 r rfl (by have := zig_lt64 hn; have h98 : (128 : Nat) ^ 9 = 9223372036854775808 := by decide
                                             omega) (by omega)
  simp only [numR, bitsS, numE, h, Nat.zero_add, Nat.pow_zero, Nat.mul_one, unzig_zig]
theorem num_dcd : Dcd numR numE In64 := fun s hb hb2 => by
  refine ⟨?_, numR_in s⟩
  unfold numR bitsS at *
  cases h : bitsR 0 0 s.rest with
  | none => rw [h] at hb2; cases hb2
  | some p =>
    obtain ⟨y, r⟩ := p
    obtain ⟨z, h1, h2, _, _⟩ := bits_dec 9 0 0 y s.rest r rfl h
    simp only [Nat.zero_add, Nat.pow_zero, Nat.mul_one] at h2
    subst h2
    simp only [numE, zig_unzig]
    exact h1
theorem cnt_enc {n : Nat} (r : By) (hn : n ≤ 9223372036854775807) : cntR ⟨numE n ++ r, false⟩ = (n, ⟨r, false⟩) := by
  unfold cntR
  rw [num_enc (n : Int) r ⟨by omega, by omega⟩]
  simp only []
  rw [if_neg (by omega)]
  simp
theorem cnt_dcd (s : Rs) (hb : s.bad = false) (h : (cntR s).2.bad = false) : s.rest = numE (cntR s).1 ++ (cntR s).2.rest := by
  unfold cntR at *
  split at h
  · cases h
  · rename_i hn
    have h1 := (num_dcd s hb h).1
    rw [if_neg hn]
    simp only []
    rw [show (((numR s).1.toNat : Nat) : Int) = (numR s).1 by omega]
    exact h1
theorem loop_enc {α : Type} {it : Rs → α × Rs} {E : α → By} {Q : α → Prop} (h : Enc it E Q) : ∀ (l : List α) (r : By), (∀ x ∈ l, Q x) → loopR it l.length ⟨l.flatMap E ++ r, false⟩ = (l, ⟨r, false⟩)
  | [], r, _ => rfl
  | x :: l, r, hq => by
    rw [List.length_cons, loopR, if_neg (by simp), List.flatMap_cons, List.append_assoc, h x _ (hq x (by simp))]
    simp only []
    rw [loop_enc h l r (fun y hy => hq y (by simp [hy]))]
theorem lst_enc {α : Type} {it : Rs → α × Rs} {E : α → By} {Q : α → Prop} (h : Enc it E Q) : Enc (lstR it) (lstE E) (InL Q) := fun l r hq => by
  unfold lstR lstE
  rw [List.append_assoc, cnt_enc _ hq.1]
  exact loop_enc h l r hq.2
theorem Less.back {α : Type} {it : Rs → α × Rs} (h : Less it) {s : Rs} (hb : (it s).2.bad = false) : (it s).2.bad = s.bad := by
  rcases h s with h1 | h1
  · rw [h1] at hb; cases hb
  · exact h1.1
theorem stepb {α : Type} {it : Rs → α × Rs} (hl : Less it) (s : Rs) (h : (it s).2.bad = false) : s.bad = false := by
  rw [← Less.back hl h]; exact h
theorem loop_dcd {α : Type} {it : Rs → α × Rs} {E : α → By} {Q : α → Prop} (h : Dcd it E Q) (hl : Less it) : ∀ (n : Nat) (s : Rs), s.bad = false → (loopR it n s).2.bad = false → s.rest = (loopR it n s).1.flatMap E ++ (loopR it n s).2.rest ∧ (loopR it n s).1.length = n ∧ ∀ x ∈ (loopR it n s).1, Q x
  | 0, s, _, _ => ⟨by simp [loopR], rfl, fun x hx => by simp [loopR] at hx⟩
  | n + 1, s, hb, h2 => by
    rw [loopR_next it hb] at *
    have h3 : (it s).2.bad = false := by
      have := Less.back (loopR_less hl n) h2
      rw [← this]; exact h2
    obtain ⟨e1, e2⟩ := h s hb h3
    obtain ⟨f1, f2, f3⟩ := loop_dcd h hl n (it s).2 h3 h2
    refine ⟨?_, by simp [f2], fun x hx => ?_⟩
    · rw [List.flatMap_cons, List.append_assoc, ← f1]
      exact e1
    · simp at hx
      rcases hx with rfl | hx
      · exact e2
      · exact f3 x hx
theorem lst_dcd {α : Type} {it : Rs → α × Rs} {E : α → By} {Q : α → Prop} (h : Dcd it E Q) (hl : Less it) : Dcd (lstR it) (lstE E) (InL Q) := fun s hb h2 => by
  unfold lstR at *
  have h3 : (cntR s).2.bad = false := by
    have := Less.back (loopR_less hl (cntR s).1) h2
    rw [← this]; exact h2
  have e1 := cnt_dcd s hb h3
  obtain ⟨f1, f2, f3⟩ := loop_dcd h hl (cntR s).1 (cntR s).2 h3 h2
  refine ⟨?_, by rw [f2]; exact cntR_le s, f3⟩
  unfold lstE
  rw [f2, List.append_assoc, ← f1]
  exact e1
theorem ints_enc : Enc intsR intsE (InL In64) := lst_enc num_enc
theorem ints_dcd : Dcd intsR intsE (InL In64) := lst_dcd num_dcd numR_eats.less
theorem ins_enc : Enc insR insE InI := fun i r ⟨h1, h2, h3⟩ => by
  unfold insR insE
  rw [List.append_assoc, List.append_assoc, num_enc _ _ h1]
  simp only []
  rw [num_enc _ _ h2]
  simp only []
  rw [num_enc _ _ h3]
theorem ins_dcd : Dcd insR insE InI := fun s hb h => by
  have h3 : (numR (numR s).2).2.bad = false := by rw [← Less.back numR_eats.less (s := (numR (numR s).2).2) h]; exact h
  have h2 : (numR s).2.bad = false := by rw [← Less.back numR_eats.less (s := (numR s).2) h3]; exact h3
  obtain ⟨e1, q1⟩ := num_dcd s hb h2
  obtain ⟨e2, q2⟩ := num_dcd _ h2 h3
  obtain ⟨e3, q3⟩ := num_dcd _ h3 h
  refine ⟨?_, q1, q2, q3⟩
  unfold insR insE
  simp only []
  rw [List.append_assoc, List.append_assoc, ← e3, ← e2]
  exact e1
theorem str_enc : Enc strR strE InS := fun s r hs => by
  unfold strR strE
  rw [List.append_assoc, cnt_enc _ hs]
  show takeR s.length ⟨s ++ r, false⟩ = (s, ⟨r, false⟩)
  unfold takeR
  rw [if_neg (by simp)]
  simp
theorem str_dcd : Dcd strR strE InS := fun s hb h => by
  unfold strR at *
  have h3 : (cntR s).2.bad = false := by rw [← Less.back (takeR_less (cntR s).1) (s := (cntR s).2) h]; exact h
  have e1 := cnt_dcd s hb h3
  have hle := cntR_le s
  unfold takeR at *
  by_cases hn : (cntR s).2.rest.length < (cntR s).1
  · rw [if_pos hn] at h; cases h
  · rw [if_neg hn]
    simp only [strE, InS]
    have hl : ((cntR s).2.rest.take (cntR s).1).length = (cntR s).1 := by rw [List.length_take]; omega
    refine ⟨?_, by rw [hl]; exact hle⟩
    rw [hl, List.append_assoc, List.take_append_drop]
    exact e1
theorem fd_enc : Enc fdR fdE InF := fun f r ⟨h1, h2, h3, h4, h5⟩ => by
  simp only [fdR, fdE, List.append_assoc]
  rw [num_enc _ _ h1]
  simp only []
  rw [ints_enc _ _ h2]
  simp only []
  rw [ints_enc _ _ h3]
  simp only []
  rw [ints_enc _ _ h4]
  simp only []
  rw [lst_enc ins_enc _ _ h5]
theorem Dcd.eq {α : Type} {it : Rs → α × Rs} {E : α → By} {Q : α → Prop} (h : Dcd it E Q) {s s' : Rs} {x : α} (e : it s = (x, s')) (hb : s.bad = false) (hb' : s'.bad = false) : s.rest = E x ++ s'.rest ∧ Q x := by
  have := h s hb (by rw [e]; exact hb')
  rw [e] at this
  exact this
theorem stepe {α : Type} {it : Rs → α × Rs} (hl : Less it) {s s' : Rs} {x : α} (e : it s = (x, s')) (h : s'.bad = false) : s.bad = false := stepb hl s (by rw [e]; exact h)
theorem fd_dcd : Dcd fdR fdE InF := fun s hb h => by
  rcases hA : numR s with ⟨a, sa⟩
  rcases hB : intsR sa with ⟨b, sb⟩
  rcases hC : intsR sb with ⟨c, sc⟩
  rcases hD : intsR sc with ⟨d, sd⟩
  rcases hE : lstR insR sd with ⟨e, se⟩
  have hF : fdR s = (⟨a, b, c, d, e⟩, se) := by simp only [fdR, hA, hB, hC, hD, hE]
  have h : se.bad = false := by rw [hF] at h; exact h
  rw [hF]
  have h5 := stepe (lstR_eats insR_eats.less).less hE h
  have h4 := stepe intsR_eats.less hD h5
  have h3 := stepe intsR_eats.less hC h4
  have h2 := stepe intsR_eats.less hB h3
  obtain ⟨e1, q1⟩ := num_dcd.eq hA hb h2
  obtain ⟨e2, q2⟩ := ints_dcd.eq hB h2 h3
  obtain ⟨e3, q3⟩ := ints_dcd.eq hC h3 h4
  obtain ⟨e4, q4⟩ := ints_dcd.eq hD h4 h5
  obtain ⟨e5, q5⟩ := (lst_dcd ins_dcd insR_eats.less).eq hE h5 h
  refine ⟨?_, q1, q2, q3, q4, q5⟩
  show s.rest = numE a ++ intsE b ++ intsE c ++ intsE d ++ lstE insE e ++ se.rest
  simp only [List.append_assoc]
  rw [← e5, ← e4, ← e3, ← e2]
  exact e1
theorem fixed_enc (r : By) : fixedR ⟨hdE ++ r, false⟩ = ⟨r, false⟩ := by
  have ht : takeR 3 ⟨hdE ++ r, false⟩ = (hdE, ⟨r, false⟩) := by
    unfold takeR
    rw [if_neg (by simp [hdE])]
    simp [hdE]
  unfold fixedR
  rw [ht, if_pos rfl]
theorem fixed_dcd (s : Rs) (h : (fixedR s).bad = false) : s.rest = hdE ++ (fixedR s).rest ∧ s.bad = false := by
  unfold fixedR takeR at *
  by_cases hn : s.rest.length < 3
  · rw [if_pos hn] at h
    simp [hdE, failS] at h
  · rw [if_neg hn] at *
    simp only [] at *
    split at h
    · rename_i he
      rw [if_pos he, ← he]
      exact ⟨(List.take_append_drop 3 s.rest).symm, h⟩
    · cases h
theorem pg_enc (p : Pg) (r : By) (hp : InP p) : pgR ⟨pgE p ++ r, false⟩ = (p, ⟨r, false⟩) := by
  obtain ⟨h1, h2, h3, h4⟩ := hp
  simp only [pgR, pgE, List.append_assoc]
  rw [fixed_enc, lst_enc ints_enc _ _ h1]
  simp only []
  rw [lst_enc fd_enc _ _ h2]
  simp only []
  rw [lst_enc ints_enc _ _ h3]
  simp only []
  rw [lst_enc str_enc _ _ h4]
theorem pg_dcd (s : Rs) (h : (pgR s).2.bad = false) : s.rest = pgE (pgR s).1 ++ (pgR s).2.rest ∧ InP (pgR s).1 := by
  rcases hA : lstR intsR (fixedR s) with ⟨a, sa⟩
  rcases hB : lstR fdR sa with ⟨b, sb⟩
  rcases hC : lstR intsR sb with ⟨c, sc⟩
  rcases hD : lstR strR sc with ⟨d, sd⟩
  have hF : pgR s = (⟨a, b, c, d⟩, sd) := by simp only [pgR, hA, hB, hC, hD]
  have h : sd.bad = false := by rw [hF] at h; exact h
  rw [hF]
  have h4 := stepe (lstR_eats strR_eats.less).less hD h
  have h3 := stepe (lstR_eats intsR_eats.less).less hC h4
  have h2 := stepe (lstR_eats fdR_eats.less).less hB h3
  have h1 := stepe (lstR_eats intsR_eats.less).less hA h2
  obtain ⟨e0, _⟩ := fixed_dcd s h1
  obtain ⟨e1, q1⟩ := (lst_dcd ints_dcd intsR_eats.less).eq hA h1 h2
  obtain ⟨e2, q2⟩ := (lst_dcd fd_dcd fdR_eats.less).eq hB h2 h3
  obtain ⟨e3, q3⟩ := (lst_dcd ints_dcd intsR_eats.less).eq hC h3 h4
  obtain ⟨e4, q4⟩ := (lst_dcd str_dcd strR_eats.less).eq hD h4 h
  refine ⟨?_, q1, q2, q3, q4⟩
  show s.rest = hdE ++ lstE intsE a ++ lstE fdE b ++ lstE intsE c ++ lstE strE d ++ sd.rest
  simp only [List.append_assoc]
  rw [← e4, ← e3, ← e2, ← e1]
  exact e0
theorem dec_enc {p : Pg} (hp : InP p) (hs : sndP p = true) (hl : (pgE p).length ≤ MB) : decP (pgE p) = (p, 0) := by
  have h := pg_enc p [] hp
  rw [List.append_nil] at h
  unfold decP
  rw [if_neg (by omega), h, if_neg (by simp), if_pos hs]
theorem dec_more {p : Pg} (hp : InP p) (x : UInt8) : (decP (pgE p ++ [x])).2 = 3 ∨ (decP (pgE p ++ [x])).2 = 13 := by
  unfold decP
  by_cases h : MB < (pgE p ++ [x]).length
  · rw [if_pos h]; exact .inr rfl
  · rw [if_neg h, pg_enc p [x] hp, if_pos (.inr (by simp))]; exact .inl rfl
theorem dec_cut {p : Pg} (hp : InP p) (hl : (pgE p).length ≤ MB) {n : Nat} (hn : n < (pgE p).length) : (decP ((pgE p).take n)).2 = 3 := by
  unfold decP
  rw [if_neg (by rw [List.length_take]; omega)]
  by_cases hb : (pgR ⟨(pgE p).take n, false⟩).2.bad = true
  · rw [if_pos (.inl hb)]
  · have hb' : (pgR ⟨(pgE p).take n, false⟩).2.bad = false := by simpa using hb
    obtain ⟨e, q⟩ := pg_dcd _ hb'
    have h1 := pg_enc p [] hp
    rw [List.append_nil] at h1
    have h2 : pgE p = pgE (pgR ⟨(pgE p).take n, false⟩).1 ++ ((pgR ⟨(pgE p).take n, false⟩).2.rest ++ (pgE p).drop n) := by
      rw [← List.append_assoc, ← e, List.take_append_drop]
    have h3 := pg_enc _ ((pgR ⟨(pgE p).take n, false⟩).2.rest ++ (pgE p).drop n) q
    rw [← h2, h1] at h3
    have h4 := congrArg (fun q : Pg × Rs => q.2.rest.length) h3
    simp only [List.length_append, List.length_drop, List.length_nil] at h4
    omega
theorem dec_back {b : By} (h : (decP b).2 = 0) : pgE (decP b).1 = b ∧ sndP (decP b).1 = true ∧ b.length ≤ MB ∧ InP (decP b).1 := by
  unfold decP at *
  split at h
  · cases h
  · rename_i h1
    split at h
    · cases h
    · rename_i h2
      split at h
      · rename_i h3
        rw [if_neg h1, if_neg h2, if_pos h3]
        have hb : (pgR ⟨b, false⟩).2.bad = false := by
          cases hh : (pgR ⟨b, false⟩).2.bad
          · rfl
          · exact absurd (.inl hh) h2
        obtain ⟨e, q⟩ := pg_dcd _ hb
        have hr : (pgR ⟨b, false⟩).2.rest = [] := List.eq_nil_of_length_eq_zero (by
          rcases Nat.eq_zero_or_pos (pgR ⟨b, false⟩).2.rest.length with h | h
          · exact h
          · exact absurd (.inr h) h2)
        rw [hr, List.append_nil] at e
        exact ⟨e.symm, h3, by omega, q⟩
      · cases h
theorem dec_bad {b : By} (h : (decP b).2 ≠ 0) : (decP b).1 = pg0 := by
  unfold decP at *
  split
  · rfl
  · split
    · rfl
    · split
      · rename_i h1 h2 h3
        rw [if_neg h1, if_neg h2, if_pos h3] at h
        exact absurd rfl h
      · rfl
end Go.Proofs.Ytnkdlbiicfnmcaa
