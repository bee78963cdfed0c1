/- A program that has more than another one: what is sound stays so. Plain. -/
import Derived.Test.YtaeheikhpepipaaDoorVfAw
namespace Go.Proofs.YtaeheikhpepipaaDoor
structure Ext (p q : Pg) : Prop where
  ty : ∀ (t : Nat) (l : List Int), p.ty[t]? = some l → q.ty[t]? = some l
  tl : p.ty.length ≤ q.ty.length
  fu : ∀ (m : Nat) (g : Fd), p.fu[m]? = some g → ∃ g', q.fu[m]? = some g' ∧ parK g' = parK g ∧ g'.re = g.re
  fl : p.fu.length ≤ q.fu.length
  ta : ∀ (t : Nat) (l : List Int), p.ta[t]? = some l → q.ta[t]? = some l
  al : p.ta.length ≤ q.ta.length
  sl : p.st.length ≤ q.st.length
structure ExF (f g : Fd) : Prop where
  lo : ∀ (k : Nat) (x : Int), f.lo[k]? = some x → g.lo[k]? = some x
  ll : f.lo.length ≤ g.lo.length
  ar : ∀ (k : Nat) (x : Int), f.ar[k]? = some x → g.ar[k]? = some x
  al : f.ar.length ≤ g.ar.length
  re : g.re = f.re
  co : ∀ (k : Nat) (i : In3), f.co[k]? = some i → g.co[k]? = some i
  cl : f.co.length ≤ g.co.length
section
variable {p q : Pg} {f g : Fd} {i : In3}
theorem in_mono {x : Int} {m n : Nat} (h : inB x m = true) (hm : m ≤ n) : inB x n = true := by
  simp only [inB, decide_eq_true_eq] at h ⊢
  omega
theorem kb_mono {m n : Nat} {k : Int} (h : isKB m k = true) (hm : m ≤ n) : isKB n k = true := by
  unfold isKB at h ⊢
  rw [decide_eq_true_eq] at h ⊢
  omega
theorem free_mono {m n : Nat} {k : Int} (h : freeB m k = true) (hm : m ≤ n) : freeB n k = true := by
  unfold freeB at h ⊢
  rw [Bool.and_eq_true] at h ⊢
  exact ⟨kb_mono h.1 hm, h.2⟩
theorem only_ext (X : Ext p q) {t k : Int} (h : onlyB p t k = true) : onlyB q t k = true := by
  unfold onlyB at h ⊢
  rw [decide_eq_true_eq] at h ⊢
  exact X.ty _ _ h
theorem names_ext (X : Ext p q) (Y : ExF f g) (h : namesB p f i = true) : namesB q g i = true := by
  unfold namesB at h ⊢
  by_cases h1 : i.o = 2
  · rw [if_pos h1, Bool.and_eq_true] at h ⊢
    exact ⟨h.1, kb_mono h.2 X.tl⟩
  rw [if_neg h1] at h ⊢
  by_cases h2 : i.o = 3 ∨ i.o = 4
  · rw [if_pos h2] at h ⊢; exact in_mono h Y.ll
  rw [if_neg h2] at h ⊢
  by_cases h3 : i.o = 7
  · rw [if_pos h3] at h ⊢; exact h
  rw [if_neg h3] at h ⊢
  by_cases h4 : i.o = 11 ∨ i.o = 12 ∨ i.o = 21
  · rw [if_pos h4] at h ⊢; exact in_mono h X.tl
  rw [if_neg h4] at h ⊢
  by_cases h5 : i.o = 13
  · rw [if_pos h5] at h ⊢; exact in_mono h Y.al
  rw [if_neg h5] at h ⊢
  by_cases h6 : i.o = 16
  · rw [if_pos h6] at h ⊢; exact in_mono h X.tl
  rw [if_neg h6] at h ⊢
  by_cases h7 : i.o = 22
  · rw [if_pos h7] at h ⊢; exact in_mono h X.fl
  rw [if_neg h7] at h ⊢
  by_cases h8 : i.o = 23
  · rw [if_pos h8] at h ⊢; exact in_mono h X.al
  rw [if_neg h8] at h ⊢
  by_cases h9 : i.o = 29
  · rw [if_pos h9] at h ⊢
    simp only [Bool.and_eq_true] at h ⊢
    exact ⟨⟨in_mono h.1.1 X.sl, in_mono h.1.2 X.tl⟩, only_ext X h.2⟩
  rw [if_neg h9]
theorem call_ext (X : Ext p q) {a : Int} (h : inB a p.fu.length = true) : parK (callP q a) = parK (callP p a) ∧ (callP q a).re = (callP p a).re := by
  obtain ⟨m, rfl, hm⟩ := in_nat h
  obtain ⟨g, hg⟩ : ∃ g, p.fu[m]? = some g := ⟨p.fu[m], by simp⟩
  obtain ⟨g', h1, h2, h3⟩ := X.fu m g hg
  rw [call_at hg, call_at h1]
  exact ⟨h2, h3⟩
theorem item_ext (X : Ext p q) (H : Hok p) {a : Int} (h : inB a p.ta.length = true) : parK (itemP q a) = parK (itemP p a) ∧ (itemP q a).re = (itemP p a).re := by
  obtain ⟨t, rfl, ht⟩ := in_nat h
  obtain ⟨tb, m0, g, h1, h2, h3, h4⟩ := table_at H ht
  obtain ⟨g', e1, e2, e3⟩ := X.fu m0 g h3
  have : itemP q (t : Int) = g' := by
    unfold itemP
    rw [Int.toNat_natCast, X.ta t tb h1, Option.getD_some, h2, Option.getD_some, Int.toNat_natCast, e1]
    rfl
  rw [h4, this]
  exact ⟨e2, e3⟩
theorem nm_22 (h : namesB p f i = true) (ho : i.o = 22) : inB i.a p.fu.length = true := by
  unfold namesB at h
  rw [if_neg (by omega), if_neg (by omega), if_neg (by omega), if_neg (by omega), if_neg (by omega), if_neg (by omega), if_pos ho] at h
  exact h
theorem nm_23 (h : namesB p f i = true) (ho : i.o = 23) : inB i.a p.ta.length = true := by
  unfold namesB at h
  rw [if_neg (by omega), if_neg (by omega), if_neg (by omega), if_neg (by omega), if_neg (by omega), if_neg (by omega), if_neg (by omega), if_pos ho] at h
  exact h
theorem nm_lo (h : namesB p f i = true) (ho : i.o = 3 ∨ i.o = 4) : inB i.a f.lo.length = true := by
  unfold namesB at h
  rw [if_neg (by omega), if_pos ho] at h
  exact h
theorem nm_ar (h : namesB p f i = true) (ho : i.o = 13) : inB i.a f.ar.length = true := by
  unfold namesB at h
  rw [if_neg (by omega), if_neg (by omega), if_neg (by omega), if_neg (by omega), if_pos ho] at h
  exact h
theorem get_ext {l m : List Int} (hx : ∀ (k : Nat) (x : Int), l[k]? = some x → m[k]? = some x) {a : Int} (h : inB a l.length = true) : (m[a.toNat]?).getD 0 = (l[a.toNat]?).getD 0 := by
  obtain ⟨k, rfl, hk⟩ := in_nat h
  obtain ⟨x, h1⟩ : ∃ x, l[k]? = some x := ⟨l[k], by simp⟩
  rw [Int.toNat_natCast, h1, hx k x h1]
theorem takes_ext (X : Ext p q) (Y : ExF f g) (H : Hok p) (h : namesB p f i = true) : takesP q g i = takesP p f i := by
  unfold takesP
  by_cases h1 : i.o = 4
  · rw [if_pos h1, if_pos h1, get_ext Y.lo (nm_lo h (.inr h1))]
  rw [if_neg h1, if_neg h1]
  by_cases h2 : i.o = 22
  · obtain ⟨e1, _⟩ := call_ext X (nm_22 h h2)
    simp only [h2, e1]
    rfl
  by_cases h3 : i.o = 23
  · obtain ⟨e1, _⟩ := item_ext X H (nm_23 h h3)
    simp only [h3, e1]
    rfl
  simp only [h2, h3, if_false, Y.re]
theorem field_ext (X : Ext p q) {k a v : Int} (h : fieldP p k a = some v) : fieldP q k a = some v := by
  unfold fieldP at h ⊢
  dsimp only at h ⊢
  cases ht : p.ty[((bareK k - 2) / 2).toNat]? with
  | none =>
    rw [ht] at h
    simp [inB] at h
  | some l =>
    rw [ht] at h
    rw [X.ty _ _ ht]
    exact h
theorem puts_ext (X : Ext p q) (Y : ExF f g) (H : Hok p) (h : namesB p f i = true) {top low : Int} {l : List Int} (hp : putsP p f i top low = .ok l) : putsP q g i top low = .ok l := by
  unfold putsP at hp ⊢
  by_cases h1 : i.o = 1 ∨ i.o = 7 ∨ i.o = 8 ∨ i.o = 18 ∨ i.o = 20
  · rw [if_pos h1] at hp ⊢; exact hp
  rw [if_neg h1] at hp ⊢
  by_cases h2 : i.o = 2
  · rw [if_pos h2] at hp ⊢; exact hp
  rw [if_neg h2] at hp ⊢
  by_cases h3 : i.o = 3
  · rw [if_pos h3] at hp ⊢
    rw [get_ext Y.lo (nm_lo h (.inl h3))]
    exact hp
  rw [if_neg h3] at hp ⊢
  by_cases h4 : i.o = 6
  · rw [if_pos h4] at hp ⊢; exact hp
  rw [if_neg h4] at hp ⊢
  by_cases h5 : i.o = 11 ∨ i.o = 21
  · rw [if_pos h5] at hp ⊢; exact hp
  rw [if_neg h5] at hp ⊢
  by_cases h6 : i.o = 12
  · rw [if_pos h6] at hp ⊢; exact hp
  rw [if_neg h6] at hp ⊢
  by_cases h7 : i.o = 13
  · rw [if_pos h7] at hp ⊢
    rw [get_ext Y.ar (nm_ar h h7)]
    exact hp
  rw [if_neg h7] at hp ⊢
  by_cases h8 : i.o = 14
  · rw [if_pos h8] at hp ⊢
    cases hf : fieldP p low i.a with
    | none => rw [hf] at hp; cases hp
    | some k => rw [hf] at hp; rw [field_ext X hf]; exact hp
  rw [if_neg h8] at hp ⊢
  by_cases h9 : i.o = 15
  · rw [if_pos h9] at hp ⊢
    cases hf : fieldP p low i.a with
    | none => rw [hf] at hp; cases hp
    | some k => rw [hf] at hp; rw [field_ext X hf]; exact hp
  rw [if_neg h9] at hp ⊢
  by_cases h10 : i.o = 16
  · rw [if_pos h10] at hp ⊢
    cases hf : fieldP p low i.a with
    | none => rw [hf] at hp; cases hp
    | some k =>
      rw [hf] at hp
      rw [field_ext X hf]
      dsimp only at hp ⊢
      split at hp
      · rename_i ho
        rw [if_pos (only_ext X ho)]
        exact hp
      · cases hp
  rw [if_neg h10] at hp ⊢
  by_cases h11 : i.o = 17
  · rw [if_pos h11] at hp ⊢; exact hp
  rw [if_neg h11] at hp ⊢
  by_cases h12 : i.o = 19
  · rw [if_pos h12] at hp ⊢; exact hp
  rw [if_neg h12] at hp ⊢
  by_cases h13 : i.o = 22
  · rw [if_pos h13] at hp ⊢
    rw [(call_ext X (nm_22 h h13)).2]
    exact hp
  rw [if_neg h13] at hp ⊢
  by_cases h14 : i.o = 23
  · rw [if_pos h14] at hp ⊢
    rw [(item_ext X H (nm_23 h h14)).2]
    exact hp
  rw [if_neg h14] at hp ⊢
  exact hp
theorem look_ext (X : Ext p q) (Y : ExF f g) (H : Hok p) {x : Nat} {s : List Int} {r : List Int × List Int} (h : lookP p f x i s = .ok r) : lookP q g x i s = .ok r := by
  unfold lookP at h ⊢
  dsimp only at h ⊢
  split at h
  · cases h
  · rename_i h1
    rw [Bool.not_eq_false] at h1
    rw [takes_ext X Y H h1, if_neg (by rw [names_ext X Y h1]; simp)]
    split at h
    · cases h
    · rename_i h2
      rw [if_neg h2]
      split at h
      · cases h
      · rename_i h3
        rw [if_neg h3]
        split at h
        · cases h
        · rename_i l h4
          rw [puts_ext X Y H h1 h4]
          dsimp only
          split at h
          · rename_i h5
            rw [if_pos (List.all_eq_true.mpr fun y hy => in_mono (List.all_eq_true.mp h5 y hy) Y.cl)]
            exact h
          · cases h
/-- As before, with room behind it. -/
structure Pad (m : Nat) (F G : Fl) : Prop where
  ah : G.ah = F.ah ++ List.replicate m none
  wt : G.wt = F.wt ++ List.replicate m false
  mo : G.mo = F.mo
theorem least_pad : ∀ (l : List Bool) (m : Nat), leastP (l ++ List.replicate m false) = leastP l
  | [], m => by
    rw [List.nil_append]
    refine least_none fun k => ?_
    rw [List.getElem?_replicate]
    split <;> rfl
  | true :: r, m => rfl
  | false :: r, m => by
    rw [List.cons_append]
    unfold leastP
    rw [least_pad r m]
theorem come_pad {m x : Nat} {s : List Int} {F F' G : Fl} (hP : Pad m F F') (hx : x < F.ah.length) (hw : x < F.wt.length) (h : comeP F x s = .ok G) : ∃ G', comeP F' x s = .ok G' ∧ Pad m G G' := by
  unfold comeP at h ⊢
  rw [hP.ah, List.getElem?_append_left hx]
  split at h
  · cases h
    refine ⟨_, rfl, ?_, ?_, hP.mo⟩
    · dsimp only
      rw [List.set_append_left _ _ hx]
    · dsimp only
      rw [hP.wt, List.set_append_left _ _ hw]
  · split at h
    · rename_i ht
      cases h
      rw [if_pos ht]
      exact ⟨F', rfl, hP⟩
    · cases h
theorem comes_pad {m k : Nat} {s : List Int} : ∀ {l : List Int} {F F' G : Fl}, Pad m F F' → FInv p f k F → (∀ y ∈ l, inB y f.co.length = true) → (∀ k ∈ s, isKB p.ty.length k = true) → s.length ≤ 4096 * k → comesP s l F = .ok G → ∃ G', comesP s l F' = .ok G' ∧ Pad m G G'
  | [], F, F', G, hP, _, _, _, _, h => by cases h; exact ⟨F', rfl, hP⟩
  | y :: r, F, F', G, hP, I, hy, hk, hl, h => by
    unfold comesP at h ⊢
    obtain ⟨n, rfl, hn⟩ := in_nat (hy y (by simp))
    rw [Int.toNat_natCast] at h ⊢
    cases hc : comeP F n s with
    | error e => rw [hc] at h; cases h
    | ok G1 =>
      rw [hc] at h
      obtain ⟨G2, c1, c2⟩ := come_pad hP (by rw [I.la]; exact hn) (by rw [I.lw]; exact hn) hc
      rw [c1]
      exact comes_pad c2 (come_inv hc I hn hk hl).1 (fun z hz => hy z (by simp [hz])) hk hl h
theorem run_pad {m : Nat} (X : Ext p q) (Y : ExF f g) (H : Hok p) (hf : FdOk p f) : ∀ {n k n' : Nat} {F F' G : Fl}, n ≤ n' → FInv p f k F → Pad m F F' → MM F < n → runP p f n F = .ok G → ∃ G', runP q g n' F' = .ok G' ∧ Pad m G G'
  | 0, k, n', F, F', G, _, _, _, hm, _ => by omega
  | n + 1, k, n', F, F', G, hn, I, hP, hm, h => by
    obtain ⟨n2, rfl⟩ : ∃ n2, n' = n2 + 1 := ⟨n' - 1, by omega⟩
    have hl : leastP F'.wt = leastP F.wt := by rw [hP.wt]; exact least_pad _ _
    cases hw : leastP F.wt with
    | none =>
      rw [run_none hw] at h
      cases h
      exact ⟨F', run_none (hl.trans hw), hP⟩
    | some x =>
      rw [run_some hw] at h
      rw [run_some (hl.trans hw)]
      cases hs : stepP p f x F with
      | error e => rw [hs] at h; cases h
      | ok G1 =>
        rw [hs] at h
        have hw2 := least_inv hw
        have hxw : x < F.wt.length := by
          rcases Nat.lt_or_ge x F.wt.length with h1 | h1
          · exact h1
          · rw [List.getElem?_eq_none h1] at hw2; cases hw2
        obtain ⟨t, ht⟩ := I.wa x hw2
        obtain ⟨t1, t2⟩ := I.st x t ht
        have hxa := get_lt ht
        obtain ⟨i, hi⟩ : ∃ i, f.co[x]? = some i := ⟨f.co[x]'(by rw [← I.lw]; exact hxw), by simp⟩
        obtain ⟨J, mj⟩ := step_inv H hf I hw hs
        have hst : ∃ G2, stepP q g x F' = .ok G2 ∧ Pad m G1 G2 := by
          unfold stepP at hs ⊢
          rw [hP.ah, List.getElem?_append_left hxa, ht, Option.getD_some, Option.getD_some, Y.co x i hi, Option.getD_some]
          rw [ht, Option.getD_some, Option.getD_some, hi, Option.getD_some] at hs
          cases hlk : lookP p f x i t with
          | error e => rw [hlk] at hs; cases hs
          | ok bn =>
            obtain ⟨b, ns⟩ := bn
            rw [hlk] at hs
            rw [look_ext X Y H hlk]
            dsimp only at hs ⊢
            obtain ⟨l1, l2, l3⟩ := look_kb H hf t1 hlk
            refine comes_pad (k := k + 1) (F := { F with wt := F.wt.set x false, mo := max F.mo b.length }) ⟨rfl, ?_, ?_⟩ ?_ l3 l1 (by omega) hs
            · dsimp only
              rw [hP.wt, List.set_append_left _ _ hxw]
            · dsimp only
              rw [hP.mo]
            · refine ⟨I.la, by simp [I.lw], fun y t ht => ?_, ?_, fun y hy => ?_⟩
              · obtain ⟨u1, u2⟩ := I.st y t ht
                exact ⟨u1, by omega⟩
              · dsimp only
                have := I.mo
                omega
              · dsimp only at hy ⊢
                by_cases hxy : x = y
                · subst hxy
                  rw [List.getElem?_set_self hxw] at hy
                  cases hy
                · rw [List.getElem?_set_ne hxy] at hy
                  exact I.wa y hy
        obtain ⟨G2, g1, g2⟩ := hst
        rw [g1]
        exact run_pad X Y H hf (by omega) J g2 (by omega) h
/-- The way through a function, in a program that has more. -/
theorem follow_ext (X : Ext p q) (Y : ExF f g) (H : Hok p) (hf : FdOk p f) {F : Fl} (h : followP p f = .ok F) : ∃ G, followP q g = .ok G ∧ Pad (g.co.length - f.co.length) F G := by
  obtain ⟨I, hm⟩ := fl0_inv (p := p) hf.co
  have hP : Pad (g.co.length - f.co.length) (fl0 f.co.length) (fl0 g.co.length) := by
    have hg : g.co.length = f.co.length + (g.co.length - f.co.length) := by have := Y.cl; omega
    generalize g.co.length - f.co.length = d at hg
    rw [hg]
    unfold fl0
    refine ⟨?_, ?_, rfl⟩
    · dsimp only
      rw [← List.replicate_append_replicate, List.set_append_left _ _ (by simpa using hf.co)]
    · dsimp only
      rw [← List.replicate_append_replicate, List.set_append_left _ _ (by simpa using hf.co)]
  exact run_pad X Y H hf (by have := Y.cl; omega) I hP (by rw [hm]; omega) h
end
end Go.Proofs.YtaeheikhpepipaaDoor
