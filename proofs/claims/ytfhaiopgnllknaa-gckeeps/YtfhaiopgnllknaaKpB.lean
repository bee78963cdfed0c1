/- GcKeeps, plain: what the collections leave. -/
import Derived.Test.YtfhaiopgnllknaaKpA
namespace Go.Proofs.Ytfhaiopgnllknaa
open Go.RowKit Go.Maps

theorem sorted_ext : ∀ {l r : List Nat}, l.Pairwise (· < ·) → r.Pairwise (· < ·) → (∀ a, a ∈ l ↔ a ∈ r) → l = r
  | [], [], _, _, _ => rfl
  | [], b :: r, _, _, h => absurd ((h b).2 (by simp)) (by simp)
  | a :: l, [], _, _, h => absurd ((h a).1 (by simp)) (by simp)
  | a :: l, b :: r, h1, h2, h => by
    obtain ⟨a1, a2⟩ := List.pairwise_cons.1 h1
    obtain ⟨b1, b2⟩ := List.pairwise_cons.1 h2
    have hab : a = b := by
      rcases List.mem_cons.1 ((h a).1 (by simp)) with e | e
      · exact e
      · rcases List.mem_cons.1 ((h b).2 (by simp)) with e2 | e2
        · exact e2.symm
        · have := a1 b e2; have := b1 a e; omega
    subst hab
    have : l = r := sorted_ext a2 b2 fun c => by
      constructor
      · intro hc
        rcases List.mem_cons.1 ((h c).1 (by simp [hc])) with e | e
        · have := a1 c hc; omega
        · exact e
      · intro hc
        rcases List.mem_cons.1 ((h c).2 (by simp [hc])) with e | e
        · have := b1 c hc; omega
        · exact e
    rw [this]
theorem range_sorted (m : Nat) : (List.range m).Pairwise (· < ·) := List.pairwise_lt_range
/-- The objects' first words, by a test. -/
def sel (F : Nat → Bool) : List Nat := ((List.range 20).filter F).map fun i => 6 * i + 1
theorem sel_sorted (F : Nat → Bool) : (sel F).Pairwise (· < ·) := by
  unfold sel
  rw [List.pairwise_map]
  exact ((range_sorted 20).filter _).imp (fun {a b} h => by omega)
theorem mem_sel {F : Nat → Bool} {a : Nat} : a ∈ sel F ↔ ∃ i, i < 20 ∧ F i = true ∧ a = 6 * i + 1 := by
  unfold sel
  simp only [List.mem_map, List.mem_filter, List.mem_range]
  constructor
  · rintro ⟨i, ⟨h1, h2⟩, rfl⟩; exact ⟨i, h1, h2, rfl⟩
  · rintro ⟨i, h1, h2, rfl⟩; exact ⟨i, ⟨h1, h2⟩, rfl⟩
theorem sel_len (F : Nat → Bool) : (sel F).length = (List.range 20).countP F := by
  unfold sel
  rw [List.length_map, List.countP_eq_length_filter]
theorem count_range : ∀ F : List Bool, F.count true = (List.range F.length).countP fun i => F.getD i false
  | [] => rfl
  | b :: F => by
    rw [List.length_cons, List.range_succ_eq_map, List.countP_cons, List.countP_map, List.count_cons, count_range F]
    congr 1
    cases b <;> rfl
theorem count_sel {F : List Bool} (hl : F.length = 20) : F.count true = (List.range 20).countP fun i => F.getD i false := by rw [← hl]; exact count_range F
section
variable {h : Hs} {wl : List Int}
/-- What is left of a heap by a test that is closed. -/
structure Lft (h h1 : Hs) (F : Nat → Bool) : Prop where
  inv : HInv h1
  ob : ∀ b, h1.ob b = if F b = true then h.ob b else none
  ty : h1.ty = h.ty
  ws : h1.s.ws = h.s.ws
theorem lft_gone (I : HInv h) (F : Nat → Bool) : Lft h (freeAll h (gone h F)) F := by
  obtain ⟨h1, h2, h3, h4⟩ := gone_inv I F
  exact ⟨h1, h2, h3, h4⟩
theorem Lft.base {h1 : Hs} {F : Nat → Bool} (L : Lft h h1 F) (I : HInv h) (x : Int) (a : Nat) : baseA h1 x = some a ↔ baseA h x = some a ∧ F a = true := by
  constructor
  · intro hb
    obtain ⟨t, n, f, i, p, O, _, e1, e2⟩ := L.inv.base hb
    have ho := O.ob
    rw [L.ob] at ho
    split at ho
    · rename_i hF
      obtain ⟨f', i', p', O'⟩ := I.obj ho
      have hf := O.ty
      rw [L.ty, O'.ty] at hf
      cases hf
      exact ⟨O'.base I e1 (by have := O.pn; have := O'.pn; omega), hF⟩
    · cases ho
  · rintro ⟨hb, hF⟩
    obtain ⟨t, n, f, i, p, O, _, e1, e2⟩ := I.base hb
    have ho := L.ob a
    rw [if_pos hF, O.ob] at ho
    obtain ⟨f', i', p', O'⟩ := L.inv.obj ho
    have hf := O'.ty
    rw [L.ty, O.ty] at hf
    cases hf
    exact O'.base L.inv e1 (by have := O.pn; have := O'.pn; omega)
theorem Lft.wd {h1 : Hs} {F : Nat → Bool} (L : Lft h h1 F) (x : Nat) : wd h1.s x = wd h.s x := by unfold Go.Proofs.Ytfhaiopgnllknaa.wd; rw [L.ws]
theorem Lft.reach {h1 : Hs} {F : Nat → Bool} (L : Lft h h1 F) (I : HInv h) {rs : List Int} (hF : ∀ a, F a = true ↔ Reach h rs a) (a : Nat) : Reach h1 rs a ↔ F a = true := by
  rw [hF]
  constructor
  · intro hr
    induction hr with
    | root hx hb => exact .root hx ((L.base I _ _).1 hb).1
    | @step a t n i b f _ ho hf hp hb ih =>
      rw [L.ob, if_pos ((hF a).2 ih)] at ho
      rw [L.ty] at hf
      rw [L.wd] at hb
      exact .step ih ho hf hp ((L.base I _ _).1 hb).1
  · intro hr
    induction hr with
    | root hx hb => exact .root hx ((L.base I _ _).2 ⟨hb, (hF _).2 (.root hx hb)⟩)
    | @step a t n i b f hr ho hf hp hb ih =>
      refine .step ih (by rw [L.ob, if_pos ((hF a).2 hr)]; exact ho) (by rw [L.ty]; exact hf) hp ?_
      rw [L.wd]
      exact (L.base I _ _).2 ⟨hb, (hF _).2 (.step hr ho hf hp hb)⟩
theorem Lft.names {h1 : Hs} {F : Nat → Bool} (L : Lft h h1 F) (I : HInv h) {rs : List Int} (hF : ∀ a, F a = true ↔ Reach h rs a) {x : Int} (hx : x ∈ rs) (hn : namesB h x = true) : namesB h1 x = true := by
  rcases names_iff.1 hn with e | ⟨a, ha⟩
  · exact names_iff.2 (.inl e)
  · exact names_iff.2 (.inr ⟨a, (L.base I _ _).2 ⟨ha, (hF a).2 (.root hx ha)⟩⟩)
/-- A second collection right behind frees nothing. -/
theorem Lft.again {h1 : Hs} {F G : Nat → Bool} (L : Lft h h1 F) (I : HInv h) {rs : List Int} (hF : ∀ a, F a = true ↔ Reach h rs a) (hG : ∀ a, G a = true ↔ Reach h1 rs a) : gone h1 G = [] := by
  unfold gone
  rw [List.filter_eq_nil_iff]
  intro a ha
  obtain ⟨o, ho⟩ := (live_iff L.inv a).1 ha
  rw [L.ob] at ho
  split at ho
  · rename_i hFa
    rw [(hG a).2 ((L.reach I hF a).2 hFa)]; simp
  · cases ho

/-- Of the twenty, those that the roots come to. -/
structure Fin20 (h : Hs) (wl : List Int) (l : List Int) (rs : List Nat) (S : List Bool) : Prop where
  K : Ks h 20 20 wl
  W : Wl wl
  R : Rts l rs
  D : LInv wl rs [] S
section
variable {l : List Int} {rs : List Nat} {S : List Bool} {F : Nat → Bool}
theorem Fin20.names (X : Fin20 h wl l rs S) {x : Int} (hx : x ∈ l) : namesB h x = true := by
  rcases X.R.fwd x hx with e | ⟨i, k, h1, h2, rfl⟩
  · exact names_iff.2 (.inl e)
  · exact names_iff.2 (.inr ⟨_, X.K.base (X.R.lt i h1) h2⟩)
theorem Fin20.found (X : Fin20 h wl l rs S) (hF : ∀ a, F a = true ↔ Reach h l a) {i : Nat} (hi : i < 20) : F (6 * i + 1) = S.getD i false := by
  rw [Bool.eq_iff_iff, hF, X.K.reach X.W X.R, X.D.done]
  constructor
  · rintro ⟨j, _, h2, h3⟩
    obtain rfl : i = j := by omega
    exact h3
  · intro h3; exact ⟨i, hi, rfl, h3⟩
theorem Fin20.live (X : Fin20 h wl l rs S) : liveL h.s.ps = sel fun _ => true := by
  refine sorted_ext (live_row X.K.inv.inv.row).1 (sel_sorted _) fun a => ?_
  rw [live_iff X.K.inv, mem_sel]
  constructor
  · intro ho
    obtain ⟨i, h1, h2⟩ := X.K.obn a ho
    exact ⟨i, h1, rfl, h2⟩
  · rintro ⟨i, h1, _, rfl⟩; exact ⟨_, X.K.ob i h1⟩
theorem Fin20.goneN (X : Fin20 h wl l rs S) (hF : ∀ a, F a = true ↔ Reach h l a) : (gone h F).length + S.count true = 20 := by
  have e : gone h F = sel fun i => !S.getD i false := by
    refine sorted_ext ?_ (sel_sorted _) fun a => ?_
    · exact (live_row X.K.inv.inv.row).1.filter _
    · unfold gone
      rw [List.mem_filter, X.live, mem_sel, mem_sel]
      constructor
      · rintro ⟨⟨i, h1, _, rfl⟩, h2⟩
        rw [X.found hF h1] at h2
        exact ⟨i, h1, h2, rfl⟩
      · rintro ⟨i, h1, h2, rfl⟩
        exact ⟨⟨i, h1, rfl, rfl⟩, by rw [X.found hF h1]; exact h2⟩
  rw [e, sel_len, count_sel X.D.len]
  have := List.length_eq_countP_add_countP (fun i => S.getD i false) (l := List.range 20)
  simp only [List.length_range] at this
  have e2 : (List.range 20).countP (fun i => !S.getD i false) = (List.range 20).countP fun i => decide ¬ S.getD i false = true := by
    congr 1; funext i; cases S.getD i false <;> rfl
  omega
theorem Fin20.live1 (X : Fin20 h wl l rs S) (hF : ∀ a, F a = true ↔ Reach h l a) {h1 : Hs} (L : Lft h h1 F) : (liveL h1.s.ps).length = S.count true := by
  have e : liveL h1.s.ps = sel fun i => S.getD i false := by
    refine sorted_ext (live_row L.inv.inv.row).1 (sel_sorted _) fun a => ?_
    rw [live_iff L.inv, mem_sel, L.ob]
    constructor
    · rintro ⟨o, ho⟩
      split at ho
      · rename_i hFa
        obtain ⟨i, h1, rfl⟩ := X.K.obn a ⟨o, ho⟩
        rw [X.found hF h1] at hFa
        exact ⟨i, h1, hFa, rfl⟩
      · cases ho
    · rintro ⟨i, h1, h2, rfl⟩
      rw [X.found hF h1, if_pos h2]
      exact ⟨_, X.K.ob i h1⟩
  rw [e, sel_len, count_sel X.D.len]
/-- What Get answers behind it. -/
theorem Fin20.get (X : Fin20 h wl l rs S) (hF : ∀ a, F a = true ↔ Reach h l a) {h1 : Hs} (L : Lft h h1 F) {i k : Nat} (hi : i < 20) (hk : k < 6) :
    getHP h1 ((6 * i + k + 1 : Nat) : Int) = if S.getD i false = true then (if k = 0 then (i : Int) else wl.getD (6 * i + k) 0, 0) else (0, 6) := by
  have hb := X.K.base hi hk
  unfold getHP
  by_cases hS : S.getD i false = true
  · rw [(L.base X.K.inv _ (6 * i + 1)).2 ⟨hb, by rw [X.found hF hi]; exact hS⟩, if_pos hS]
    simp only [Int.toNat_natCast]
    rw [L.wd, X.K.wd]
    unfold Wf
    by_cases h0 : k = 0
    · subst h0; rw [if_pos (by omega), if_pos (by omega), if_pos rfl]; congr 2; omega
    · rw [if_neg (by omega), if_neg h0]
  · rw [if_neg hS]
    cases hb1 : baseA h1 ((6 * i + k + 1 : Nat) : Int) with
    | none => rfl
    | some a =>
      exfalso
      obtain ⟨e1, e2⟩ := (L.base X.K.inv _ _).1 hb1
      rw [hb] at e1; cases e1
      rw [X.found hF hi] at e2
      exact hS e2
end
end
end Go.Proofs.Ytfhaiopgnllknaa
