/- GcKeeps, plain: twenty objects, what they link to, what the roots come to. -/
import Derived.Test.YtfhaiopgnllknaaHpQ
namespace Go.Proofs.Ytfhaiopgnllknaa
open Go.RowKit Go.Maps

/-- The words of the twenty objects: c of them have their number; wl: what was linked. -/
def Wf (c : Nat) (wl : List Int) (q : Nat) : Int := if q % 6 = 0 then (if q < 6 * c then ((q / 6 : Nat) : Int) else 0) else wl.getD q 0
/-- What was linked are addresses of words of the twenty. -/
structure Wl (wl : List Int) : Prop where
  len : wl.length = 120
  word : ∀ q, wl.getD q 0 = 0 ∨ (1 ≤ wl.getD q 0 ∧ wl.getD q 0 ≤ 120)
  num : ∀ q, q % 3 = 0 → wl.getD q 0 = 0
/-- The heap with m of the objects. -/
structure Ks (h : Hs) (m c : Nat) (wl : List Int) : Prop where
  inv : HInv h
  ty : h.ty = [[false, true, true]]
  ob : ∀ i, i < m → h.ob (6 * i + 1) = some (0, 2)
  obn : ∀ a, (∃ o, h.ob a = some o) → ∃ i, i < m ∧ a = 6 * i + 1
  gv : h.s.gv = 6 * m
  bk : ∀ c, h.s.bk c = []
  len : h.s.ws.length = 3000
  wd : ∀ q, wd h.s (q + 1) = Wf c wl q
def wl0 : List Int := List.replicate 120 0
def s0 : List Bool := List.replicate 20 false
theorem wl0_get (q : Nat) : wl0.getD q 0 = 0 := by
  unfold wl0
  rw [List.getD_eq_getElem?_getD, List.getElem?_replicate]
  split <;> rfl
theorem wl0_ok : Wl wl0 := ⟨by simp [wl0], fun q => .inl (wl0_get q), fun q _ => wl0_get q⟩
theorem ks_new : Ks (newH [[0, 2, 2]] 3000) 0 0 wl0 := by
  refine ⟨newH_inv (by decide) (by decide), rfl, fun i hi => absurd hi (Nat.not_lt_zero _), fun a ⟨o, ho⟩ => (by cases ho), rfl, fun _ => rfl, List.length_replicate .., fun q => ?_⟩
  unfold Wf Go.Proofs.Ytfhaiopgnllknaa.wd
  rw [wl0_get]
  simp only [newH, newS, Nat.add_sub_cancel, List.getElem?_replicate]
  split <;> split <;> (try split) <;> simp_all
section
variable {h : Hs} {m c : Nat} {wl : List Int}
theorem Ks.ow (_ : Ks h m c wl) : owords [false, true, true] 2 = 6 := by decide
/-- One more is made. -/
theorem Ks.make (K : Ks h m c wl) (hm : m < 20) (hz : ∀ q, 6 * m ≤ q → q < 6 * m + 6 → Wf c wl q = 0) : ∃ s', allocS h.s (owords [false, true, true] 2) = some (6 * m + 1, s') ∧ Ks (makeH h 0 2 (6 * m + 1) s') (m + 1) c wl := by
  have ha : allocS h.s 6 = some (6 * m + 1, markS (pushS h.s 6) (6 * m + 1) 6) := by
    unfold allocS
    rw [cls6, K.bk]
    simp only [List.getLast?_nil]
    rw [if_pos (by rw [K.len, K.gv]; omega), K.gv]
  have hf : h.ty[0]? = some [false, true, true] := by rw [K.ty]; rfl
  have G := alloc_given K.inv.inv (by decide) (by decide) ha
  refine ⟨_, ha, K.inv.make hf (by decide) (by decide) ha, K.ty, fun i hi => ?_, fun a ⟨o, ho⟩ => ?_, ?_, K.bk, ?_, fun q => ?_⟩
  · show upd h.ob (6 * m + 1) (some (0, 2)) (6 * i + 1) = _
    by_cases e : i = m
    · subst e; exact upd_same _ _ _
    · rw [upd_other _ _ (by omega)]; exact K.ob i (by omega)
  · have ho' : upd h.ob (6 * m + 1) (some (0, 2)) a = some o := ho
    by_cases e : a = 6 * m + 1
    · exact ⟨m, by omega, e⟩
    · rw [upd_other _ _ e] at ho'
      obtain ⟨i, h1, h2⟩ := K.obn a ⟨o, ho'⟩
      exact ⟨i, by omega, h2⟩
  · show h.s.gv + 6 = _
    rw [K.gv]; omega
  · exact G.len.trans K.len
  · rw [← K.wd q]
    show (clr h.s.ws (6 * m + 1 - 1) 6)[q + 1 - 1]?.getD 0 = h.s.ws[q + 1 - 1]?.getD 0
    rw [clr_get (by rw [K.len]; omega)]
    split
    · have := K.wd q
      unfold Go.Proofs.Ytfhaiopgnllknaa.wd at this
      rw [this, hz q (by omega) (by omega)]; rfl
    · rfl
theorem Ks.obj1 (K : Ks h m c wl) {i : Nat} (hi : i < m) : ∃ j p, Obj1 h (6 * i + 1) 0 2 [false, true, true] j p ∧ p.n = 6 := by
  obtain ⟨f, j, p, O⟩ := K.inv.obj (K.ob i hi)
  have hf := O.ty
  rw [K.ty] at hf
  cases hf
  exact ⟨j, p, O, O.pn⟩
theorem Ks.base (K : Ks h m c wl) {i k : Nat} (hi : i < m) (hk : k < 6) : baseA h ((6 * i + k + 1 : Nat) : Int) = some (6 * i + 1) := by
  obtain ⟨j, p, O, hp⟩ := K.obj1 hi
  exact O.base K.inv (by omega) (by omega)
theorem Ks.set_wd (K : Ks h m c wl) (x : Nat) (v : Int) (hx : x < 3000) (q : Nat) : Go.Proofs.Ytfhaiopgnllknaa.wd (setH h (x + 1) v).s (q + 1) = if q = x then v else Wf c wl q := by
  show (h.s.ws.set (x + 1 - 1) v)[q + 1 - 1]?.getD 0 = _
  rw [Nat.add_sub_cancel, Nat.add_sub_cancel, List.getElem?_set]
  by_cases e : q = x
  · subst e; rw [if_pos rfl, if_pos rfl, if_pos (by rw [K.len]; exact hx)]; rfl
  · rw [if_neg (fun e2 => e e2.symm), if_neg e]; exact K.wd q
/-- An object's number is set. -/
theorem Ks.number (K : Ks h (m + 1) m wl) (hm : m < 20) : setHP h ((6 * m + 1 : Nat) : Int) m = (0, setH h (6 * m + 1) m) ∧ Ks (setH h (6 * m + 1) m) (m + 1) (m + 1) wl := by
  have hb := K.base (i := m) (k := 0) (by omega) (by omega)
  rw [Nat.add_zero] at hb
  refine ⟨?_, K.inv.set _ (by omega), K.ty, K.ob, K.obn, K.gv, K.bk, ?_, fun q => ?_⟩
  · rw [setHP_some (i := 0) hb (K.ob m (by omega)) (by rw [K.ty]; rfl) (by omega), if_neg (by simp [ptrB]), Int.toNat_natCast]
  · show (h.s.ws.set _ _).length = _
    rw [List.length_set]; exact K.len
  · rw [K.set_wd (6 * m) m (by omega) q]
    unfold Wf
    by_cases e : q = 6 * m
    · subst e
      rw [if_pos rfl, if_pos (by omega), if_pos (by omega)]
      congr 1; omega
    · rw [if_neg e]
      split
      · by_cases h2 : q < 6 * m
        · rw [if_pos h2, if_pos (by omega)]
        · rw [if_neg h2, if_neg (by omega)]
      · rfl
theorem getD_set {l : List Int} {i : Nat} {v : Int} (hi : i < l.length) (q : Nat) : (l.set i v).getD q 0 = if q = i then v else l.getD q 0 := by
  rw [List.getD_eq_getElem?_getD, List.getElem?_set]
  by_cases e : q = i
  · subst e; rw [if_pos rfl, if_pos hi, if_pos rfl]; rfl
  · rw [if_neg (fun e2 => e e2.symm), if_neg e, List.getD_eq_getElem?_getD]
/-- A link is set. -/
theorem Ks.link (K : Ks h 20 20 wl) (L : Wl wl) {i f p : Nat} (hi : i < 20) (hf : f < 6) (h3 : f % 3 ≠ 0) (hp : p < 120) : setHP h ((6 * i + f + 1 : Nat) : Int) ((p + 1 : Nat) : Int) = (0, setH h (6 * i + f + 1) ((p + 1 : Nat) : Int)) ∧ Ks (setH h (6 * i + f + 1) ((p + 1 : Nat) : Int)) 20 20 (wl.set (6 * i + f) ((p + 1 : Nat) : Int)) ∧ Wl (wl.set (6 * i + f) ((p + 1 : Nat) : Int)) := by
  have hb := K.base (i := i) (k := f) hi hf
  have hn : namesB h ((p + 1 : Nat) : Int) = true := by
    have := K.base (i := p / 6) (k := p % 6) (by omega) (by omega)
    rw [show 6 * (p / 6) + p % 6 + 1 = p + 1 by omega] at this
    exact names_iff.2 (.inr ⟨_, this⟩)
  have hl := L.len
  refine ⟨?_, ⟨K.inv.set _ (by omega), K.ty, K.ob, K.obn, K.gv, K.bk, ?_, fun q => ?_⟩, ?_, fun q => ?_, fun q hq => ?_⟩
  · rw [setHP_some (i := f) hb (K.ob i hi) (by rw [K.ty]; rfl) (by omega), if_neg (by rw [hn]; simp), Int.toNat_natCast]
  · show (h.s.ws.set _ _).length = _
    rw [List.length_set]; exact K.len
  · rw [K.set_wd (6 * i + f) _ (by omega) q]
    unfold Wf
    rw [getD_set (by omega)]
    by_cases e : q = 6 * i + f
    · rw [if_pos e, if_neg (by omega), if_pos e]
    · rw [if_neg e, if_neg e]
  · rw [List.length_set]; exact L.len
  · rw [getD_set (by omega)]
    split
    · right; omega
    · exact L.word q
  · rw [getD_set (by omega), if_neg (by omega)]
    exact L.num q hq

/-- Whom an object's word links to. -/
def one (x : Int) : List Nat := if 1 ≤ x then [(x.toNat - 1) / 6] else []
/-- Whom an object's first k words link to. -/
def tl (wl : List Int) (i : Nat) : Nat → List Nat
  | 0 => []
  | k + 1 => tl wl i k ++ one (wl.getD (6 * i + k) 0)
theorem tl_len (wl : List Int) (i : Nat) : ∀ k, (tl wl i k).length ≤ k
  | 0 => Nat.le_refl _
  | k + 1 => by
    have := tl_len wl i k
    unfold tl one
    split <;> simp <;> omega
theorem mem_tl {wl : List Int} {i j : Nat} : ∀ {k : Nat}, j ∈ tl wl i k ↔ ∃ k', k' < k ∧ 1 ≤ wl.getD (6 * i + k') 0 ∧ ((wl.getD (6 * i + k') 0).toNat - 1) / 6 = j
  | 0 => by simp [tl]
  | k + 1 => by
    unfold tl
    rw [List.mem_append, mem_tl (k := k)]
    constructor
    · rintro (⟨k', h1, h2⟩ | hj)
      · exact ⟨k', by omega, h2⟩
      · unfold one at hj
        split at hj
        · rename_i h1
          rw [List.mem_singleton] at hj
          exact ⟨k, by omega, h1, hj.symm⟩
        · cases hj
    · rintro ⟨k', h1, h2, h3⟩
      rcases Nat.lt_or_ge k' k with h4 | h4
      · exact .inl ⟨k', h4, h2, h3⟩
      · obtain rfl : k' = k := by omega
        right
        unfold one
        rw [if_pos h2, List.mem_singleton]; exact h3.symm
theorem Wl.tl_lt (L : Wl wl) {i j k : Nat} (hj : j ∈ tl wl i k) : j < 20 := by
  obtain ⟨k', _, h2, h3⟩ := mem_tl.1 hj
  have := L.word (6 * i + k')
  omega
/-- What the roots come to, by the links. -/
inductive LR (wl : List Int) (rs : List Nat) : Nat → Prop
  | root {i : Nat} : i ∈ rs → LR wl rs i
  | step {i j : Nat} : LR wl rs i → j ∈ tl wl i 6 → LR wl rs j
/-- What holds while they are looked for. -/
structure LInv (wl : List Int) (rs wk : List Nat) (F : List Bool) : Prop where
  len : F.length = 20
  lt : ∀ i ∈ wk, i < 20
  found : ∀ i, F.getD i false = true → LR wl rs i
  wait : ∀ i ∈ wk, LR wl rs i
  root : ∀ i ∈ rs, F.getD i false = true ∨ i ∈ wk
  step : ∀ i j, F.getD i false = true → j ∈ tl wl i 6 → F.getD j false = true ∨ j ∈ wk
theorem getD_setB {l : List Bool} {i : Nat} (hi : i < l.length) (q : Nat) : (l.set i true).getD q false = if q = i then true else l.getD q false := by
  rw [List.getD_eq_getElem?_getD, List.getElem?_set]
  by_cases e : q = i
  · subst e; rw [if_pos rfl, if_pos hi, if_pos rfl]; rfl
  · rw [if_neg (fun e2 => e e2.symm), if_neg e, List.getD_eq_getElem?_getD]
theorem linv_new {rs : List Nat} (hr : ∀ i ∈ rs, i < 20) : LInv wl rs rs s0 := by
  show LInv wl rs rs (List.replicate 20 false)
  have h0 : ∀ i, (List.replicate 20 false).getD i false = false := fun i => by
    rw [List.getD_eq_getElem?_getD, List.getElem?_replicate]
    split <;> rfl
  exact ⟨by simp, hr, fun i hi => (by rw [h0] at hi; cases hi), fun i hi => .root hi, fun i hi => .inr hi, fun i j hi => (by rw [h0] at hi; cases hi)⟩
theorem LInv.skip {rs wk : List Nat} {F : List Bool} {i : Nat} (R : LInv wl rs (i :: wk) F) (hi : F.getD i false = true) : LInv wl rs wk F := by
  have g : ∀ j, (F.getD j false = true ∨ j ∈ i :: wk) → F.getD j false = true ∨ j ∈ wk := by
    rintro j (h1 | h1)
    · exact .inl h1
    · rcases List.mem_cons.1 h1 with rfl | h2
      · exact .inl hi
      · exact .inr h2
  exact ⟨R.len, fun j hj => R.lt j (by simp [hj]), R.found, fun j hj => R.wait j (by simp [hj]), fun j hj => g j (R.root j hj), fun a b h1 h2 => g b (R.step a b h1 h2)⟩
theorem LInv.take {rs wk : List Nat} {F : List Bool} {i : Nat} (R : LInv wl rs (i :: wk) F) (L : Wl wl) : LInv wl rs (wk ++ tl wl i 6) (F.set i true) := by
  have hi := R.lt i (by simp)
  have hl := R.len
  have hr := R.wait i (by simp)
  have gs := fun q => getD_setB (l := F) (i := i) (by omega) q
  have g : ∀ j, (F.getD j false = true ∨ j ∈ i :: wk) → (F.set i true).getD j false = true ∨ j ∈ wk ++ tl wl i 6 := by
    rintro j (h1 | h1)
    · left; rw [gs]; split
      · rfl
      · exact h1
    · rcases List.mem_cons.1 h1 with rfl | h2
      · left; rw [gs, if_pos rfl]
      · right; simp [h2]
  refine ⟨by simp [hl], fun j hj => ?_, fun j hj => ?_, fun j hj => ?_, fun j hj => g j (R.root j hj), fun a b h1 h2 => ?_⟩
  · rcases List.mem_append.1 hj with h1 | h1
    · exact R.lt j (by simp [h1])
    · exact L.tl_lt h1
  · rw [gs] at hj
    split at hj
    · rename_i e; rw [e]; exact hr
    · exact R.found j hj
  · rcases List.mem_append.1 hj with h1 | h1
    · exact R.wait j (by simp [h1])
    · exact .step hr h1
  · rw [gs] at h1
    split at h1
    · rename_i e; subst e; right; simp [h2]
    · exact g b (R.step a b h1 h2)
theorem LInv.done {rs : List Nat} {F : List Bool} (R : LInv wl rs [] F) (i : Nat) : F.getD i false = true ↔ LR wl rs i := by
  refine ⟨R.found i, fun hr => ?_⟩
  induction hr with
  | root hi => exact (R.root _ hi).resolve_right (by simp)
  | step _ hj ih => exact (R.step _ _ ih hj).resolve_right (by simp)
theorem LInv.lr_lt {rs : List Nat} {F : List Bool} (R : LInv wl rs [] F) {i : Nat} (hi : LR wl rs i) : i < 20 := by
  have := (R.done i).2 hi
  rcases Nat.lt_or_ge i 20 with h1 | h1
  · exact h1
  · rw [List.getD_eq_getElem?_getD, List.getElem?_eq_none (by rw [R.len]; exact h1)] at this; cases this

/-- The list of roots: a nil pointer, then words of the objects. -/
structure Rts (l : List Int) (rs : List Nat) : Prop where
  lt : ∀ i ∈ rs, i < 20
  fwd : ∀ x ∈ l, x = 0 ∨ ∃ i k, i ∈ rs ∧ k < 6 ∧ x = ((6 * i + k + 1 : Nat) : Int)
  bwd : ∀ i ∈ rs, ∃ k, k < 6 ∧ ((6 * i + k + 1 : Nat) : Int) ∈ l
theorem rts_new : Rts [0] [] := ⟨by simp, fun x hx => .inl (by simpa using hx), by simp⟩
theorem Rts.snoc {l : List Int} {rs : List Nat} (R : Rts l rs) {i k : Nat} (hi : i < 20) (hk : k < 6) : Rts (l ++ [((6 * i + k + 1 : Nat) : Int)]) (rs ++ [i]) := by
  refine ⟨fun j hj => ?_, fun x hx => ?_, fun j hj => ?_⟩
  · rcases List.mem_append.1 hj with h1 | h1
    · exact R.lt j h1
    · simp at h1; omega
  · rcases List.mem_append.1 hx with h1 | h1
    · rcases R.fwd x h1 with h2 | ⟨a, b, h3, h4⟩
      · exact .inl h2
      · exact .inr ⟨a, b, by simp [h3], h4⟩
    · rw [List.mem_singleton] at h1
      exact .inr ⟨i, k, by simp, hk, h1⟩
  · rcases List.mem_append.1 hj with h1 | h1
    · obtain ⟨b, h2, h3⟩ := R.bwd j h1
      exact ⟨b, h2, List.mem_append.2 (.inl h3)⟩
    · rw [List.mem_singleton] at h1; subst h1
      exact ⟨k, hk, List.mem_append.2 (.inr (by simp))⟩
theorem Ks.base_of (K : Ks h 20 c wl) {p : Nat} (hp : p < 120) : baseA h ((p + 1 : Nat) : Int) = some (6 * (p / 6) + 1) := by
  have := K.base (i := p / 6) (k := p % 6) (by omega) (by omega)
  rwa [show 6 * (p / 6) + p % 6 + 1 = p + 1 by omega] at this
theorem Ks.reach (K : Ks h 20 20 wl) (L : Wl wl) {l : List Int} {rs : List Nat} (R : Rts l rs) (a : Nat) : Reach h l a ↔ ∃ i, i < 20 ∧ a = 6 * i + 1 ∧ LR wl rs i := by
  constructor
  · intro hr
    induction hr with
    | root hx hb =>
      rcases R.fwd _ hx with rfl | ⟨i, k, h1, h2, rfl⟩
      · rw [K.inv.base0 (Int.le_refl _)] at hb; cases hb
      · rw [K.base (R.lt i h1) h2] at hb
        cases hb
        exact ⟨i, R.lt i h1, rfl, .root h1⟩
    | @step a t n k b f _ ho hf hp hb ih =>
      obtain ⟨i, hi, rfl, hl⟩ := ih
      rw [K.ob i hi] at ho; cases ho
      rw [K.ty] at hf; cases hf
      have hk := ptr_lt hp
      have hk6 : k < 6 := hk
      have hk3 : k % 3 ≠ 0 := fun e => by
        unfold ptrB at hp
        rw [Bool.and_eq_true] at hp
        have := hp.2
        rw [show ([false, true, true] : List Bool).length = 3 from rfl, e] at this
        cases this
      rw [show 6 * i + 1 + k = 6 * i + k + 1 by omega, K.wd] at hb
      unfold Wf at hb
      rw [if_neg (by omega)] at hb
      rcases L.word (6 * i + k) with h0 | ⟨h1, h2⟩
      · rw [h0, K.inv.base0 (Int.le_refl _)] at hb; cases hb
      · obtain ⟨p, hp'⟩ : ∃ p : Nat, wl.getD (6 * i + k) 0 = ((p + 1 : Nat) : Int) := ⟨(wl.getD (6 * i + k) 0).toNat - 1, by omega⟩
        have hp2 : p < 120 := by omega
        rw [hp', K.base_of hp2] at hb
        cases hb
        refine ⟨p / 6, by omega, rfl, .step hl (mem_tl.2 ⟨k, hk6, h1, ?_⟩)⟩
        rw [hp']; simp
  · rintro ⟨i, hi, rfl, hl⟩
    induction hl with
    | root h1 =>
      obtain ⟨k, h2, h3⟩ := R.bwd _ h1
      exact .root h3 (K.base hi h2)
    | @step i j _ hj ih =>
      obtain ⟨k, h1, h2, h3⟩ := mem_tl.1 hj
      have hi20 : i < 20 := by
        rcases Nat.lt_or_ge i 20 with h4 | h4
        · exact h4
        · have h5 : wl.getD (6 * i + k) 0 = 0 := by rw [List.getD_eq_getElem?_getD, List.getElem?_eq_none (by have := L.len; omega)]; rfl
          omega
      have hk3 : k % 3 ≠ 0 := fun e => by have := L.num (6 * i + k) (by omega); omega
      have hw := L.word (6 * i + k)
      obtain ⟨p, hp'⟩ : ∃ p : Nat, wl.getD (6 * i + k) 0 = ((p + 1 : Nat) : Int) := ⟨(wl.getD (6 * i + k) 0).toNat - 1, by omega⟩
      refine .step (i := k) (ih hi20) (K.ob i hi20) (by rw [K.ty]; rfl) ?_ (?_ : baseA h (Go.Proofs.Ytfhaiopgnllknaa.wd h.s (6 * i + 1 + k)) = some (6 * j + 1))
      · have hc : k = 1 ∨ k = 2 ∨ k = 4 ∨ k = 5 := by omega
        rcases hc with rfl | rfl | rfl | rfl <;> decide
      · rw [show 6 * i + 1 + k = 6 * i + k + 1 by omega, K.wd]
        unfold Wf
        rw [if_neg (by omega), hp', K.base_of (by omega)]
        congr 2
        rw [hp'] at h3; simp at h3; omega
end
end Go.Proofs.Ytfhaiopgnllknaa
