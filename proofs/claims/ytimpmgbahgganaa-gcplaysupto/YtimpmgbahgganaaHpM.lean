/- The heap as plain mathematics: objects in an arena, what a number points into, what is reached, what a collection leaves. -/
import Derived.Test.YtimpmgbahgganaaArJ
namespace Go.Proofs.Ytimpmgbahgganaa

/-- A heap: its arena, of each type which fields are pointers, and its objects: type and length by their first words. -/
structure Hs where
  s : As
  ty : List (List Bool)
  ob : Nat → Option (Nat × Nat)
/-- How many words an object has. -/
def owords (f : List Bool) (n : Nat) : Nat := max 1 (n * f.length)
theorem owords_pos (f : List Bool) (n : Nat) : 1 ≤ owords f n := Nat.le_max_left _ _
theorem owords_ge (f : List Bool) (n : Nat) : n * f.length ≤ owords f n := Nat.le_max_right _ _
/-- What holds of every heap. -/
structure HInv (h : Hs) : Prop where
  inv : Inv h.s
  tl : h.ty.length ≤ 1025
  fl : ∀ (t : Nat) (f : List Bool), h.ty[t]? = some f → f.length ≤ 4096
  dom : ∀ (a t n : Nat), h.ob a = some (t, n) → ∃ (i : Nat) (p : Pc) (f : List Bool), h.s.ps[i]? = some p ∧ p.a = a ∧ h.ty[t]? = some f ∧ n ≤ 1024 ∧ p.n = owords f n
  all : ∀ (i : Nat) (p : Pc), h.s.ps[i]? = some p → 0 < p.n → ∃ o, h.ob p.a = some o
  wb : ∀ v ∈ h.s.ws, v ≤ 9223372036854775807
/-- The first word of the object that a number points into. -/
def baseA (h : Hs) (x : Int) : Option Nat := (hold h.s.ps x).bind fun i => (h.s.ps[i]?).map (·.a)
/-- A word of the arena. -/
def wd (s : As) (x : Nat) : Int := s.ws[x - 1]?.getD 0
/-- Is word i of n elements of a type a pointer? -/
def ptrB (f : List Bool) (n i : Nat) : Bool := decide (i < n * f.length) && f.getD (i % f.length) false
/-- What a pointer may be. -/
def namesB (h : Hs) (x : Int) : Bool := decide (x = 0) || (baseA h x).isSome
/-- An object, where it lies. -/
structure Obj1 (h : Hs) (a t n : Nat) (f : List Bool) (i : Nat) (p : Pc) : Prop where
  ob : h.ob a = some (t, n)
  ps : h.s.ps[i]? = some p
  pa : p.a = a
  ty : h.ty[t]? = some f
  n4 : n ≤ 1024
  pn : p.n = owords f n
  f4 : f.length ≤ 4096
  a1 : 1 ≤ a
  aw : a + p.n ≤ h.s.ws.length + 1
  aw2 : a + p.n ≤ 65537
section
variable {h : Hs}
theorem HInv.obj (I : HInv h) {a t n : Nat} (ho : h.ob a = some (t, n)) : ∃ f i p, Obj1 h a t n f i p := by
  obtain ⟨i, p, f, h1, h2, h3, h4, h5⟩ := I.dom a t n ho
  have := I.inv.row.at h1
  have := I.inv.fits
  have := I.inv.small
  exact ⟨f, i, p, ho, h1, h2, h3, h4, h5, I.fl t f h3, by omega, by omega, by omega⟩
theorem HInv.base (I : HInv h) {x : Int} {a : Nat} (hb : baseA h x = some a) : ∃ t n f i p, Obj1 h a t n f i p ∧ hold h.s.ps x = some i ∧ (a : Int) ≤ x ∧ x < a + p.n := by
  unfold baseA at hb
  cases hh : hold h.s.ps x with
  | none => rw [hh] at hb; cases hb
  | some i =>
    rw [hh] at hb
    obtain ⟨p, hp, h1, h2, _⟩ := hold_some I.inv.row hh
    simp [hp] at hb
    obtain ⟨⟨t, n⟩, ho⟩ := I.all i p hp (by omega)
    rw [hb] at ho
    obtain ⟨f, j, q, O⟩ := I.obj ho
    have : j = i := I.inv.row.inj O.ps hp (by rw [O.pa, hb])
    subst this
    have hqp := O.ps
    rw [hp] at hqp; cases hqp
    exact ⟨t, n, f, j, p, O, rfl, by omega, by omega⟩
theorem HInv.baseN (I : HInv h) {x : Int} (hb : baseA h x = none) : hold h.s.ps x = none := by
  unfold baseA at hb
  cases hh : hold h.s.ps x with
  | none => rfl
  | some i =>
    obtain ⟨p, hp, _⟩ := hold_some I.inv.row hh
    rw [hh] at hb; simp [hp] at hb
theorem Obj1.base {a t n i : Nat} {f : List Bool} {p : Pc} (O : Obj1 h a t n f i p) (I : HInv h) {x : Int} (h1 : (a : Int) ≤ x) (h2 : x < a + p.n) : baseA h x = some a := by
  unfold baseA
  rw [hold_mk I.inv.row O.ps (by rw [O.pa]; exact h1) (by rw [O.pa]; exact h2)]
  simp [O.ps, O.pa]
theorem HInv.base_self (I : HInv h) {a t n : Nat} (ho : h.ob a = some (t, n)) : baseA h a = some a := by
  obtain ⟨f, i, p, O⟩ := I.obj ho
  exact O.base I (Int.le_refl _) (by have := owords_pos f n; have := O.pn; omega)
theorem HInv.base0 (I : HInv h) {x : Int} (hx : x ≤ 0) : baseA h x = none := by
  cases hb : baseA h x with
  | none => rfl
  | some a =>
    obtain ⟨t, n, f, i, p, O, _, h1, _⟩ := I.base hb
    have := O.a1; omega
theorem HInv.ob0 (I : HInv h) : h.ob 0 = none := by
  cases ho : h.ob 0 with
  | none => rfl
  | some o =>
    obtain ⟨f, i, p, O⟩ := I.obj (t := o.1) (n := o.2) ho
    have := O.a1; omega
theorem names_iff {x : Int} : namesB h x = true ↔ x = 0 ∨ ∃ a, baseA h x = some a := by
  unfold namesB
  rw [Bool.or_eq_true, decide_eq_true_eq, Option.isSome_iff_exists]
theorem wd_le (I : HInv h) (x : Nat) : wd h.s x ≤ 9223372036854775807 := by
  unfold wd
  cases hx : h.s.ws[x - 1]? with
  | none => simp
  | some v => exact I.wb v (List.mem_of_getElem? hx)

/-- What the roots come to. -/
inductive Reach (h : Hs) (rs : List Int) : Nat → Prop
  | root {x : Int} {a : Nat} : x ∈ rs → baseA h x = some a → Reach h rs a
  | step {a t n i b : Nat} {f : List Bool} : Reach h rs a → h.ob a = some (t, n) → h.ty[t]? = some f → ptrB f n i = true → baseA h (wd h.s (a + i)) = some b → Reach h rs b
/-- What an object's first k words name. -/
def outs (s : As) (f : List Bool) (n a : Nat) : Nat → List Int
  | 0 => []
  | k + 1 => outs s f n a k ++ if ptrB f n k = true ∧ wd s (a + k) ≠ 0 then [wd s (a + k)] else []
theorem outs_le (s : As) (f : List Bool) (n a : Nat) : ∀ k, (outs s f n a k).length ≤ k
  | 0 => Nat.le_refl _
  | k + 1 => by
    have := outs_le s f n a k
    unfold outs
    split <;> simp <;> omega
theorem mem_outs {s : As} {f : List Bool} {n a : Nat} {v : Int} : ∀ {k : Nat}, v ∈ outs s f n a k ↔ ∃ i, i < k ∧ ptrB f n i = true ∧ wd s (a + i) ≠ 0 ∧ v = wd s (a + i)
  | 0 => by simp [outs]
  | k + 1 => by
    unfold outs
    rw [List.mem_append, mem_outs (k := k)]
    constructor
    · rintro (⟨i, h1, h2⟩ | hv)
      · exact ⟨i, by omega, h2⟩
      · split at hv
        · rename_i hc
          simp at hv
          exact ⟨k, by omega, hc.1, hc.2, hv⟩
        · simp at hv
    · rintro ⟨i, h1, h2, h3, h4⟩
      rcases Nat.lt_or_ge i k with hk | hk
      · exact .inl ⟨i, hk, h2, h3, h4⟩
      · obtain rfl : i = k := by omega
        right
        rw [if_pos ⟨h2, h3⟩, h4]; simp
theorem ptr_lt {f : List Bool} {n i : Nat} (hp : ptrB f n i = true) : i < n * f.length := by
  unfold ptrB at hp
  rw [Bool.and_eq_true, decide_eq_true_eq] at hp
  exact hp.1

/-- What holds while the reached are looked for: st waits, F was found. -/
structure RInv (h : Hs) (rs st : List Int) (F : Nat → Bool) : Prop where
  found : ∀ a, F a = true → Reach h rs a
  wait : ∀ x ∈ st, ∀ a, baseA h x = some a → Reach h rs a
  root : ∀ x ∈ rs, ∀ a, baseA h x = some a → F a = true ∨ ∃ y ∈ st, baseA h y = some a
  step : ∀ (a t n i b : Nat) (f : List Bool), F a = true → h.ob a = some (t, n) → h.ty[t]? = some f → ptrB f n i = true → baseA h (wd h.s (a + i)) = some b → F b = true ∨ ∃ y ∈ st, baseA h y = some b
theorem rinv_new (h : Hs) (rs : List Int) : RInv h rs rs (fun _ => false) :=
  ⟨fun _ hf => by simp at hf, fun x hx a ha => .root hx ha, fun x hx a ha => .inr ⟨x, hx, ha⟩, fun a t n i b f hf => by simp at hf⟩
theorem RInv.skip {rs st : List Int} {F : Nat → Bool} {x : Int} (R : RInv h rs (st ++ [x]) F) (hx : ∀ a, baseA h x = some a → F a = true) : RInv h rs st F := by
  have g : ∀ b, (∃ y ∈ st ++ [x], baseA h y = some b) → F b = true ∨ ∃ y ∈ st, baseA h y = some b := by
    rintro b ⟨y, hy, hb⟩
    rcases List.mem_append.1 hy with hy | hy
    · exact .inr ⟨y, hy, hb⟩
    · simp at hy; subst hy; exact .inl (hx b hb)
  refine ⟨R.found, fun y hy => R.wait y (by simp [hy]), fun y hy a ha => ?_, fun a t n i b f h1 h2 h3 h4 h5 => ?_⟩
  · rcases R.root y hy a ha with h1 | h1
    · exact .inl h1
    · exact g a h1
  · rcases R.step a t n i b f h1 h2 h3 h4 h5 with h1 | h1
    · exact .inl h1
    · exact g b h1
theorem RInv.take {rs st : List Int} {F : Nat → Bool} {x : Int} {a t n : Nat} {f : List Bool} (R : RInv h rs (st ++ [x]) F) (I : HInv h) (hx : baseA h x = some a) (ho : h.ob a = some (t, n)) (hf : h.ty[t]? = some f) :
    RInv h rs (st ++ outs h.s f n a (n * f.length)) (upd F a true) := by
  have hr : Reach h rs a := R.wait x (by simp) a hx
  have up : ∀ b, F b = true → upd F a true b = true := fun b hb => by
    by_cases e : b = a
    · subst e; exact upd_same _ _ _
    · rw [upd_other _ _ e]; exact hb
  have g : ∀ b, (F b = true ∨ ∃ y ∈ st ++ [x], baseA h y = some b) → upd F a true b = true ∨ ∃ y ∈ st ++ outs h.s f n a (n * f.length), baseA h y = some b := by
    rintro b (hb | ⟨y, hy, hb⟩)
    · exact .inl (up b hb)
    · rcases List.mem_append.1 hy with hy | hy
      · exact .inr ⟨y, by simp [hy], hb⟩
      · simp at hy; subst hy
        rw [hx] at hb; cases hb
        exact .inl (upd_same _ _ _)
  refine ⟨fun b hb => ?_, fun y hy b hb => ?_, fun y hy b hb => g b (R.root y hy b hb), fun b t' n' i c f' h1 h2 h3 h4 h5 => ?_⟩
  · by_cases e : b = a
    · subst e; exact hr
    · rw [upd_other _ _ e] at hb; exact R.found b hb
  · rcases List.mem_append.1 hy with hy | hy
    · exact R.wait y (by simp [hy]) b hb
    · obtain ⟨i, _, h2, _, h4⟩ := mem_outs.1 hy
      subst h4
      exact .step hr ho hf h2 hb
  · by_cases e : b = a
    · subst e
      rw [ho] at h2; cases h2
      rw [hf] at h3; cases h3
      refine .inr ⟨wd h.s (b + i), ?_, h5⟩
      refine List.mem_append.2 (.inr (mem_outs.2 ⟨i, ptr_lt h4, h4, fun e0 => ?_, rfl⟩))
      rw [e0, I.base0 (Int.le_refl _)] at h5; cases h5
    · rw [upd_other _ _ e] at h1
      exact g c (R.step b t' n' i c f' h1 h2 h3 h4 h5)
theorem RInv.done {rs : List Int} {F : Nat → Bool} (R : RInv h rs [] F) (a : Nat) : F a = true ↔ Reach h rs a := by
  refine ⟨R.found a, fun hr => ?_⟩
  induction hr with
  | root hx ha =>
    rcases R.root _ hx _ ha with h1 | ⟨y, hy, _⟩
    · exact h1
    · simp at hy
  | step _ ho hf hp hb ih =>
    rcases R.step _ _ _ _ _ _ ih ho hf hp hb with h1 | ⟨y, hy, _⟩
    · exact h1
    · simp at hy
/-- What the pieces that were not found yet may still bring. -/
def pot (F : Nat → Bool) : List Pc → Nat
  | [] => 0
  | p :: r => (if 0 < p.n ∧ F p.a = false then p.n + 1 else 0) + pot F r
theorem pot_mono (F : Nat → Bool) (a : Nat) : ∀ ps : List Pc, pot (upd F a true) ps ≤ pot F ps
  | [] => Nat.le_refl _
  | p :: r => by
    have := pot_mono F a r
    unfold pot
    by_cases e : p.a = a
    · rw [e, upd_same, if_neg (by simp)]; omega
    · rw [upd_other _ _ e]; omega
theorem pot_found {F : Nat → Bool} {a : Nat} : ∀ {ps : List Pc} {i : Nat} {p : Pc}, ps[i]? = some p → p.a = a → 0 < p.n → F a = false → pot (upd F a true) ps + (p.n + 1) ≤ pot F ps
  | [], i, p, hp, _, _, _ => by simp at hp
  | q :: r, 0, p, hp, ha, hn, hf => by
    simp at hp; subst hp
    have := pot_mono F a r
    unfold pot
    rw [ha, upd_same, if_neg (by simp), if_pos ⟨hn, hf⟩]; omega
  | q :: r, i + 1, p, hp, ha, hn, hf => by
    have := pot_found (ps := r) (i := i) (by simpa using hp) ha hn hf
    unfold pot
    by_cases e : q.a = a
    · rw [e, upd_same, if_neg (by simp)]; omega
    · rw [upd_other _ _ e]; omega
theorem pot_le (F : Nat → Bool) : ∀ {ps : List Pc} {b e : Nat}, Row b ps e → pot F ps ≤ 2 * (e - b)
  | [], b, e, _ => by simp [pot]
  | p :: r, b, e, hr => by
    obtain ⟨h1, h2, h3, _, h5⟩ := hr
    have := pot_le F h5
    have := h5.le
    unfold pot
    split <;> omega
end
end Go.Proofs.Ytimpmgbahgganaa
