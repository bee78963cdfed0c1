/- What the heap's calls make of it, plain. -/
import Derived.Test.YtimpmgbahgganaaHpM
namespace Go.Proofs.Ytimpmgbahgganaa

section
variable {h : Hs}
/-- A word is set. -/
def setH (h : Hs) (x : Nat) (v : Int) : Hs := { h with s := setS h.s x v }
theorem HInv.set (I : HInv h) (x : Nat) {v : Int} (hv : v ≤ 9223372036854775807) : HInv (setH h x v) :=
  ⟨I.inv.set x v, I.tl, I.fl, I.dom, I.all, fun u hu => by
    have hu' : u ∈ h.s.ws.set (x - 1) v := hu
    rcases List.mem_or_eq_of_mem_set hu' with h1 | h1
    · exact I.wb u h1
    · rw [h1]; exact hv⟩
theorem setH_base (x : Nat) (v y : Int) : baseA (setH h x v) y = baseA h y := rfl
/-- Set's answer, and the heap behind it. -/
def setHP (h : Hs) (x v : Int) : Int × Hs :=
  match baseA h x with
  | none => (6, h)
  | some a => match h.ob a with
    | some (t, n) => if ptrB (h.ty.getD t []) n (x - a).toNat = true ∧ namesB h v = false then (1, h) else (0, setH h x.toNat v)
    | none => (6, h)
/-- A new object. -/
def makeH (h : Hs) (t n x : Nat) (s' : As) : Hs := { h with s := s', ob := upd h.ob x (some (t, n)) }
theorem clr_mem {ws : List Int} {o n : Nat} {v : Int} (hv : v ∈ clr ws o n) : v ∈ ws ∨ v = 0 := by
  unfold clr at hv
  rcases List.mem_append.1 hv with hv | hv
  · rcases List.mem_append.1 hv with hv | hv
    · exact .inl (List.mem_of_mem_take hv)
    · exact .inr (List.mem_replicate.1 hv).2
  · exact .inl (List.mem_of_mem_drop hv)
theorem HInv.make (I : HInv h) {t n x : Nat} {s' : As} {f : List Bool} (hf : h.ty[t]? = some f) (hn : n ≤ 1024) (hw : owords f n ≤ 65536) (ha : allocS h.s (owords f n) = some (x, s')) : HInv (makeH h t n x s') := by
  have G := alloc_given I.inv (owords_pos f n) hw ha
  obtain ⟨i, hp, hold, hoth⟩ := G.piece
  have hrow := G.inv.row
  refine ⟨G.inv, I.tl, I.fl, fun a t' n' ho => ?_, fun j p hp' hn' => ?_, fun v hv => ?_⟩
  · have ho' : upd h.ob x (some (t, n)) a = some (t', n') := ho
    by_cases e : a = x
    · subst e
      rw [upd_same] at ho'; cases ho'
      exact ⟨i, _, f, hp, rfl, hf, hn, rfl⟩
    · rw [upd_other _ _ e] at ho'
      obtain ⟨j, p, f', h1, h2, h3⟩ := I.dom a t' n' ho'
      have hj : j ≠ i := fun e2 => by
        subst e2
        rcases hold with h4 | ⟨h4, _⟩
        · rw [h1] at h4; cases h4; have := owords_pos f' n'; have := h3.2.2; simp at this; omega
        · have := get_lt h1; omega
      exact ⟨j, p, f', by show s'.ps[j]? = _; rw [hoth j hj]; exact h1, h2, h3⟩
  · have hp2 : s'.ps[j]? = some p := hp'
    show ∃ o, upd h.ob x (some (t, n)) p.a = some o
    by_cases e : p.a = x
    · rw [e, upd_same]; exact ⟨_, rfl⟩
    · rw [upd_other _ _ e]
      have hj : j ≠ i := fun e2 => by subst e2; rw [hp] at hp2; cases hp2; exact e rfl
      rw [hoth j hj] at hp2
      exact I.all j p hp2 hn'
  · have hv' : v ∈ s'.ws := hv
    rw [G.ws] at hv'
    rcases clr_mem hv' with h1 | h1
    · exact I.wb v h1
    · rw [h1]; decide
/-- Make's answer, and the heap behind it. -/
inductive MakeP (h : Hs) (t n : Int) : Int → Int → Hs → Prop
  | none : (t < 0 ∨ (h.ty.length : Int) ≤ t) → MakeP h t n 0 6 h
  | arg (m : Nat) : t = m → m < h.ty.length → (n < 0 ∨ 1024 < n) → MakeP h t n 0 1 h
  | large (m k : Nat) (f : List Bool) : t = m → h.ty[m]? = some f → n = k → k ≤ 1024 → 65536 < owords f k → MakeP h t n 0 1 h
  | full (m k : Nat) (f : List Bool) : t = m → h.ty[m]? = some f → n = k → k ≤ 1024 → owords f k ≤ 65536 → allocS h.s (owords f k) = none → MakeP h t n 0 7 h
  | made (m k x : Nat) (f : List Bool) (s' : As) : t = m → h.ty[m]? = some f → n = k → k ≤ 1024 → owords f k ≤ 65536 → allocS h.s (owords f k) = some (x, s') → MakeP h t n x 0 (makeH h m k x s')
theorem MakeP.inv {t n x e : Int} {h' : Hs} (M : MakeP h t n x e h') (I : HInv h) : HInv h' := by
  cases M with
  | none _ => exact I
  | arg _ _ _ _ => exact I
  | large _ _ _ _ _ _ _ _ => exact I
  | full _ _ _ _ _ _ _ _ _ => exact I
  | made m k x f s' h1 h2 h3 h4 h5 h6 => exact I.make h2 h4 h5 h6

/-- An object goes. -/
def freeH (h : Hs) (a : Nat) : Hs :=
  match beg h.s.ps a with
  | some i => { h with s := freeS h.s i (h.s.ps[i]?.getD default), ob := upd h.ob a none }
  | none => h
def freeAll (h : Hs) (l : List Nat) : Hs := l.foldl freeH h
theorem freeAll_snoc (h : Hs) (l : List Nat) (a : Nat) : freeAll h (l ++ [a]) = freeH (freeAll h l) a := by simp [freeAll, List.foldl_append]
theorem HInv.beg (I : HInv h) {a t n : Nat} (ho : h.ob a = some (t, n)) : ∃ f i p, Obj1 h a t n f i p ∧ beg h.s.ps a = some i ∧ 0 < p.n ∧ freeH h a = { h with s := freeS h.s i p, ob := upd h.ob a none } := by
  obtain ⟨f, i, p, O⟩ := I.obj ho
  have hn : 0 < p.n := by have := owords_pos f n; have := O.pn; omega
  have hb : Proofs.Ytimpmgbahgganaa.beg h.s.ps a = some i := by have := beg_mk I.inv.row O.ps hn; rw [O.pa] at this; exact this
  refine ⟨f, i, p, O, hb, hn, ?_⟩
  unfold freeH
  rw [hb]
  simp [O.ps]
theorem HInv.free (I : HInv h) {a t n : Nat} (ho : h.ob a = some (t, n)) : HInv (freeH h a) ∧ (freeH h a).ob = upd h.ob a none ∧ (freeH h a).ty = h.ty ∧ (freeH h a).s.ws = h.s.ws := by
  obtain ⟨f, i, p, O, _, hn, e⟩ := I.beg ho
  rw [e]
  refine ⟨⟨I.inv.free O.ps hn, I.tl, I.fl, fun b t' n' hb => ?_, fun j q hq hn' => ?_, I.wb⟩, rfl, rfl, rfl⟩
  · have hb' : upd h.ob a none b = some (t', n') := hb
    by_cases e2 : b = a
    · subst e2; rw [upd_same] at hb'; cases hb'
    · rw [upd_other _ _ e2] at hb'
      obtain ⟨j, q, f', h1, h2, h3⟩ := I.dom b t' n' hb'
      have hj : i ≠ j := fun e3 => by subst e3; rw [O.ps] at h1; cases h1; exact e2 (by rw [← h2, O.pa])
      exact ⟨j, q, f', by show (mark h.s.ps i 0)[j]? = _; rw [mark_other hj]; exact h1, h2, h3⟩
  · have hq' : (mark h.s.ps i 0)[j]? = some q := hq
    by_cases e3 : i = j
    · subst e3; rw [mark_same O.ps] at hq'; cases hq'; simp at hn'
    · rw [mark_other e3] at hq'
      obtain ⟨o, ho'⟩ := I.all j q hq' hn'
      refine ⟨o, ?_⟩
      show upd h.ob a none q.a = some o
      have hne : q.a ≠ a := fun e4 => e3 (I.inv.row.inj O.ps hq' (by rw [O.pa, e4]))
      rw [upd_other _ _ hne]; exact ho'
theorem freeAll_inv (I : HInv h) : ∀ l : List Nat, l.Nodup → (∀ a ∈ l, ∃ o, h.ob a = some o) → HInv (freeAll h l) ∧ (∀ b, (freeAll h l).ob b = if b ∈ l then none else h.ob b) ∧ (freeAll h l).ty = h.ty ∧ (freeAll h l).s.ws = h.s.ws := by
  intro l
  induction l generalizing h with
  | nil => intro _ _; exact ⟨I, fun b => by simp [freeAll], rfl, rfl⟩
  | cons a r ih =>
    intro hd ha
    obtain ⟨⟨t, n⟩, ho⟩ := ha a (by simp)
    obtain ⟨i1, e1, e2, e3⟩ := I.free ho
    have hnd := List.nodup_cons.1 hd
    obtain ⟨j1, j2, j3, j4⟩ := ih i1 hnd.2 (fun b hb => by
      obtain ⟨o, h1⟩ := ha b (by simp [hb])
      have hne : b ≠ a := fun e => hnd.1 (by rw [← e]; exact hb)
      exact ⟨o, by rw [e1, upd_other _ _ hne]; exact h1⟩)
    refine ⟨j1, fun b => ?_, j3.trans e2, j4.trans e3⟩
    rw [show freeAll h (a :: r) = freeAll (freeH h a) r from rfl, j2 b, e1]
    by_cases hb : b ∈ r
    · rw [if_pos hb, if_pos (by simp [hb])]
    · rw [if_neg hb]
      by_cases hba : b = a
      · subst hba; rw [upd_same, if_pos (by simp)]
      · rw [upd_other _ _ hba, if_neg (by simp [hba, hb])]

/-- The objects' first words, rising. -/
theorem live_row : ∀ {ps : List Pc} {b e : Nat}, Row b ps e → (liveL ps).Pairwise (· < ·) ∧ ∀ a ∈ liveL ps, b ≤ a
  | [], b, e, _ => by simp [liveL]
  | p :: r, b, e, hr => by
    obtain ⟨h1, h2, _, _, h5⟩ := hr
    obtain ⟨i1, i2⟩ := live_row h5
    by_cases hn : 0 < p.n
    · have e1 : liveL (p :: r) = p.a :: liveL r := by unfold liveL; simp [hn]
      rw [e1]
      refine ⟨List.pairwise_cons.2 ⟨fun a ha => by have := i2 a ha; omega, i1⟩, fun a ha => ?_⟩
      rcases List.mem_cons.1 ha with rfl | ha
      · omega
      · have := i2 a ha; omega
    · have e1 : liveL (p :: r) = liveL r := by unfold liveL; simp [hn]
      rw [e1]
      exact ⟨i1, fun a ha => by have := i2 a ha; omega⟩
theorem live_nodup (I : HInv h) : (liveL h.s.ps).Nodup := (live_row I.inv.row).1.imp (fun {_ _} h => Nat.ne_of_lt h)
theorem live_iff (I : HInv h) (a : Nat) : a ∈ liveL h.s.ps ↔ ∃ o, h.ob a = some o := by
  unfold liveL
  rw [List.mem_map]
  constructor
  · rintro ⟨p, hp, rfl⟩
    rw [List.mem_filter, decide_eq_true_eq] at hp
    obtain ⟨i, hi⟩ := List.getElem?_of_mem hp.1
    exact I.all i p hi hp.2
  · rintro ⟨⟨t, n⟩, ho⟩
    obtain ⟨f, i, p, O⟩ := I.obj ho
    refine ⟨p, List.mem_filter.2 ⟨List.mem_of_getElem? O.ps, ?_⟩, O.pa⟩
    have := owords_pos f n; have := O.pn
    simp; omega
/-- What goes in a collection that finds F. -/
def gone (h : Hs) (F : Nat → Bool) : List Nat := (liveL h.s.ps).filter fun a => !F a
theorem gone_congr {F G : Nat → Bool} (hFG : ∀ a, F a = true ↔ G a = true) : gone h F = gone h G := by
  have : F = G := funext fun a => by rw [Bool.eq_iff_iff]; exact hFG a
  rw [this]
theorem gone_inv (I : HInv h) (F : Nat → Bool) : HInv (freeAll h (gone h F)) ∧ (∀ b, (freeAll h (gone h F)).ob b = if F b = true then h.ob b else none) ∧ (freeAll h (gone h F)).ty = h.ty ∧ (freeAll h (gone h F)).s.ws = h.s.ws := by
  obtain ⟨h1, h2, h3, h4⟩ := freeAll_inv I (gone h F) ((live_nodup I).sublist List.filter_sublist) (fun a ha => (live_iff I a).1 (List.mem_filter.1 ha).1)
  refine ⟨h1, fun b => ?_, h3, h4⟩
  rw [h2 b]
  unfold gone
  by_cases hF : F b = true
  · rw [if_pos hF, if_neg (fun hm => by have := (List.mem_filter.1 hm).2; rw [hF] at this; cases this)]
  · rw [if_neg hF]
    cases ho : h.ob b with
    | none => simp
    | some o => rw [if_pos (List.mem_filter.2 ⟨(live_iff I b).2 ⟨o, ho⟩, by simpa using hF⟩)]
end
end Go.Proofs.Ytimpmgbahgganaa
