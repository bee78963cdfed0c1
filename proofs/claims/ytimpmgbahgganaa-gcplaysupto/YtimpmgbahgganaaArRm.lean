/- The document's arena as plain mathematics, and how it stands to the program's. -/
import Derived.Test.YtimpmgbahgganaaArQ
namespace Go.Proofs.Ytimpmgbahgganaa

/-- A piece of the document's: where it begins, what it was asked for with, whether it went back, and as the so manieth. -/
structure Rp where
  a : Nat
  n : Nat
  f : Bool
  t : Nat
structure Rs where
  wd : Nat
  ln : Nat
  ps : List Rp
  fd : Nat
  st : List Int
/-- The two arenas say the same. -/
structure Sim (s : As) (r : Rs) : Prop where
  wd : r.wd = s.ws.length
  ln : r.ln = s.gv + 1
  len : r.ps.length = s.ps.length
  pc : ∀ (i : Nat) (p : Pc) (q : Rp), s.ps[i]? = some p → r.ps[i]? = some q → q.a = p.a ∧ (q.f = true ↔ p.n = 0) ∧ (q.f = false → q.n = p.n) ∧ clsN q.n = p.c ∧ q.n ≤ 65536 ∧ q.t ≤ r.fd
  st1 : r.st.length = s.ws.length + 1
  st : ∀ (i : Nat) (v : Int), s.ws[i]? = some v → r.st[i + 1]? = some v
  ord : ∀ c, (s.bk c).Pairwise fun x y => ∀ (i j : Nat) (p q : Rp), r.ps[i]? = some p → r.ps[j]? = some q → p.a = x → q.a = y → p.t < q.t
theorem Sim.there {s : As} {r : Rs} (S : Sim s r) {i : Nat} {p : Pc} (hp : s.ps[i]? = some p) : ∃ q, r.ps[i]? = some q ∧ q.a = p.a ∧ (q.f = true ↔ p.n = 0) ∧ (q.f = false → q.n = p.n) ∧ clsN q.n = p.c ∧ q.n ≤ 65536 ∧ q.t ≤ r.fd := by
  have hi := get_lt hp
  have hq : r.ps[i]? = some (r.ps[i]'(by rw [S.len]; exact hi)) := by simp
  exact ⟨_, hq, S.pc i p _ hp hq⟩
theorem Sim.back {s : As} {r : Rs} (S : Sim s r) {i : Nat} {q : Rp} (hq : r.ps[i]? = some q) : ∃ p, s.ps[i]? = some p ∧ q.a = p.a ∧ (q.f = true ↔ p.n = 0) ∧ (q.f = false → q.n = p.n) ∧ clsN q.n = p.c ∧ q.n ≤ 65536 ∧ q.t ≤ r.fd := by
  have hi := get_lt hq
  have hp : s.ps[i]? = some (s.ps[i]'(by rw [← S.len]; exact hi)) := by simp
  exact ⟨_, hp, S.pc i _ q hp hq⟩
def newR (n : Nat) : Rs := ⟨n, 1, [], 0, List.replicate (n + 1) 0⟩
theorem sim_new (n : Nat) : Sim (newS n) (newR n) := by
  refine ⟨by simp [newS, newR], rfl, rfl, by simp [newS], by simp [newS, newR], ?_, by simp [newS]⟩
  intro i v h
  have hi := get_lt h
  simp only [newS, List.length_replicate] at hi
  simp only [newS, newR, List.getElem?_replicate] at h ⊢
  rw [if_pos hi] at h
  rw [if_pos (by omega)]; exact h

/-- The piece that begins at an address and is given. -/
def AtR (ps : List Rp) (x : Int) : Option Nat → Prop
  | some j => ∃ p, ps[j]? = some p ∧ (p.a : Int) = x ∧ p.f = false
  | none => ∀ (j : Nat) (p : Rp), ps[j]? = some p → ¬ ((p.a : Int) = x ∧ p.f = false)
theorem at_sim {s : As} {r : Rs} {x : Int} {o : Option Nat} (I : Inv s) (S : Sim s r) (h : AtR r.ps x o) : beg s.ps x = o := by
  cases o with
  | some j =>
    obtain ⟨q, hq, h1, h2⟩ := h
    obtain ⟨p, hp, e1, e2, e3, _⟩ := S.back hq
    have hn : 0 < p.n := by
      rcases Nat.eq_zero_or_pos p.n with h0 | h0
      · rw [e2.2 h0] at h2; cases h2
      · exact h0
    rw [← h1, e1]
    exact beg_mk I.row hp hn
  | none =>
    cases hb : beg s.ps x with
    | none => rfl
    | some i =>
      obtain ⟨_, p, hp, e, hn⟩ := beg_some I.row hb
      obtain ⟨q, hq, e1, e2, _⟩ := S.there hp
      refine absurd ⟨by rw [e1]; exact e, ?_⟩ (h i q hq)
      cases hf : q.f with
      | false => rfl
      | true => have := e2.1 hf; omega
/-- The piece that a word lies in. -/
def FindR (ps : List Rp) (x : Int) : Option Nat → Prop
  | some j => ∃ p, ps[j]? = some p ∧ p.f = false ∧ (p.a : Int) ≤ x ∧ x ≤ (p.a : Int) + p.n - 1
  | none => ∀ (j : Nat) (p : Rp), ps[j]? = some p → ¬ (p.f = false ∧ (p.a : Int) ≤ x ∧ x ≤ (p.a : Int) + p.n - 1)
theorem find_sim {s : As} {r : Rs} {x : Int} {o : Option Nat} (I : Inv s) (S : Sim s r) (h : FindR r.ps x o) : hold s.ps x = o := by
  cases o with
  | some j =>
    obtain ⟨q, hq, h0, h1, h2⟩ := h
    obtain ⟨p, hp, e1, e2, e3, _⟩ := S.back hq
    rw [e1] at h1 h2
    rw [e3 h0] at h2
    exact hold_mk I.row hp h1 (by omega)
  | none =>
    cases hb : hold s.ps x with
    | none => rfl
    | some i =>
      obtain ⟨p, hp, h1, h2, _⟩ := hold_some I.row hb
      obtain ⟨q, hq, e1, e2, e3, _⟩ := S.there hp
      have hf : q.f = false := by
        cases hf : q.f with
        | false => rfl
        | true => have := e2.1 hf; omega
      exact absurd ⟨hf, by rw [e1]; exact h1, by rw [e1, e3 hf]; omega⟩ (h i q hq)
/-- Of the pieces of a class that went back the one that went back last. -/
def BestR (ps : List Rp) (c : Nat) : Option Nat → Prop
  | some b => ∃ p, ps[b]? = some p ∧ p.f = true ∧ clsN p.n = c ∧ ∀ (j : Nat) (q : Rp), ps[j]? = some q → q.f = true → clsN q.n = c → q.t ≤ p.t
  | none => ∀ (j : Nat) (q : Rp), ps[j]? = some q → ¬ (q.f = true ∧ clsN q.n = c)
theorem best_sim {s : As} {r : Rs} {c : Nat} {o : Option Nat} (I : Inv s) (S : Sim s r) (h : BestR r.ps c o) :
    (o = none ∧ s.bk c = []) ∨ ∃ (b : Nat) (p : Pc) (q : Rp), o = some b ∧ s.ps[b]? = some p ∧ r.ps[b]? = some q ∧ q.a = p.a ∧ p.c = c ∧ p.n = 0 ∧ (s.bk c).getLast? = some p.a := by
  cases o with
  | none =>
    left
    refine ⟨rfl, ?_⟩
    cases hb : s.bk c with
    | nil => rfl
    | cons x l =>
      exfalso
      obtain ⟨i, p, hp, e1, e2, e3⟩ := I.back c x (by rw [hb]; simp)
      obtain ⟨q, hq, f1, f2, _, f4, _⟩ := S.there hp
      exact h i q hq ⟨f2.2 e3, by rw [f4, e2]⟩
  | some b =>
    right
    obtain ⟨q, hq, h1, h2, h3⟩ := h
    obtain ⟨p, hp, e1, e2, _, e4, _⟩ := S.back hq
    have hn := e2.1 h1
    have hc : p.c = c := by rw [← e4, h2]
    have hmem := I.all b p hp hn
    rw [hc] at hmem
    refine ⟨b, p, q, rfl, hp, hq, e1, hc, hn, ?_⟩
    obtain ⟨x, hx⟩ : ∃ x, (s.bk c).getLast? = some x := by
      cases hl : (s.bk c).getLast? with
      | none => rw [List.getLast?_eq_none_iff] at hl; rw [hl] at hmem; simp at hmem
      | some x => exact ⟨x, rfl⟩
    have hsp := getLast_split hx
    rw [hx]
    rw [hsp] at hmem
    rcases List.mem_append.1 hmem with hm | hm
    · exfalso
      have hord := S.ord c
      rw [hsp, List.pairwise_append] at hord
      have hlt := hord.2.2 p.a hm x (by simp)
      obtain ⟨i, p', hp', g1, g2, g3⟩ := I.back c x (by rw [hsp]; simp)
      obtain ⟨q', hq', f1, f2, _, f4, _⟩ := S.there hp'
      have := hlt b i q q' hq hq' e1 (by rw [f1, g1])
      have := h3 i q' hq' (f2.2 g3) (by rw [f4, g2])
      omega
    · simp at hm; rw [hm]
/-- What the document's Alloc makes of a piece that went back. -/
def rAgain (r : Rs) (b a n : Nat) : Rs := { r with ps := r.ps.set b ⟨a, n, false, 0⟩, st := clr r.st a n }
/-- What it makes at the line. -/
def rCut (r : Rs) (c n : Nat) : Rs := { r with ln := r.ln + c, ps := r.ps ++ [⟨r.ln, n, false, 0⟩], st := clr r.st r.ln n }
theorem st_clr {ws st : List Int} {x n : Nat} (h1 : st.length = ws.length + 1) (h : ∀ (i : Nat) (v : Int), ws[i]? = some v → st[i + 1]? = some v) (hx : 1 ≤ x) (hf : x - 1 + n ≤ ws.length) :
    ∀ (i : Nat) (v : Int), (clr ws (x - 1) n)[i]? = some v → (clr st x n)[i + 1]? = some v := by
  intro i v hv
  rw [clr_get hf] at hv
  rw [clr_get (by omega)]
  by_cases hc : x - 1 ≤ i ∧ i < x - 1 + n
  · rw [if_pos hc] at hv; rw [if_pos (by omega)]; exact hv
  · rw [if_neg hc] at hv; rw [if_neg (by omega)]; exact h i v hv
theorem sim_again {s : As} {r : Rs} {n b : Nat} {p : Pc} (I : Inv s) (S : Sim s r) (h1 : 1 ≤ n) (h2 : n ≤ 65536) (hp : s.ps[b]? = some p) (hc : p.c = clsN n) (hl : (s.bk (clsN n)).getLast? = some p.a) :
    Sim (markS (popS s (clsN n)) p.a n) (rAgain r b p.a n) := by
  have hcl := cls_le h1 h2
  have hr := I.row.at hp
  have hf := I.fits
  have hcn : cnt s.ps p.a = b + 1 := I.row.cnt_at hp (Int.le_refl _) (by omega)
  have hps : (markS (popS s (clsN n)) p.a n).ps = mark s.ps b n := by simp [markS, popS, hcn]
  have hbl := get_lt hp
  have hfit : p.a - 1 + n ≤ s.ws.length := by omega
  have hsp := getLast_split hl
  refine ⟨?_, ?_, ?_, ?_, ?_, ?_, ?_⟩
  · show r.wd = (clr s.ws (p.a - 1) n).length
    rw [clr_length hfit]; exact S.wd
  · exact S.ln
  · rw [hps, mark_length]
    show (r.ps.set b _).length = _
    rw [List.length_set]; exact S.len
  · intro i p' q' hp' hq'
    rw [hps] at hp'
    have hq2 : (r.ps.set b ⟨p.a, n, false, 0⟩)[i]? = some q' := hq'
    rw [List.getElem?_set] at hq2
    by_cases hib : b = i
    · subst hib
      rw [if_pos rfl, if_pos (by rw [S.len]; exact hbl)] at hq2
      rw [mark_same hp] at hp'
      cases hq2
      cases hp'
      exact ⟨rfl, ⟨fun h => by simp at h, fun h => by simp at h; omega⟩, fun _ => rfl, hc.symm, h2, Nat.zero_le _⟩
    · rw [if_neg hib] at hq2
      rw [mark_other hib] at hp'
      exact S.pc i p' q' hp' hq2
  · show (clr r.st p.a n).length = (clr s.ws (p.a - 1) n).length + 1
    rw [clr_length hfit, clr_length (by have := S.st1; omega)]; exact S.st1
  · exact st_clr S.st1 S.st (by omega) hfit
  · intro c
    have hsub : ((markS (popS s (clsN n)) p.a n).bk c).Sublist (s.bk c) := by
      show (upd s.bk (clsN n) (s.bk (clsN n)).dropLast c).Sublist _
      by_cases hcc : c = clsN n
      · subst hcc; rw [upd_same]; exact List.dropLast_sublist _
      · rw [upd_other _ _ hcc]; exact List.Sublist.refl _
    have hno : ∀ x ∈ (markS (popS s (clsN n)) p.a n).bk c, x ≠ p.a := by
      intro x hx e
      subst e
      have hx' : p.a ∈ upd s.bk (clsN n) (s.bk (clsN n)).dropLast c := hx
      by_cases hcc : c = clsN n
      · subst hcc
        rw [upd_same] at hx'
        have := I.once (clsN n)
        rw [hsp, List.nodup_append] at this
        exact this.2.2 p.a hx' p.a (by simp) rfl
      · rw [upd_other _ _ hcc] at hx'
        obtain ⟨i, p', hp', g1, g2, g3⟩ := I.back c p.a hx'
        have := I.row.inj hp' hp g1
        subst this
        rw [hp] at hp'; cases hp'
        omega
    have hpw := (S.ord c).sublist hsub
    refine List.Pairwise.imp_of_mem ?_ hpw
    intro x y hx hy hxy i j p' q' hp' hq' ea eb
    have g : ∀ {i : Nat} {q : Rp} {z : Nat}, (r.ps.set b ⟨p.a, n, false, 0⟩)[i]? = some q → q.a = z → z ≠ p.a → r.ps[i]? = some q := fun {i q z} hq hz hne => by
      rw [List.getElem?_set] at hq
      by_cases hib : b = i
      · rw [if_pos hib] at hq
        split at hq
        · cases hq; exact absurd hz.symm hne
        · cases hq
      · rw [if_neg hib] at hq; exact hq
    exact hxy i j p' q' (g hp' ea (hno x hx)) (g hq' eb (hno y hy)) ea eb
theorem sim_cut {s : As} {r : Rs} {n : Nat} (I : Inv s) (S : Sim s r) (h1 : 1 ≤ n) (h2 : n ≤ 65536) (hroom : clsN n ≤ s.ws.length - s.gv) (ha : allocS s n = some (s.gv + 1, markS (pushS s (clsN n)) (s.gv + 1) n)) :
    Sim (markS (pushS s (clsN n)) (s.gv + 1) n) (rCut r (clsN n) n) := by
  have hcl := cls_le h1 h2
  have hf := I.fits
  have G := alloc_given I h1 h2 ha
  have hfit : s.gv + 1 - 1 + n ≤ s.ws.length := by omega
  have hlen : (markS (pushS s (clsN n)) (s.gv + 1) n).ps = s.ps ++ [⟨s.gv + 1, clsN n, n⟩] := by
    have hat : (s.ps ++ [(⟨s.gv + 1, clsN n, 0⟩ : Pc)])[s.ps.length]? = some ⟨s.gv + 1, clsN n, 0⟩ := by simp
    have hrow0 : Row 1 (s.ps ++ [⟨s.gv + 1, clsN n, 0⟩]) (s.gv + 1 + clsN n) := I.row.snoc rfl (by show 1 ≤ clsN n; omega) (Nat.zero_le _) (.inl rfl)
    have hc : cnt (s.ps ++ [(⟨s.gv + 1, clsN n, 0⟩ : Pc)]) ((s.gv + 1 : Nat) : Int) = s.ps.length + 1 := hrow0.cnt_at hat (Int.le_refl _) (by simp only; omega)
    show mark (s.ps ++ [⟨s.gv + 1, clsN n, 0⟩]) (cnt (s.ps ++ [(⟨s.gv + 1, clsN n, 0⟩ : Pc)]) ((s.gv + 1 : Nat) : Int) - 1) n = _
    rw [hc, Nat.add_sub_cancel]
    apply List.ext_getElem?
    intro j
    by_cases hj : s.ps.length = j
    · subst hj; rw [mark_same hat]; simp
    · rw [mark_other hj]
      rcases Nat.lt_or_ge j s.ps.length with h | h
      · rw [List.getElem?_append_left h, List.getElem?_append_left h]
      · rw [List.getElem?_eq_none (by simp; omega), List.getElem?_eq_none (by simp; omega)]
  refine ⟨?_, ?_, ?_, ?_, ?_, ?_, ?_⟩
  · show r.wd = (clr s.ws (s.gv + 1 - 1) n).length
    rw [clr_length hfit]; exact S.wd
  · show r.ln + clsN n = s.gv + clsN n + 1
    rw [S.ln]; omega
  · rw [hlen]
    show (r.ps ++ [_]).length = _
    rw [List.length_append, List.length_append, S.len]; rfl
  · intro i p' q' hp' hq'
    rw [hlen] at hp'
    have hq2 : (r.ps ++ [(⟨r.ln, n, false, 0⟩ : Rp)])[i]? = some q' := hq'
    rcases Nat.lt_or_ge i s.ps.length with h | h
    · rw [List.getElem?_append_left h] at hp'
      rw [List.getElem?_append_left (by rw [S.len]; exact h)] at hq2
      exact S.pc i p' q' hp' hq2
    · have := get_lt hp'
      simp at this
      have hi : i = s.ps.length := by omega
      subst hi
      rw [← S.len] at hq2
      simp at hp' hq2
      subst hp'
      subst hq2
      exact ⟨S.ln, ⟨fun h => by simp at h, fun h => by simp at h; omega⟩, fun _ => rfl, rfl, h2, Nat.zero_le _⟩
  · show (clr r.st r.ln n).length = (clr s.ws (s.gv + 1 - 1) n).length + 1
    rw [clr_length hfit, clr_length (by have := S.st1; have := S.ln; omega)]; exact S.st1
  · show ∀ (i : Nat) (v : Int), (clr s.ws (s.gv + 1 - 1) n)[i]? = some v → (clr r.st r.ln n)[i + 1]? = some v
    rw [S.ln]
    exact st_clr S.st1 S.st (by omega) hfit
  · intro c
    refine List.Pairwise.imp_of_mem ?_ (S.ord c)
    intro x y hx hy hxy i j p' q' hp' hq' ea eb
    have g : ∀ {i : Nat} {q : Rp} {z : Nat}, (r.ps ++ [(⟨r.ln, n, false, 0⟩ : Rp)])[i]? = some q → q.a = z → z ∈ s.bk c → r.ps[i]? = some q := fun {i q z} hq hz hm => by
      rcases Nat.lt_or_ge i r.ps.length with h | h
      · rw [List.getElem?_append_left h] at hq; exact hq
      · exfalso
        have := get_lt hq
        simp at this
        have hi : i = r.ps.length := by omega
        subst hi
        simp at hq
        subst hq
        obtain ⟨k, p, hp, g1, _⟩ := I.back c z hm
        have := I.row.at hp
        have := S.ln
        simp only at hz
        omega
    exact hxy i j p' q' (g hp' ea hx) (g hq' eb hy) ea eb
/-- What the document's Free makes. -/
def rFree (r : Rs) (i : Nat) (q : Rp) : Rs := { r with ps := r.ps.set i ⟨q.a, q.n, true, r.fd + 1⟩, fd := r.fd + 1 }
theorem sim_free {s : As} {r : Rs} {i : Nat} {p : Pc} {q : Rp} (I : Inv s) (S : Sim s r) (hp : s.ps[i]? = some p) (hq : r.ps[i]? = some q) (hn : 0 < p.n) : Sim (freeS s i p) (rFree r i q) := by
  obtain ⟨e1, e2, e3, e4, e5, e6⟩ := S.pc i p q hp hq
  have hi := get_lt hp
  have hr := I.row.at hp
  have hcc : clsN p.n = p.c := by omega
  have hnot : ∀ c, p.a ∉ s.bk c := fun c hm => by
    obtain ⟨j, p', hp', g1, g2, g3⟩ := I.back c _ hm
    have := I.row.inj hp' hp g1
    subst this
    rw [hp] at hp'; cases hp'; omega
  refine ⟨S.wd, S.ln, ?_, ?_, S.st1, S.st, ?_⟩
  · show (r.ps.set i _).length = (mark s.ps i 0).length
    rw [List.length_set, mark_length]; exact S.len
  · intro j p' q' hp' hq'
    have hp2 : (mark s.ps i 0)[j]? = some p' := hp'
    have hq2 : (r.ps.set i ⟨q.a, q.n, true, r.fd + 1⟩)[j]? = some q' := hq'
    rw [List.getElem?_set] at hq2
    by_cases hij : i = j
    · subst hij
      rw [if_pos rfl, if_pos (by rw [S.len]; exact hi)] at hq2
      rw [mark_same hp] at hp2
      cases hq2; cases hp2
      exact ⟨e1, ⟨fun _ => rfl, fun _ => rfl⟩, fun h => by simp at h, e4, e5, Nat.le_refl _⟩
    · rw [if_neg hij] at hq2
      rw [mark_other hij] at hp2
      obtain ⟨f1, f2, f3, f4, f5, f6⟩ := S.pc j p' q' hp2 hq2
      exact ⟨f1, f2, f3, f4, f5, Nat.le_succ_of_le f6⟩
  · intro c
    have g : ∀ {j : Nat} {q' : Rp} {z : Nat}, (r.ps.set i ⟨q.a, q.n, true, r.fd + 1⟩)[j]? = some q' → q'.a = z → z ∈ s.bk c → r.ps[j]? = some q' := fun {j q' z} hq' hz hm => by
      rw [List.getElem?_set] at hq'
      by_cases hij : i = j
      · rw [if_pos hij] at hq'
        split at hq'
        · cases hq'; simp only at hz; rw [← hz, e1] at hm; exact absurd hm (hnot c)
        · cases hq'
      · rw [if_neg hij] at hq'; exact hq'
    have old : (s.bk c).Pairwise fun x y => ∀ (i' j : Nat) (p q' : Rp), (rFree r i q).ps[i']? = some p → (rFree r i q).ps[j]? = some q' → p.a = x → q'.a = y → p.t < q'.t := by
      refine List.Pairwise.imp_of_mem ?_ (S.ord c)
      intro x y hx hy hxy i' j p' q' hp' hq' ea eb
      exact hxy i' j p' q' (g hp' ea hx) (g hq' eb hy) ea eb
    show (upd s.bk (clsN p.n) (s.bk (clsN p.n) ++ [p.a]) c).Pairwise _
    by_cases hc : c = clsN p.n
    · subst hc
      rw [upd_same, List.pairwise_append]
      refine ⟨old, by simp, ?_⟩
      intro x hx y hy i' j p' q' hp' hq' ea eb
      simp at hy
      subst hy
      have h1 := g hp' ea hx
      obtain ⟨_, _, _, _, _, _, _, ht⟩ := S.back h1
      have hq2 : (r.ps.set i ⟨q.a, q.n, true, r.fd + 1⟩)[j]? = some q' := hq'
      rw [List.getElem?_set] at hq2
      by_cases hij : i = j
      · rw [if_pos hij, if_pos (by rw [S.len]; exact hi)] at hq2
        cases hq2
        show p'.t < r.fd + 1
        omega
      · rw [if_neg hij] at hq2
        obtain ⟨p2, hp2, f1, _⟩ := S.back hq2
        have := I.row.inj hp2 hp (by rw [← f1, eb])
        omega
    · rw [upd_other _ _ hc]; exact old
def rSet (r : Rs) (x : Nat) (v : Int) : Rs := { r with st := r.st.set x v }
theorem sim_set {s : As} {r : Rs} {x : Nat} (S : Sim s r) (hx : 1 ≤ x) (v : Int) : Sim (setS s x v) (rSet r x v) := by
  refine ⟨by show r.wd = (s.ws.set _ _).length; rw [List.length_set]; exact S.wd, S.ln, S.len, S.pc, by show (r.st.set _ _).length = (s.ws.set _ _).length + 1; rw [List.length_set, List.length_set]; exact S.st1, ?_, S.ord⟩
  intro i u hu
  have hu2 : (s.ws.set (x - 1) v)[i]? = some u := hu
  show (r.st.set x v)[i + 1]? = some u
  have hl := S.st1
  rw [List.getElem?_set] at hu2 ⊢
  by_cases h : x - 1 = i
  · rw [if_pos h] at hu2
    rw [if_pos (by omega)]
    split at hu2
    · rw [if_pos (by omega)]; exact hu2
    · cases hu2
  · rw [if_neg h] at hu2
    rw [if_neg (by omega)]
    exact S.st i u hu2
def liveR (ps : List Rp) : List Nat := (ps.filter fun p => !p.f).map (·.a)
theorem live_sim {s : As} {r : Rs} (S : Sim s r) : liveR r.ps = liveL s.ps := by
  have key : ∀ (ps : List Pc) (qs : List Rp), qs.length = ps.length → (∀ (i : Nat) (p : Pc) (q : Rp), ps[i]? = some p → qs[i]? = some q → q.a = p.a ∧ (q.f = true ↔ p.n = 0)) → liveR qs = liveL ps := by
    intro ps
    induction ps with
    | nil => intro qs hl _; rw [List.eq_nil_of_length_eq_zero hl]; rfl
    | cons p ps ih =>
      intro qs hl h
      cases qs with
      | nil => simp at hl
      | cons q qs =>
        have h0 := h 0 p q rfl rfl
        have ih' := ih qs (by simpa using hl) (fun i p' q' hp hq => h (i + 1) p' q' (by simpa using hp) (by simpa using hq))
        unfold liveR liveL at *
        by_cases hn : p.n = 0
        · rw [List.filter_cons_of_neg (by simp [h0.2.2 hn]), List.filter_cons_of_neg (by simp [hn]), ih']
        · have hf : q.f = false := by
            cases hf : q.f with
            | false => rfl
            | true => exact absurd (h0.2.1 hf) hn
          rw [List.filter_cons_of_pos (by simp [hf]), List.filter_cons_of_pos (by simp; omega)]
          simp only [List.map_cons, ih', h0.1]
  exact key s.ps r.ps S.len (fun i p q hp hq => by obtain ⟨a, b, _⟩ := S.pc i p q hp hq; exact ⟨a, b⟩)
end Go.Proofs.Ytimpmgbahgganaa
