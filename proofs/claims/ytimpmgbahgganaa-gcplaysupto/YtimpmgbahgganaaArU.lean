/- What ArenaApart keeps: which pieces are held, where they lie, and what their words are. -/
import Derived.Test.YtimpmgbahgganaaArQ
namespace Go.Proofs.Ytimpmgbahgganaa

theorem cls_20 {x : Nat} (h1 : 1 ≤ x) (h2 : x ≤ 20) : 1 ≤ clsN x ∧ clsN x ≤ 24 := by
  have := (List.all_eq_true.1 (show (List.range 21).all (fun n => n == 0 || (decide (1 ≤ clsN n) && decide (clsN n ≤ 24))) = true by decide +kernel)) x (by simp; omega)
  simp at this; omega
/-- t words from o on are c, c + 1, .. -/
def fillW (ws : List Int) (o : Nat) (c : Int) : Nat → List Int
  | 0 => ws
  | t + 1 => (fillW ws o c t).set (o + t) (c + t)
theorem fillW_length (ws : List Int) (o : Nat) (c : Int) : ∀ t, (fillW ws o c t).length = ws.length
  | 0 => rfl
  | t + 1 => by rw [fillW, List.length_set, fillW_length ws o c t]
theorem fillW_get (ws : List Int) (o : Nat) (c : Int) (j : Nat) : ∀ t, (fillW ws o c t)[j]? = if o ≤ j ∧ j < o + t ∧ j < ws.length then some (c + ((j - o : Nat) : Int)) else ws[j]?
  | 0 => by rw [fillW, if_neg (by omega)]
  | t + 1 => by
    rw [fillW, List.getElem?_set, fillW_length]
    by_cases h : o + t = j
    · subst h
      rw [if_pos rfl]
      by_cases h2 : o + t < ws.length
      · rw [if_pos h2, if_pos (by omega)]; congr 2; omega
      · rw [if_neg h2, if_neg (by omega), List.getElem?_eq_none (by omega)]
    · rw [if_neg h, fillW_get ws o c j t]
      by_cases h2 : o ≤ j ∧ j < o + t ∧ j < ws.length
      · rw [if_pos h2, if_pos (by omega)]
      · rw [if_neg h2, if_neg (by omega)]
def fillS (s : As) (x : Nat) (c : Int) (t : Nat) : As := { s with ws := fillW s.ws (x - 1) c t }
theorem fillS_set {s : As} {x : Nat} (hx : 1 ≤ x) (c : Int) (t : Nat) : setS (fillS s x c t) (x + t) (c + t) = fillS s x c (t + 1) := by
  unfold setS fillS
  rw [show x + t - 1 = x - 1 + t from by omega]; rfl
theorem fillS_inv {s : As} (h : Inv s) (x : Nat) (c : Int) (t : Nat) : Inv (fillS s x c t) :=
  ⟨h.row, by show s.gv ≤ (fillW _ _ _ _).length; rw [fillW_length]; exact h.fits, by show (fillW _ _ _ _).length ≤ _; rw [fillW_length]; exact h.small, h.back, h.once, h.all⟩

theorem liveL_length (ps : List Pc) : (liveL ps).length = ps.countP fun p => decide (0 < p.n) := by unfold liveL; rw [List.length_map, List.countP_eq_length_filter]
theorem live_same {ps qs : List Pc} {i : Nat} {p q : Pc} (hp : ps[i]? = some p) (hq : qs[i]? = some q) (h : ∀ j, j ≠ i → qs[j]? = ps[j]?) : qs = ps.set i q := by
  have hi := get_lt hp
  apply List.ext_getElem?
  intro j
  rw [List.getElem?_set]
  by_cases hj : i = j
  · subst hj; rw [if_pos rfl, if_pos hi, hq]
  · rw [if_neg hj, h j (Ne.symm hj)]
theorem live_new {ps qs : List Pc} {q : Pc} (hq : qs[ps.length]? = some q) (h : ∀ j, j ≠ ps.length → qs[j]? = ps[j]?) : qs = ps ++ [q] := by
  apply List.ext_getElem?
  intro j
  by_cases hj : j = ps.length
  · subst hj; rw [hq]; simp
  · rw [h j hj]
    rcases Nat.lt_or_ge j ps.length with h1 | h1
    · rw [List.getElem?_append_left h1]
    · rw [List.getElem?_eq_none h1, List.getElem?_eq_none (by simp; omega)]
theorem Given.live {s s' : As} {n x : Nat} (G : Given s n x s') (h1 : 1 ≤ n) : (liveL s'.ps).length = (liveL s.ps).length + 1 := by
  obtain ⟨i, hp, h2, h3⟩ := G.piece
  rw [liveL_length, liveL_length]
  rcases h2 with h2 | ⟨h2, _⟩
  · have hi := get_lt h2
    have hg : s.ps[i] = ⟨x, clsN n, 0⟩ := by rw [List.getElem?_eq_getElem hi] at h2; exact Option.some.inj h2
    rw [live_same h2 hp h3, List.countP_set hi, hg, if_neg (by simp), if_pos (by simp; omega)]
    omega
  · subst h2
    rw [live_new hp h3, List.countP_append]
    simp
    omega
theorem free_live {s : As} {i : Nat} {p : Pc} (hp : s.ps[i]? = some p) (hn : 0 < p.n) : (liveL (freeS s i p).ps).length + 1 = (liveL s.ps).length := by
  have hi := get_lt hp
  have hg : s.ps[i] = p := by rw [List.getElem?_eq_getElem hi] at hp; exact Option.some.inj hp
  rw [liveL_length, liveL_length]
  rw [show (freeS s i p).ps = s.ps.set i ⟨p.a, p.c, 0⟩ from live_same hp (mark_same hp) (fun j hj => mark_other (Ne.symm hj)), List.countP_set hi, hg, if_pos (by simp; omega), if_neg (by simp)]
  have : 0 < s.ps.countP fun p => decide (0 < p.n) := List.countP_pos_iff.2 ⟨p, List.mem_of_getElem? hp, by simp; omega⟩
  omega

/-- The pieces that are held lie where they were given, and hold what was set. -/
structure Held (s : As) (ats szs : List Nat) (hel : List Bool) : Prop where
  l1 : szs.length = ats.length
  l2 : hel.length = ats.length
  inv : Inv s
  len : s.ws.length = 4000
  gv : s.gv ≤ 24 * ats.length
  sz : ∀ (k z : Nat), szs[k]? = some z → 1 ≤ z ∧ z ≤ 20
  pc : ∀ k : Nat, hel[k]? = some true → ∃ (j a z : Nat), ats[k]? = some a ∧ szs[k]? = some z ∧ s.ps[j]? = some ⟨a, clsN z, z⟩ ∧ ∀ t, t < z → s.ws[a - 1 + t]? = some (1000 * (k : Int) + (t : Int))
  one : ∀ k k' : Nat, hel[k]? = some true → hel[k']? = some true → ats[k]? = ats[k']? → k = k'
  cnt : (liveL s.ps).length = hel.count true
theorem held_new : Held (newS 4000) [] [] [] :=
  ⟨rfl, rfl, inv_new (by decide), List.length_replicate, Nat.le_refl _, by simp, by simp, by simp, rfl⟩
/-- What Alloc gives lies apart from what is held. -/
structure Fresh (s s' : As) (ats szs : List Nat) (hel : List Bool) (n x : Nat) : Prop where
  given : Given s n x s'
  gv : s'.gv ≤ s.gv + 24
  pc : ∀ k : Nat, hel[k]? = some true → ∃ (j a z : Nat), ats[k]? = some a ∧ szs[k]? = some z ∧ s'.ps[j]? = some ⟨a, clsN z, z⟩ ∧ (a + z ≤ x ∨ x + n ≤ a) ∧ a ≠ x ∧ ∀ t, t < z → s'.ws[a - 1 + t]? = some (1000 * (k : Int) + (t : Int))
theorem Held.alloc {s : As} {ats szs : List Nat} {hel : List Bool} (H : Held s ats szs hel) (hl : ats.length < 40) {n : Nat} (h1 : 1 ≤ n) (h2 : n ≤ 20) : ∃ x s', allocS s n = some (x, s') ∧ Fresh s s' ats szs hel n x := by
  have hc := cls_20 h1 h2
  have hgv := H.gv
  have hlen := H.len
  obtain ⟨x, s', ha, hg⟩ : ∃ x s', allocS s n = some (x, s') ∧ s'.gv ≤ s.gv + 24 := by
    unfold allocS
    split
    · rename_i x hx
      exact ⟨x, _, rfl, by show s.gv ≤ s.gv + 24; omega⟩
    · rw [if_pos (by omega)]
      exact ⟨_, _, rfl, by show s.gv + clsN n ≤ s.gv + 24; omega⟩
  have G := alloc_given H.inv h1 (by omega) ha
  refine ⟨x, s', ha, G, hg, fun k hk => ?_⟩
  obtain ⟨j, a, z, e1, e2, hp, hw⟩ := H.pc k hk
  obtain ⟨hz1, hz2⟩ := H.sz k z e2
  obtain ⟨i, gp, g2, g3⟩ := G.piece
  have hij : j ≠ i := by
    intro e
    subst e
    rcases g2 with g2 | ⟨g2, _⟩
    · rw [hp] at g2; simp at g2; omega
    · have := get_lt hp; omega
  have hp' : s'.ps[j]? = some ⟨a, clsN z, z⟩ := by rw [g3 j hij]; exact hp
  have ra := G.inv.row.at hp'
  have rx := G.inv.row.at gp
  have hf := G.inv.fits
  have hcz := cls_20 hz1 hz2
  have hap : a + clsN z ≤ x ∨ x + clsN n ≤ a := by
    rcases Nat.lt_or_ge j i with h | h
    · exact .inl (G.inv.row.apart hp' gp h)
    · exact .inr (G.inv.row.apart gp hp' (by omega))
  simp only at ra rx
  refine ⟨j, a, z, e1, e2, hp', by omega, by omega, fun t ht => ?_⟩
  rw [G.ws, clr_get (by have := G.len; omega), if_neg (by omega)]
  exact hw t ht
theorem Fresh.fill {s s' : As} {ats szs : List Nat} {hel : List Bool} {n x : Nat} (H : Held s ats szs hel) (F : Fresh s s' ats szs hel n x) (h1 : 1 ≤ n) (h2 : n ≤ 20) :
    Held (fillS s' x (1000 * (ats.length : Int)) n) (ats ++ [x]) (szs ++ [n]) (hel ++ [true]) := by
  have G := F.given
  obtain ⟨i, gp, g2, g3⟩ := G.piece
  have rx := G.inv.row.at gp
  have hf := G.inv.fits
  have hlen := G.len
  have hl := H.len
  have l1 := H.l1
  have l2 := H.l2
  simp only at rx
  have hlast : ∀ k : Nat, (hel ++ [true])[k]? = some true → hel[k]? = some true ∨ k = ats.length := fun k hk => by
    rcases Nat.lt_or_ge k hel.length with h | h
    · rw [List.getElem?_append_left h] at hk; exact .inl hk
    · right
      have := get_lt hk
      simp at this
      omega
  have hold1 : ∀ {k : Nat} {l : List Nat} {v y : Nat}, l[k]? = some v → (l ++ [y])[k]? = some v := fun {k l v y} h => by rw [List.getElem?_append_left (get_lt h)]; exact h
  refine ⟨by simp [l1], by simp [l2], fillS_inv G.inv _ _ _, ?_, ?_, ?_, ?_, ?_, ?_⟩
  · show (fillW _ _ _ _).length = 4000
    rw [fillW_length, hlen, hl]
  · have := F.gv; have := H.gv
    show s'.gv ≤ _
    simp; omega
  · intro k z hz
    rcases Nat.lt_or_ge k szs.length with h | h
    · rw [List.getElem?_append_left h] at hz; exact H.sz k z hz
    · have h3 := get_lt hz
      simp at h3
      have : k = szs.length := by omega
      subst this
      simp at hz; omega
  · intro k hk
    rcases hlast k hk with h | h
    · obtain ⟨j, a, z, e1, e2, hp, hap, hne, hw⟩ := F.pc k h
      have ra := G.inv.row.at hp
      simp only at ra
      refine ⟨j, a, z, hold1 e1, hold1 e2, hp, fun t ht => ?_⟩
      show (fillW s'.ws (x - 1) _ n)[a - 1 + t]? = _
      rw [fillW_get, if_neg (by omega)]
      exact hw t ht
    · subst h
      refine ⟨i, x, n, by simp, by rw [← l1]; simp, gp, fun t ht => ?_⟩
      show (fillW s'.ws (x - 1) _ n)[x - 1 + t]? = _
      rw [fillW_get, if_pos (by omega)]
      congr 2; omega
  · intro k k' hk hk' he
    rcases hlast k hk with h | h <;> rcases hlast k' hk' with h' | h'
    · obtain ⟨_, a, _, e1, _⟩ := F.pc k h
      obtain ⟨_, a', _, e1', _⟩ := F.pc k' h'
      rw [hold1 e1, hold1 e1'] at he
      exact H.one k k' h h' (by rw [e1, e1', he])
    · obtain ⟨_, a, _, e1, _, _, _, hne, _⟩ := F.pc k h
      subst h'
      rw [hold1 e1] at he
      simp at he
      exact absurd he hne
    · obtain ⟨_, a, _, e1, _, _, _, hne, _⟩ := F.pc k' h'
      subst h
      rw [hold1 e1] at he
      simp at he
      exact absurd he.symm hne
    · omega
  · show (liveL s'.ps).length = _
    rw [G.live h1, H.cnt]
    simp
theorem Held.free {s : As} {ats szs : List Nat} {hel : List Bool} (H : Held s ats szs hel) {k : Nat} (hk : hel[k]? = some true) :
    ∃ (j : Nat) (a : Nat) (p : Pc), ats[k]? = some a ∧ p.a = a ∧ s.ps[j]? = some p ∧ 0 < p.n ∧ Held (freeS s j p) ats szs (hel.set k false) := by
  obtain ⟨j, a, z, e1, e2, hp, hw⟩ := H.pc k hk
  obtain ⟨hz1, hz2⟩ := H.sz k z e2
  refine ⟨j, a, ⟨a, clsN z, z⟩, e1, rfl, hp, by show 0 < z; omega, ⟨H.l1, by rw [List.length_set]; exact H.l2, H.inv.free hp (by show 0 < z; omega), H.len, H.gv, H.sz, ?_, ?_, ?_⟩⟩
  · intro k' hk'
    have hne : k ≠ k' := fun e => by
      subst e
      rw [List.getElem?_set, if_pos rfl, if_pos (get_lt hk)] at hk'
      cases hk'
    rw [List.getElem?_set, if_neg hne] at hk'
    obtain ⟨j', a', z', e1', e2', hp', hw'⟩ := H.pc k' hk'
    refine ⟨j', a', z', e1', e2', ?_, hw'⟩
    have hjj : j ≠ j' := fun e => by
      subst e
      rw [hp] at hp'
      simp at hp'
      exact hne (H.one k k' hk hk' (by rw [e1, e1', hp'.1]))
    show (mark s.ps j 0)[j']? = _
    rw [mark_other hjj]; exact hp'
  · intro k1 k2 h1 h2 he
    rw [List.getElem?_set] at h1 h2
    have g : ∀ {q : Nat}, (if k = q then if k < hel.length then some false else none else hel[q]?) = some true → hel[q]? = some true := fun {q} h => by
      split at h
      · split at h <;> cases h
      · exact h
    exact H.one k1 k2 (g h1) (g h2) he
  · have h1 := free_live hp (show 0 < (⟨a, clsN z, z⟩ : Pc).n by show 0 < z; omega)
    have h2 := H.cnt
    have hkl := get_lt hk
    have hg : hel[k] = true := by rw [List.getElem?_eq_getElem hkl] at hk; exact Option.some.inj hk
    rw [List.count_set hkl, hg]
    simp
    omega
theorem Held.word {s : As} {ats szs : List Nat} {hel : List Bool} (H : Held s ats szs hel) {k a z t : Nat} (hk : hel[k]? = some true) (e1 : ats[k]? = some a) (e2 : szs[k]? = some z) (ht : t < z) :
    getP s ((a + t : Nat) : Int) = (1000 * (k : Int) + t, 0) ∧ findP s ((a + t : Nat) : Int) = ((a : Int), 0) ∧ 1 ≤ a ∧ a + z ≤ 4001 := by
  obtain ⟨j, a', z', e1', e2', hp, hw⟩ := H.pc k hk
  rw [e1] at e1'; cases e1'
  rw [e2] at e2'; cases e2'
  have hr := H.inv.row.at hp
  have hf := H.inv.fits
  have hl := H.len
  simp only at hr
  have hh : hold s.ps ((a + t : Nat) : Int) = some j := hold_mk H.inv.row hp (by simp only; omega) (by simp only; omega)
  refine ⟨?_, ?_, by omega, by omega⟩
  · unfold getP
    rw [hh]
    simp only [Int.toNat_natCast]
    rw [show a + t - 1 = a - 1 + t from by omega, hw t ht]; rfl
  · unfold findP
    rw [hh]
    simp only [hp, Option.getD_some]
theorem Fresh.zero {s s' : As} {ats szs : List Nat} {hel : List Bool} {n x : Nat} (F : Fresh s s' ats szs hel n x) (c : Int) {t : Nat} (ht : t < n) :
    getP (fillS s' x c t) ((x + t : Nat) : Int) = (0, 0) ∧ setP (fillS s' x c t) ((x + t : Nat) : Int) (c + t) = (0, fillS s' x c (t + 1)) := by
  have G := F.given
  obtain ⟨i, hp, _, _⟩ := G.piece
  have hr := G.inv.row.at hp
  have hw := G.within
  have hl := G.len
  have hf := G.inv.fits
  simp only at hr
  have hh : hold (fillS s' x c t).ps ((x + t : Nat) : Int) = some i := hold_mk G.inv.row hp (by simp only; omega) (by simp only; omega)
  refine ⟨?_, ?_⟩
  · unfold getP
    rw [hh]
    simp only [Int.toNat_natCast]
    show ((fillW s'.ws (x - 1) c t)[x + t - 1]?.getD 0, (0 : Int)) = (0, 0)
    rw [fillW_get, if_neg (by omega), G.ws, clr_get (by omega), if_pos (by omega)]
    rfl
  · unfold setP
    rw [hh]
    simp only [Int.toNat_natCast]
    rw [fillS_set (by omega)]
end Go.Proofs.Ytimpmgbahgganaa
