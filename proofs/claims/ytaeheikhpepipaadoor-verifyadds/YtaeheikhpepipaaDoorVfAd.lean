/- VerifyAdds: the law. -/
import Derived.Test.YtaeheikhpepipaaDoorVfEa
namespace Go.Proofs.YtaeheikhpepipaaDoor
open Go.RowKit
/-- Lists of k cells, one behind the other. -/
theorem flat_get {k : Nat} : ∀ {css : List (List Value)}, (∀ c ∈ css, c.length = k) → css.flatten.length = css.length * k ∧ ∀ (j : Nat) (c : List Value) (r : Nat) (u : Value), css[j]? = some c → c[r]? = some u → css.flatten[j * k + r]? = some u
  | [], _ => ⟨by simp, fun j c r u h => by simp at h⟩
  | a :: t, h => by
    have ha := h a (by simp)
    obtain ⟨ih1, ih2⟩ := flat_get (css := t) (fun c hc => h c (by simp [hc]))
    refine ⟨by rw [List.flatten_cons, List.length_append, ih1, ha, List.length_cons, Nat.succ_mul, Nat.add_comm], fun j c r u hj hr => ?_⟩
    rw [List.flatten_cons]
    cases j with
    | zero =>
      cases hj
      rw [Nat.zero_mul, Nat.zero_add, List.getElem?_append_left (get_lt hr)]
      exact hr
    | succ j =>
      have hj2 : t[j]? = some c := hj
      rw [List.getElem?_append_right (by rw [ha, Nat.succ_mul]; omega), ha, show (j + 1) * k + r - k = j * k + r by rw [Nat.succ_mul]; omega]
      exact ih2 j c r u hj2 hr
theorem flat_inv {k : Nat} (hk : 0 < k) : ∀ {css : List (List Value)}, (∀ c ∈ css, c.length = k) → ∀ (n : Nat) (u : Value), css.flatten[n]? = some u → ∃ c, css[n / k]? = some c ∧ c[n % k]? = some u
  | [], _, n, u, h => by simp at h
  | a :: t, h, n, u, hn => by
    have ha := h a (by simp)
    rw [List.flatten_cons] at hn
    rcases Nat.lt_or_ge n k with hlt | hge
    · rw [List.getElem?_append_left (by omega)] at hn
      exact ⟨a, by rw [Nat.div_eq_of_lt hlt]; rfl, by rw [Nat.mod_eq_of_lt hlt]; exact hn⟩
    · rw [List.getElem?_append_right (by omega), ha] at hn
      obtain ⟨c, h1, h2⟩ := flat_inv hk (fun c hc => h c (by simp [hc])) (n - k) u hn
      refine ⟨c, ?_, ?_⟩
      · rw [Nat.div_eq_sub_div hk hge]; exact h1
      · rw [Nat.mod_eq_sub_mod hge]; exact h2
section
variable {α : Type} {k B : Nat} {P : World → List Value → α → Prop} {w w' : World}
/-- The cells of a list that lies. -/
theorem sl_css {v : Value} {l : List α} (R : SlAt k P B w v l) (hk : ∀ cs x, P w cs x → cs.length = k) : ∃ css : List (List Value), css.length = l.length ∧ (∀ c ∈ css, c.length = k) ∧ (∀ (j : Nat) (x : α), l[j]? = some x → ∃ c, css[j]? = some c ∧ P w c x) ∧ ∃ ao cap, v = .slice ao l.length cap ∧ (0 < l.length → ∃ g o, ao = some ⟨g, o, none⟩ ∧ g < B ∧ ∀ (j : Nat) (c : List Value) (r : Nat) (u : Value), css[j]? = some c → c[r]? = some u → w.cell? ⟨g, o + j * k + r, none⟩ = some u) := by
  obtain ⟨ao, cap, hv, _, hel⟩ := R
  have key : ∀ n, n ≤ l.length → ∃ css : List (List Value), css.length = n ∧ (∀ c ∈ css, c.length = k) ∧ (∀ (j : Nat) (x : α), j < n → l[j]? = some x → ∃ c, css[j]? = some c ∧ P w c x ∧ ∃ g o, ao = some ⟨g, o, none⟩ ∧ g < B ∧ ∀ (r : Nat) (u : Value), c[r]? = some u → w.cell? ⟨g, o + j * k + r, none⟩ = some u) := by
    intro n
    induction n with
    | zero => intro _; exact ⟨[], rfl, fun c hc => (by cases hc), fun j x hj => by omega⟩
    | succ n ih =>
      intro hn
      obtain ⟨css, h1, h2, h3⟩ := ih (by omega)
      obtain ⟨x, hx⟩ : ∃ x, l[n]? = some x := ⟨l[n], by simp⟩
      obtain ⟨g, o, cs, e1, e2, e3, e4⟩ := hel n x hx
      refine ⟨css ++ [cs], by simp [h1], fun c hc => ?_, fun j y hj hy => ?_⟩
      · rw [List.mem_append] at hc
        rcases hc with hc | hc
        · exact h2 c hc
        · simp at hc; subst hc; exact hk _ _ e4
      · rcases Nat.lt_or_ge j n with hlt | hge
        · obtain ⟨c, c1, c2⟩ := h3 j y hlt hy
          exact ⟨c, by rw [List.getElem?_append_left (by omega)]; exact c1, c2⟩
        · obtain rfl : j = n := by omega
          rw [hx] at hy
          cases hy
          exact ⟨cs, by rw [List.getElem?_append_right (by omega), h1]; simp, e4, g, o, e1, e2, e3⟩
  obtain ⟨css, h1, h2, h3⟩ := key l.length (Nat.le_refl _)
  refine ⟨css, h1, h2, fun j x hx => ?_, ao, cap, hv, fun hl => ?_⟩
  · obtain ⟨c, c1, c2, _⟩ := h3 j x (get_lt hx) hx
    exact ⟨c, c1, c2⟩
  · obtain ⟨x0, hx0⟩ : ∃ x, l[0]? = some x := ⟨l[0], by simp⟩
    obtain ⟨_, _, _, g, o, e1, e2, _⟩ := h3 0 x0 hl hx0
    refine ⟨g, o, e1, e2, fun j c r u hj hr => ?_⟩
    have hjl : j < l.length := by have := get_lt hj; omega
    obtain ⟨x, hx⟩ : ∃ x, l[j]? = some x := ⟨l[j], by simp⟩
    obtain ⟨c', c1, _, g', o', f1, _, f3⟩ := h3 j x hjl hx
    rw [hj] at c1
    cases c1
    rw [e1] at f1
    cases f1
    exact f3 r u hr
/-- A row of one's own, as a list that lies. -/
theorem row_sl {e : TypeId} {v : Value} {l : List α} {css : List (List Value)} {C : Nat} (h : w.ownsRow C e k v l.length css.flatten) (hk : ∀ c ∈ css, c.length = k) (hl : css.length = l.length) (hP : ∀ (j : Nat) (x : α), l[j]? = some x → ∃ c, css[j]? = some c ∧ P w c x) (hB : w.heap.size ≤ B) (hlen : l.length ≤ 1000000) : SlAt k P B w v l := by
  rcases h.2 with ⟨rfl, h0⟩ | ⟨g, cap, cur, rfl, h1, h2, h3, h4, h5, h6⟩
  · have := List.eq_nil_of_length_eq_zero h0
    subst this
    exact sl_nil
  · refine ⟨_, cap, rfl, ⟨by omega, h3, h4⟩, fun j x hx => ?_⟩
    obtain ⟨c, c1, c2⟩ := hP j x hx
    refine ⟨g, 0, c, rfl, Nat.lt_of_lt_of_le (lt_of_block h2) hB, fun r u hr => cell_of h2 ?_, c2⟩
    have h7 := (flat_get hk).2 j c r u c1 hr
    rw [← h6, List.getElem?_take] at h7
    rw [Nat.zero_add]
    split at h7
    · rw [Array.getElem?_toList] at h7
      exact h7
    · cases h7
theorem run_nil_cap {t ty e : TypeId} {i : TypeInfo} {C n : Nat} {v : Value} {xs : List Value} (ht : Tryd.prog.underlying t = some (.slice e)) (hi : Tryd.prog.info? e = some i) (hown : w.ownsRow C e k v n xs) (c : Nat) : (Builtin.append_ #[t, t] ty #[v, .slice none 0 c]).run Tryd.prog w = .ok v w := by
  rcases hown.2 with ⟨rfl, rfl⟩ | ⟨g, cap, cur, rfl, _, _, hnc, _⟩
  · simp [Builtin.append_, run_underlying ht, sizeOf, typeInfo, hi, Builtin.lenOf, Builtin.firstCells]
  · simp [Builtin.append_, run_underlying ht, sizeOf, typeInfo, hi, Builtin.lenOf, Builtin.firstCells, hnc, storeCells]
/-- All of a list behind an empty one. -/
theorem run_all {t ty e : TypeId} {i : TypeInfo} {z : Value} {bytes C : Nat} (ht : Tryd.prog.underlying t = some (.slice e)) (hi : Tryd.prog.info? e = some i) (hz : i.zero = some z) (hsize : i.size = k) (hby : i.bytes = bytes) (hzs : z.cells.size = k) (hk0 : 0 < k) {v0 v : Value} {l : List α} (R : SlAt k P B w v l) (hk : ∀ cs x, P w cs x → cs.length = k) (h1 : ∀ cs x, P w cs x → ∀ u ∈ cs, u.oneCell' = true) (hlen : l.length ≤ 100000) (hbt : bytes ≤ 1000) (h0 : w.ownsRow C e k v0 0 []) (hC : C ≤ w.heap.size) :
    ∃ (v' : Value) (w' : World) (css : List (List Value)), (Builtin.append_ #[t, t] ty #[v0, v]).run Tryd.prog w = .ok v' w' ∧ w'.ownsRow C e k v' l.length css.flatten ∧ w.grownBy w' v0.ownBlock ∧ (v'.ownBlock = v0.ownBlock ∨ v'.ownBlock = some w.heap.size) ∧ css.length = l.length ∧ (∀ c ∈ css, c.length = k) ∧ ∀ (j : Nat) (x : α), l[j]? = some x → ∃ c, css[j]? = some c ∧ P w c x := by
  obtain ⟨css, c1, c2, c3, ao, cap, rfl, c5⟩ := sl_css R hk
  rcases Nat.eq_zero_or_pos l.length with hl0 | hl0
  · have hl : l = [] := List.eq_nil_of_length_eq_zero hl0
    subst hl
    have hcs : css = [] := List.eq_nil_of_length_eq_zero c1
    subst hcs
    cases ao with
    | none => exact ⟨v0, w, [], run_nil_cap ht hi h0 cap, h0, ⟨rfl, rfl, rfl, Nat.le_refl _, fun _ _ _ => rfl⟩, .inl rfl, rfl, c2, c3⟩
    | some ad =>
      obtain ⟨v', w', hr, ho, hgr, _, hat⟩ := run_append_own_at (P := Tryd.prog) w C t ty e i z k bytes ht hi hz hsize hby hzs hk0 v0 0 [] h0 ad 0 cap [] (by simp) (fun j u h => by simp at h) (fun u h => by cases h) (by unfold maxLen; omega) (by omega) hC
      exact ⟨v', w', [], hr, ho, hgr, hat, rfl, c2, c3⟩
  · obtain ⟨g, o, rfl, hg, hcell⟩ := c5 hl0
    obtain ⟨v', w', hr, ho, hgr, _, hat⟩ := run_append_own_at (P := Tryd.prog) w C t ty e i z k bytes ht hi hz hsize hby hzs hk0 v0 0 [] h0 ⟨g, o, none⟩ l.length cap css.flatten (by rw [(flat_get c2).1, c1]) (fun n u hn => by
        obtain ⟨c, d1, d2⟩ := flat_inv hk0 c2 n u hn
        have := hcell _ c _ u d1 d2
        rw [Nat.add_assoc, Nat.div_add_mod'] at this
        have ha : (⟨g, o, none⟩ : Addr).add n = ⟨g, o + n, none⟩ := by simp [Addr.add]
        rw [ha]
        exact this) (fun u hu => by
        rw [List.mem_flatten] at hu
        obtain ⟨c, hc, huc⟩ := hu
        obtain ⟨j, hj⟩ := List.getElem?_of_mem hc
        obtain ⟨x, hx⟩ : ∃ x, l[j]? = some x := ⟨l[j]'(by have := get_lt hj; omega), by simp⟩
        obtain ⟨c', e1, e2⟩ := c3 j x hx
        rw [hj] at e1
        cases e1
        exact h1 _ _ e2 u huc) (by unfold maxLen; omega) (by
        have : (0 + l.length) * bytes ≤ 100000 * 1000 := Nat.mul_le_mul (by omega) hbt
        omega) hC
    rw [Nat.zero_add] at ho
    exact ⟨v', w', css, hr, by simpa using ho, hgr, hat, c1, c2, c3⟩
end
section
variable {α : Type} {k bE : Nat}
/-- A row of one's own whose items are so. -/
def Rw (bE e k : Nat) (Q : List Value → α → Prop) (W : World) (v : Value) (l : List α) : Prop :=
  ∃ css : List (List Value), W.ownsRow bE e k v l.length css.flatten ∧ css.length = l.length ∧ (∀ c ∈ css, c.length = k) ∧ ∀ (j : Nat) (x : α), l[j]? = some x → ∃ c, css[j]? = some c ∧ Q c x
theorem owns_emp {W : World} {e bE : Nat} (h : W.heap[bE]? = some (.cells #[] e (0, 0))) : W.ownsRow bE e k (.slice (some ⟨bE, 0, none⟩) 0 0) 0 [] :=
  ⟨by simp, .inr ⟨bE, 0, #[], rfl, Nat.le_refl _, h, Nat.le_refl _, by decide, by simp, by simp⟩⟩
theorem own_ge {W : World} {C e n : Nat} {v : Value} {xs : List Value} (h : W.ownsRow C e k v n xs) : ∀ g, v.ownBlock = some g → C ≤ g ∧ g < W.heap.size := by
  intro g hg
  rcases h.2 with ⟨rfl, _⟩ | ⟨g', cap, cur, rfl, h1, h2, _⟩
  · cases hg
  · cases hg
    exact ⟨h1, lt_of_block h2⟩
/-- The first append: all of a list behind an empty one. -/
theorem app_first {P : World → List Value → α → Prop} {t ty e B : Nat} {i : TypeInfo} {z : Value} {bytes : Nat} (ht : Tryd.prog.underlying t = some (.slice e)) (hi : Tryd.prog.info? e = some i) (hz : i.zero = some z) (hsize : i.size = k) (hby : i.bytes = bytes) (hzs : z.cells.size = k) (hk0 : 0 < k) {W5 : World} {v : Value} {l : List α} (R : SlAt k P B W5 v l) (hk : ∀ cs x, P W5 cs x → cs.length = k) (h1 : ∀ cs x, P W5 cs x → ∀ u ∈ cs, u.oneCell' = true) (hlen : l.length ≤ 900) (hbt : bytes ≤ 1000) (hE : W5.heap[bE]? = some (.cells #[] e (0, 0))) :
    ∃ (v5 : Value) (W6 : World), (Builtin.append_ #[t, t] ty #[.slice (some ⟨bE, 0, none⟩) 0 0, v]).run Tryd.prog W5 = .ok v5 W6 ∧ Rw bE e k (P W5) W6 v5 l ∧ Below bE W5 W6 ∧ (v5.ownBlock = some bE ∨ v5.ownBlock = some W5.heap.size) ∧ ∀ j, j < W5.heap.size → j ≠ bE → W6.heap[j]? = W5.heap[j]? := by
  obtain ⟨v', w', css, r1, r2, r3, r4, r5, r6, r7⟩ := run_all (w := W5) (ty := ty) ht hi hz hsize hby hzs hk0 R hk h1 (by omega) hbt (owns_emp hE) (Nat.le_of_lt (lt_of_block hE))
  refine ⟨v', w', r1, ⟨css, r2, r5, r6, r7⟩, ⟨r3.os, r3.tape, r3.output, r3.size, fun j hj => r3.block j (Nat.lt_trans hj (lt_of_block hE)) ?_⟩, r4, fun j hj hne => r3.block j hj ?_⟩
  · intro h
    have : j = bE := by simpa [Value.ownBlock] using h
    omega
  · intro h
    exact hne (by simpa [Value.ownBlock] using h)
/-- The second append: one more item. -/
theorem app_next {Q : List Value → α → Prop} {t ty e : Nat} {i : TypeInfo} {z : Value} {bytes : Nat} (ht : Tryd.prog.underlying t = some (.slice e)) (hi : Tryd.prog.info? e = some i) (hz : i.zero = some z) (hsize : i.size = k) (hby : i.bytes = bytes) (hzs : z.cells.size = k) (hk0 : 0 < k) {W7 : World} {v : Value} {l : List α} (R : Rw bE e k Q W7 v l) (hlen : l.length ≤ 900) (hbt : bytes ≤ 1000) (hC : bE ≤ W7.heap.size) {bI : Nat} {cs : Array Value} {fr : Nat × Nat} {te : Nat} (hI : W7.heap[bI]? = some (.cells cs te fr)) (hcs : cs.size = k) (h1 : ∀ u ∈ cs.toList, u.oneCell' = true) (x : α) :
    ∃ a8 c8 W8, (Builtin.append_ #[t, t] ty #[v, .slice (some ⟨bI, 0, none⟩) 1 1]).run Tryd.prog W7 = .ok (.slice a8 (l.length + 1) c8) W8 ∧ Rw bE e k (fun c y => Q c y ∨ (c = cs.toList ∧ y = x)) W8 (.slice a8 (l.length + 1) c8) (l ++ [x]) ∧ W7.grownBy W8 v.ownBlock ∧ ((Value.slice a8 (l.length + 1) c8).ownBlock = v.ownBlock ∨ (Value.slice a8 (l.length + 1) c8).ownBlock = some W7.heap.size) := by
  obtain ⟨css, d1, d2, d3, d4⟩ := R
  obtain ⟨v', w', r1, r2, r3, _, r5⟩ := run_append_own_at (P := Tryd.prog) W7 bE t ty e i z k bytes ht hi hz hsize hby hzs hk0 v l.length css.flatten d1 ⟨bI, 0, none⟩ 1 1 cs.toList (by simp [hcs]) (World.news_of_block hI) h1 (by unfold maxLen; omega) (by
    have : (l.length + 1) * bytes ≤ 901 * 1000 := Nat.mul_le_mul (by omega) hbt
    omega) hC
  obtain ⟨a8, c8, rfl⟩ := row_form r2
  refine ⟨a8, c8, w', r1, ⟨css ++ [cs.toList], ?_, by simp [d2], fun c hc => ?_, fun j y hy => ?_⟩, r3, r5⟩
  · rw [List.flatten_append, List.flatten_singleton, List.length_append, List.length_singleton]
    exact r2
  · rw [List.mem_append] at hc
    rcases hc with hc | hc
    · exact d3 c hc
    · simp at hc; subst hc; simpa using hcs
  · rcases Nat.lt_or_ge j l.length with hlt | hge
    · rw [List.getElem?_append_left hlt] at hy
      obtain ⟨c, e1, e2⟩ := d4 j y hy
      exact ⟨c, by rw [List.getElem?_append_left (by omega)]; exact e1, .inl e2⟩
    · have hj : j = l.length := by have := get_lt hy; simp at this; omega
      subst hj
      rw [List.getElem?_append_right (Nat.le_refl _), Nat.sub_self] at hy
      cases hy
      exact ⟨cs.toList, by rw [← d2, List.getElem?_append_right (Nat.le_refl _), Nat.sub_self]; rfl, .inr ⟨rfl, rfl⟩⟩
theorem Rw.sl {Q : List Value → α → Prop} {P : World → List Value → α → Prop} {e : Nat} {W W' : World} {v : Value} {l : List α} (R : Rw bE e k Q W v l) (hown : ∀ g, v.ownBlock = some g → W'.heap[g]? = W.heap[g]?) (hQ : ∀ c x, Q c x → P W' c x) (hlen : l.length ≤ 901) : SlAt k P W'.heap.size W' v l := by
  obtain ⟨css, d1, d2, d3, d4⟩ := R
  refine row_sl (ownsRow_keep d1 hown) d3 d2 (fun j x hx => ?_) (Nat.le_refl _) (by omega)
  obtain ⟨c, e1, e2⟩ := d4 j x hx
  exact ⟨c, e1, hQ c x e2⟩
/-- What a list is at the end, whatever comes of the block b and behind it. -/
def Fut (k : Nat) (P : Nat → World → List Value → α → Prop) (b B : Nat) (W4 W8 : World) (v : Value) (l : List α) : Prop :=
  ∀ W : World, W8.heap.size ≤ W.heap.size → (∀ j, b < j → j < W8.heap.size → W.heap[j]? = W8.heap[j]?) → (∀ j, j < B → W.heap[j]? = W4.heap[j]?) → SlAt k (P W.heap.size) W.heap.size W v l
/-- Both appends in a row. -/
theorem app_two {P : Nat → World → List Value → α → Prop} {t e B b : Nat} {i : TypeInfo} {z : Value} {bytes : Nat} (ht : Tryd.prog.underlying t = some (.slice e)) (hi : Tryd.prog.info? e = some i) (hz : i.zero = some z) (hsize : i.size = k) (hby : i.bytes = bytes) (hzs : z.cells.size = k) (hk0 : 0 < k) {W4 : World} {v : Value} {l : List α} (R : SlAt k (P B) B W4 v l) (hk : ∀ w cs x, P B w cs x → cs.length = k) (h1 : ∀ w cs x, P B w cs x → ∀ u ∈ cs, u.oneCell' = true) (hkeep : ∀ (w w' : World) (B' : Nat) cs x, B ≤ B' → (∀ j, j < B → w'.heap[j]? = w.heap[j]?) → P B w cs x → P B' w' cs x) (hlen : l.length ≤ 900) (hbt : bytes ≤ 1000) (hBb : B ≤ b) (hb : b < W4.heap.size) :
    ∃ (v5 : Value) (W6 : World), (Builtin.append_ #[t, t] t #[.slice (some ⟨W4.heap.size, 0, none⟩) 0 0, v]).run Tryd.prog (W4.alloc (.cells #[] e)) = .ok v5 W6 ∧ Below W4.heap.size W4 W6 ∧ W4.heap.size < W6.heap.size ∧
      ∀ (W7 : World) (bI : Nat) (cs : Array Value) (te : Nat) (fr : Nat × Nat) (x : α), Below W6.heap.size W6 W7 → W6.heap.size ≤ bI → W7.heap[bI]? = some (.cells cs te fr) → cs.size = k → (∀ u ∈ cs.toList, u.oneCell' = true) →
        (∀ W : World, W7.heap.size ≤ W.heap.size → (∀ j, W6.heap.size ≤ j → j < W7.heap.size → W.heap[j]? = W7.heap[j]?) → P W.heap.size W cs.toList x) →
        ∃ a8 c8 W8, (Builtin.append_ #[t, t] t #[v5, .slice (some ⟨bI, 0, none⟩) 1 1]).run Tryd.prog W7 = .ok (.slice a8 (l.length + 1) c8) W8 ∧ Below W4.heap.size W4 W8 ∧ Fut k P b B W4 W8 (.slice a8 (l.length + 1) c8) (l ++ [x]) := by
  have b4 : Below W4.heap.size W4 (W4.alloc (.cells #[] e)) := (Below.refl _ _).alloc (Nat.le_refl _) _
  have R5 : SlAt k (P B) B (W4.alloc (.cells #[] e)) v l := R.keep (Nat.le_refl _) (fun j hj => b4.block j (by omega)) (fun cs x h => hkeep _ _ _ cs x (Nat.le_refl _) (fun j hj => b4.block j (by omega)) h)
  obtain ⟨v5, W6, r1, r2, r3, r4, r5⟩ := app_first (ty := t) ht hi hz hsize hby hzs hk0 R5 (hk _) (h1 _) hlen hbt (heap_new W4 (.cells #[] e) rfl)
  have hs6 : W4.heap.size < W6.heap.size := Nat.lt_of_lt_of_le (lt_of_block (heap_new W4 (.cells #[] e) rfl)) r3.size
  have b6 : Below W4.heap.size W4 W6 := b4.trans r3
  refine ⟨v5, W6, r1, b6, hs6, fun W7 bI cs te fr x g1 g2 g3 g4 g5 g6 => ?_⟩
  have ho5 : ∀ g, v5.ownBlock = some g → W4.heap.size ≤ g ∧ g < W6.heap.size := by
    obtain ⟨css, d1, _⟩ := r2
    exact own_ge d1
  have R7 : Rw W4.heap.size e k (P B (W4.alloc (.cells #[] e))) W7 v5 l := by
    obtain ⟨css, d1, d2⟩ := r2
    exact ⟨css, ownsRow_keep d1 (fun g hg => g1.block g (ho5 g hg).2), d2⟩
  have hs7 : W6.heap.size ≤ W7.heap.size := g1.size
  obtain ⟨a8, c8, W8, q1, q2, q3, q4⟩ := app_next (ty := t) ht hi hz hsize hby hzs hk0 R7 hlen hbt (by omega) g3 g4 g5 x
  have hs8 : W7.heap.size ≤ W8.heap.size := q3.size
  refine ⟨a8, c8, W8, q1, (bel_tr b6 g1).trans ⟨q3.os, q3.tape, q3.output, q3.size, fun j hj => q3.block j (by omega) (fun h => ?_)⟩, fun W f1 f2 f3 => ?_⟩
  · have := (ho5 j h.symm).1
    omega
  · refine q2.sl (fun g hg => ?_) (fun c y hc => ?_) (by simp; omega)
    · obtain ⟨css, d1, _⟩ := q2
      have := own_ge d1 g hg
      exact f2 g (by omega) this.2
    · rcases hc with hc | ⟨rfl, rfl⟩
      · exact hkeep _ _ _ _ _ (by omega) (fun j hj => (f3 j hj).trans (b4.block j (by omega)).symm) hc
      · refine g6 W (by omega) (fun j h6 h7 => (f2 j (by omega) (by omega)).trans (q3.block j h7 (fun h => ?_)))
        have := (ho5 j h.symm).2
        omega
end
end Go.Proofs.YtaeheikhpepipaaDoor
