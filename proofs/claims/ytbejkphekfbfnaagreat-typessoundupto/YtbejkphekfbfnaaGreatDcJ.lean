/- The document's members: a list of fields, then of methods. -/
import Derived.Test.YtbejkphekfbfnaaGreatDcI
namespace Go.Proofs.YtbejkphekfbfnaaGreat
open Go.RowKit
attribute [local go_sem ↓] Go.wp_at_zero Go.wp_at_succ

theorem get_lt5 {α : Type} {l : List α} {j : Nat} {x : α} (h : l[j]? = some x) : j < l.length := by
  rcases Nat.lt_or_ge j l.length with h1 | h1
  · exact h1
  · rw [List.getElem?_eq_none h1] at h; cases h
/-- Lists of k cells, one behind the other. -/
theorem flat_get {k : Nat} : ∀ {css : List (List Value)}, (∀ c ∈ css, c.length = k) → css.flatten.length = css.length * k ∧ ∀ (j : Nat) (c : List Value) (r : Nat) (u : Value), css[j]? = some c → c[r]? = some u → css.flatten[j * k + r]? = some u
  | [], _ => ⟨by simp, fun j c r u h => by simp at h⟩
  | a :: t, h => by
    have ha := h a (by simp)
    obtain ⟨ih1, ih2⟩ := flat_get (css := t) (fun c hc => h c (by simp [hc]))
    refine ⟨by rw [List.flatten_cons, List.length_append, ih1, ha, List.length_cons, Nat.succ_mul, Nat.add_comm], fun j c r u hj hr => ?_⟩
    rw [List.flatten_cons]
    cases j with
    | zero =>
      cases hj
      rw [Nat.zero_mul, Nat.zero_add, List.getElem?_append_left (get_lt5 hr)]
      exact hr
    | succ j =>
      have hj2 : t[j]? = some c := hj
      rw [List.getElem?_append_right (by rw [ha, Nat.succ_mul]; omega), ha, show (j + 1) * k + r - k = j * k + r by rw [Nat.succ_mul]; omega]
      exact ih2 j c r u hj2 hr
theorem flat_inv {k : Nat} (hk : 0 < k) : ∀ {css : List (List Value)}, (∀ c ∈ css, c.length = k) → ∀ (n : Nat) (u : Value), css.flatten[n]? = some u → ∃ c, css[n / k]? = some c ∧ c[n % k]? = some u
  | [], _, n, u, h => by simp at h
  | a :: t, h, n, u, hn => by
    have ha := h a (by simp)
    rw [List.flatten_cons] at hn
    rcases Nat.lt_or_ge n k with hlt | hge
    · rw [List.getElem?_append_left (by omega)] at hn
      exact ⟨a, by rw [Nat.div_eq_of_lt hlt]; rfl, by rw [Nat.mod_eq_of_lt hlt]; exact hn⟩
    · rw [List.getElem?_append_right (by omega), ha] at hn
      obtain ⟨c, h1, h2⟩ := flat_inv hk (fun c hc => h c (by simp [hc])) (n - k) u hn
      refine ⟨c, ?_, ?_⟩
      · rw [Nat.div_eq_sub_div hk hge]; exact h1
      · rw [Nat.mod_eq_sub_mod hge]; exact h2
theorem run_nil_cap {w : World} {k : Nat} {t ty e : TypeId} {i : TypeInfo} {C n : Nat} {v : Value} {xs : List Value} (ht : Tryz.prog.underlying t = some (.slice e)) (hi : Tryz.prog.info? e = some i) (hown : w.ownsRow C e k v n xs) (c : Nat) : (Builtin.append_ #[t, t] ty #[v, .slice none 0 c]).run Tryz.prog w = .ok v w := by
  rcases hown.2 with ⟨rfl, rfl⟩ | ⟨g, cap, cur, rfl, _, _, hnc, _⟩
  · simp [Builtin.append_, run_underlying ht, sizeOf, typeInfo, hi, Builtin.lenOf, Builtin.firstCells]
  · simp [Builtin.append_, run_underlying ht, sizeOf, typeInfo, hi, Builtin.lenOf, Builtin.firstCells, hnc, storeCells]

def fcs (f : Fl) (s : Value) : List Value := [.string ⟨f.1.toArray⟩, .int .i64 f.2.kind, .string ⟨f.2.text.toArray⟩, .int .i64 f.2.num, s]
/-- What the cells of a list of members are. -/
structure FO (w : World) (css : List (List Value)) (fs : List Fl) : Prop where
  len : css.length = fs.length
  five : ∀ c ∈ css, c.length = 5
  is : ∀ (j : Nat) f, fs[j]? = some f → ∃ s', css[j]? = some (fcs f s') ∧ Ty w f.2 s' ∧ f.1.length ≤ maxLen
theorem FO.nil (w : World) : FO w [] [] := ⟨rfl, fun c h => (by cases h), fun j f h => (by simp at h)⟩
theorem FO.later {w W : World} {css : List (List Value)} {fs : List Fl} (h : FO w css fs) (hb : Below w.heap.size w W) : FO W css fs :=
  ⟨h.len, h.five, fun j f hj => let ⟨s, h1, h2, h3⟩ := h.is j f hj; ⟨s, h1, h2.later hb, h3⟩⟩
theorem FO.app {w : World} {c1 c2 : List (List Value)} {fs ms : List Fl} (h1 : FO w c1 fs) (h2 : FO w c2 ms) : FO w (c1 ++ c2) (fs ++ ms) := by
  refine ⟨by rw [List.length_append, List.length_append, h1.len, h2.len], fun c hc => ?_, fun j f hj => ?_⟩
  · rcases List.mem_append.1 hc with h | h
    · exact h1.five c h
    · exact h2.five c h
  · rcases Nat.lt_or_ge j fs.length with hl | hl
    · rw [List.getElem?_append_left hl] at hj
      obtain ⟨s, e1, e2⟩ := h1.is j f hj
      exact ⟨s, by rw [List.getElem?_append_left (by rw [h1.len]; exact hl)]; exact e1, e2⟩
    · rw [List.getElem?_append_right hl] at hj
      obtain ⟨s, e1, e2⟩ := h2.is _ f hj
      exact ⟨s, by rw [List.getElem?_append_right (by rw [h1.len]; exact hl), h1.len]; exact e1, e2⟩
theorem FL.css {w : World} {fs : List Fl} {ao : Option Addr} {n c : Nat} (h : FL w fs (.slice ao n c)) : ∃ css, FO w css fs ∧ ∀ (j : Nat) cs, css[j]? = some cs → ∃ g o, ao = some ⟨g, o, none⟩ ∧ g < w.heap.size ∧ ∀ (r : Nat) u, cs[r]? = some u → w.cell? ⟨g, o + j * 5 + r, none⟩ = some u := by
  obtain ⟨ao', c', e, hat⟩ := h
  cases e
  have key : ∀ n, n ≤ fs.length → ∃ css, FO w css (fs.take n) ∧ ∀ (j : Nat) cs, css[j]? = some cs → ∃ g o, ao = some ⟨g, o, none⟩ ∧ g < w.heap.size ∧ ∀ (r : Nat) u, cs[r]? = some u → w.cell? ⟨g, o + j * 5 + r, none⟩ = some u := by
    intro n
    induction n with
    | zero => intro _; exact ⟨[], by simpa using FO.nil w, fun j cs h => by simp at h⟩
    | succ n ih =>
      intro hn
      obtain ⟨css, k1, k2⟩ := ih (by omega)
      obtain ⟨f, hf⟩ : ∃ f, fs[n]? = some f := ⟨_, List.getElem?_eq_getElem (by omega)⟩
      obtain ⟨g, o, s', e1, e2, x0, x1, x2, x3, x4, hT, hl⟩ := hat n f hf
      have hL : css.length = n := by rw [k1.len, List.length_take]; omega
      refine ⟨css ++ [fcs f s'], ?_, fun j cs hj => ?_⟩
      · rw [List.take_add_one, hf]
        refine k1.app ⟨rfl, fun c hc => by simp at hc; subst hc; rfl, fun j y hy => ?_⟩
        cases j with
        | zero => simp at hy; subst hy; exact ⟨s', rfl, hT, hl⟩
        | succ j => simp at hy
      · rcases Nat.lt_or_ge j n with hlt | hge
        · rw [List.getElem?_append_left (by omega)] at hj
          exact k2 j cs hj
        · rw [List.getElem?_append_right (by omega), hL] at hj
          have hj0 : j = n := by have := get_lt5 hj; simp at this; omega
          subst hj0
          rw [Nat.sub_self] at hj
          cases hj
          refine ⟨g, o, e1, e2, fun r u hr => ?_⟩
          match r, hr with
          | 0, hr => cases hr; exact x0
          | 1, hr => cases hr; exact x1
          | 2, hr => cases hr; exact x2
          | 3, hr => cases hr; exact x3
          | 4, hr => cases hr; exact x4
          | r + 5, hr => simp [fcs] at hr
  obtain ⟨css, k1, k2⟩ := key fs.length (Nat.le_refl _)
  rw [List.take_length] at k1
  exact ⟨css, k1, k2⟩
/-- A row of one's own, as a list of members that lies. -/
theorem FL.of_own {w : World} {B : Nat} {v : Value} {fs : List Fl} {css : List (List Value)} (h : w.ownsRow B 65 5 v fs.length css.flatten) (hF : FO w css fs) : FL w fs v := by
  rcases h.2 with ⟨rfl, h0⟩ | ⟨g, cap, cur, rfl, h1, h2, h3, h4, h5, h6⟩
  · have := List.eq_nil_of_length_eq_zero h0
    subst this
    exact ⟨none, 0, rfl, fun j f hj => by simp at hj⟩
  · refine ⟨_, cap, rfl, fun j f hj => ?_⟩
    obtain ⟨s', e1, e2, e3⟩ := hF.is j f hj
    have hc : ∀ (r : Nat) u, (fcs f s')[r]? = some u → w.cell? ⟨g, 0 + j * 5 + r, none⟩ = some u := by
      intro r u hr
      have h7 := (flat_get hF.five).2 j _ r u e1 hr
      rw [← h6, List.getElem?_take] at h7
      rw [Lib.cell_of_heap h2, Nat.zero_add]
      split at h7
      · rw [Array.getElem?_toList] at h7
        exact h7
      · cases h7
    exact ⟨g, 0, s', rfl, lt_of_block h2, hc 0 _ rfl, hc 1 _ rfl, hc 2 _ rfl, hc 3 _ rfl, hc 4 _ rfl, e2, e3⟩
theorem info_fld : (Tryz.prog.info? 65).map (fun i => (i.zero, i.size, i.bytes)) = some (some (.agg #[.string .empty, .int .i64 0, .string .empty, .int .i64 0, .slice none 0 0]), 5, 72) := by kernel_rfl
/-- A list of members behind a row of one's own. -/
theorem app_members {w W : World} {B n : Nat} {v : Value} {xs : List Value} {fs : List Fl} {css : List (List Value)} {ao : Option Addr} {cap : Nat} (hown : W.ownsRow B 65 5 v n xs) (hF : FO w css fs) (hcell : ∀ (j : Nat) cs, css[j]? = some cs → ∃ g o, ao = some ⟨g, o, none⟩ ∧ g < w.heap.size ∧ ∀ (r : Nat) u, cs[r]? = some u → w.cell? ⟨g, o + j * 5 + r, none⟩ = some u) (hbl : Below w.heap.size w W) (hB : B ≤ W.heap.size) (hlen : n + fs.length ≤ 1000000) :
    ∃ v' w', (Builtin.append_ #[40, 40] 40 #[v, .slice ao fs.length cap]).run Tryz.prog W = .ok v' w' ∧ w'.ownsRow B 65 5 v' (n + fs.length) (xs ++ css.flatten) ∧ W.grownBy w' v.ownBlock := by
  obtain ⟨i0, hi, hz0, hz1, hz2⟩ := info_parts info_fld
  cases ao with
  | none =>
    have h0 : css = [] := by
      cases css with
      | nil => rfl
      | cons c cs => obtain ⟨g, o, e, _, _⟩ := hcell 0 c rfl; cases e
    subst h0
    have hf : fs.length = 0 := hF.len.symm
    rw [hf]
    exact ⟨v, W, run_nil_cap Tryz.underlying40 hi hown cap, by simpa using hown, ⟨rfl, rfl, rfl, Nat.le_refl _, fun _ _ _ => rfl⟩⟩
  | some ad =>
    obtain ⟨v', w', h1, h2, h3, _⟩ := run_append_own (P := Tryz.prog) W B 40 40 65 i0 _ 5 72 Tryz.underlying40 hi hz0 hz1 hz2 rfl (by decide) v n xs hown ad fs.length cap css.flatten (by rw [(flat_get hF.five).1, hF.len]) (fun j u hj => by
        obtain ⟨c, d1, d2⟩ := flat_inv (by decide) hF.five j u hj
        obtain ⟨g, o, e, hg, hc⟩ := hcell _ c d1
        cases e
        have := (hbl.cell (p := ⟨g, _, none⟩) hg).trans (hc _ u d2)
        rw [Nat.add_assoc, Nat.div_add_mod'] at this
        have ha : (⟨g, o, none⟩ : Addr).add j = ⟨g, o + j, none⟩ := by simp [Addr.add]
        rw [ha]
        exact this) (fun u hu => by
        rw [List.mem_flatten] at hu
        obtain ⟨c, hc, huc⟩ := hu
        obtain ⟨j, hj⟩ := List.getElem?_of_mem hc
        obtain ⟨f, hf⟩ : ∃ f, fs[j]? = some f := ⟨fs[j]'(by have := get_lt5 hj; rw [hF.len] at this; exact this), by simp⟩
        obtain ⟨s', e1, e2, _⟩ := hF.is j f hf
        rw [hj] at e1
        cases e1
        obtain ⟨a, x, y, rfl⟩ := e2.kt.slice
        simp only [fcs, List.mem_cons, List.not_mem_nil, or_false] at huc
        rcases huc with rfl | rfl | rfl | rfl | rfl <;> rfl) (by unfold maxLen; omega) (by omega) hB
    exact ⟨v', w', h1, h2, h3⟩
set_option maxRecDepth 20000 in
set_option maxHeartbeats 2000000 in
theorem rmembers_any (n : List UInt8) (ifc : Bool) (fs ms : List Fl) (a1 a2 : Option Addr) (c1 c2 : Nat) (w : World) (h1 : FL w fs (.slice a1 fs.length c1)) (h2 : FL w ms (.slice a2 ms.length c2)) (l1 : fs.length ≤ 100000) (l2 : ms.length ≤ 100000) :
    Calls Tryz.prog 45 #[.agg #[.string ⟨n.toArray⟩, .bool ifc, .slice a1 fs.length c1, .slice a2 ms.length c2]] w fun e w' => ∃ v, e = .returned v ∧ Below w.heap.size w w' ∧ FL w' (fs ++ ms) v := by
  have hX0 := Hb.start (w := w) (cs := #[.string ⟨n.toArray⟩, .bool ifc, .slice a1 fs.length c1, .slice a2 ms.length c2]) (T := 60)
  have hX1 := hX0.next ((Below.refl _ _).alloc (Nat.le_refl _) (.cells #[] 65))
  have hE : ((w.alloc (.cells #[.string ⟨n.toArray⟩, .bool ifc, .slice a1 fs.length c1, .slice a2 ms.length c2] 60)).alloc (.cells #[] 65)).ownsRow (w.heap.size + 1) 65 5 (.slice (some ⟨w.heap.size + 1, 0, none⟩) 0 0) 0 [] := by
    have hh := heap_alloc_new (w.alloc (.cells #[.string ⟨n.toArray⟩, .bool ifc, .slice a1 fs.length c1, .slice a2 ms.length c2] 60)) (.cells #[] 65)
    exact ⟨by simp, .inr ⟨w.heap.size + 1, 0, #[], rfl, Nat.le_refl _, by simpa using hh, Nat.le_refl _, by decide, by simp, by simp⟩⟩
  have hz1 := hX1.size
  obtain ⟨css1, F1, C1⟩ := h1.css
  obtain ⟨css2, F2, C2⟩ := h2.css
  obtain ⟨v1, w1, r1, o1, g1⟩ := app_members (cap := c1) hE F1 C1 hX1.out hz1 (by omega)
  have hB1 : Below (w.heap.size + 1) _ w1 := Below.grown (Below.refl _ _) g1 hz1 (fun k hk => (hE.lt k hk).1)
  have hX2 := hX1.nextB hB1 (Nat.le_refl _)
  obtain ⟨v2, w2, r2, o2, g2⟩ := app_members (cap := c2) o1 F2 C2 hX2.out hX2.size (by omega)
  have hB2 : Below (w.heap.size + 1) w1 w2 := Below.grown (Below.refl _ _) g2 hX2.size (fun k hk => (o1.lt k hk).1)
  have hX3 := hX2.nextB hB2 (Nat.le_refl _)
  have hF := (F1.app F2).later hX3.out
  have HL : Hid (FL w2 (fs ++ ms) v2) := FL.of_own (B := w.heap.size + 1) (css := css1 ++ css2) (by simpa [Nat.add_comm] using o2) hF
  have HB := Lib.hid hX3.out
  have x2 := hX1.cell 2 rfl
  have x3 := hX2.cell 3 rfl
  clear hF F1 F2 C1 C2 o1 o2 g1 g2 hB1 hB2 hE h1 h2 hX3
  go_enter Tryz.func45, Tryz.ntmps45
  go_wp2_with (at_builtin; first | (refine wpList_appendE rfl _ _ 40 rfl rfl rfl r1 ?_; clear r1) | (refine wpList_appendE rfl _ _ 40 rfl rfl rfl r2 ?_; clear r2))
  go_ret
  exact ⟨_, rfl, HB.out, HL.out⟩
end Go.Proofs.YtbejkphekfbfnaaGreat
