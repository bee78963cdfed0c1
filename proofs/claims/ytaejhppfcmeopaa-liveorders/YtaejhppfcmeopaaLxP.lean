/- A list of numbers that is taken from in front and put to behind. -/
import Derived.Test.YtaejhppfcmeopaaLwF
import Derived.ArgAppend
namespace Go.Proofs.Ytaejhppfcmeopaa
open Go.RowKit
theorem heap_clear_rest {b : Nat} : ∀ (vs : List Value) (o : Nat) (w : World), (w.setCells b o vs).heap.size = w.heap.size ∧ (w.setCells b o vs).os = w.os ∧ (w.setCells b o vs).tape = w.tape ∧ (w.setCells b o vs).output = w.output
  | [], _, _ => ⟨rfl, rfl, rfl, rfl⟩
  | v :: r, o, w => by
    have := heap_clear_rest (b := b) r (o + 1) (w.setCell ⟨b, o, none⟩ v)
    rw [World.setCells]
    exact ⟨by rw [this.1, World.size_setCell], this.2.1, this.2.2.1, this.2.2.2⟩
theorem heap_clear_other {b j : Nat} (hj : j ≠ b) : ∀ (vs : List Value) (o : Nat) (w : World), (w.setCells b o vs).heap[j]? = w.heap[j]?
  | [], _, _ => rfl
  | v :: r, o, w => by rw [World.setCells, heap_clear_other hj r, Below.heap_setCell _ _ _ _ hj]

/-- The queue xs lies at v, in a block from B on that is its own. -/
structure Qs (w : World) (B : Nat) (v : Value) (xs : List Int) : Prop where
  form : (v = .slice none 0 0 ∧ xs = []) ∨ ∃ g off cap cur, v = .slice (some ⟨g, off, none⟩) xs.length cap ∧ B ≤ g ∧ w.heap[g]? = some (.cells cur 3 (0, 0)) ∧ off + cap ≤ cur.size ∧ xs.length ≤ cap ∧ ∀ (j : Nat) (x : Int), xs[j]? = some x → cur[off + j]? = some (.int .i64 x)
section
variable {w w' : World} {B : Nat} {v : Value} {xs : List Int}
theorem Qs.lt (Q : Qs w B v xs) : ∀ g, v.ownBlock = some g → B ≤ g ∧ g < w.heap.size := by
  intro g hg
  rcases Q.form with ⟨rfl, _⟩ | ⟨g', off, cap, cur, rfl, h1, h2, _⟩
  · cases hg
  · simp [Value.ownBlock] at hg; subst hg; exact ⟨h1, lt_of_block h2⟩
theorem Qs.keep (Q : Qs w B v xs) (hk : ∀ g, v.ownBlock = some g → w'.heap[g]? = w.heap[g]?) : Qs w' B v xs := by
  rcases Q.form with h0 | ⟨g, off, cap, cur, rfl, h1, h2, h3⟩
  · exact ⟨.inl h0⟩
  · exact ⟨.inr ⟨g, off, cap, cur, rfl, h1, (hk g rfl).trans h2, h3⟩⟩
theorem Qs.below (Q : Qs w B v xs) (hb : Below w.heap.size w w') : Qs w' B v xs := Q.keep fun g hg => hb.block g (Q.lt g hg).2
theorem Qs.of_row (ho : w.ownsRow B 3 1 v xs.length (ints xs)) : Qs w B v xs := by
  rcases ho.2 with ⟨h1, h2⟩ | ⟨g, cap, cur, h1, h2, h3, h4, h5, h6, h7⟩
  · exact ⟨.inl ⟨h1, List.eq_nil_of_length_eq_zero h2⟩⟩
  · refine ⟨.inr ⟨g, 0, cap, cur, h1, h2, h3, by omega, h4, fun j x hx => ?_⟩⟩
    have hj := get_lt hx
    have := congrArg (fun l => l[j]?) h7
    simp only [List.getElem?_take] at this
    rw [if_pos (by omega)] at this
    rw [Nat.zero_add]
    simpa [ints, hx] using this
theorem Qs.len (Q : Qs w B v xs) : ∃ ao cap, v = .slice ao xs.length cap := by
  rcases Q.form with ⟨rfl, rfl⟩ | ⟨g, off, cap, cur, rfl, _⟩
  · exact ⟨none, 0, rfl⟩
  · exact ⟨_, cap, rfl⟩
theorem heap_setCells_form {b : Nat} {t : TypeId} {f : Nat × Nat} : ∀ (vs : List Value) (o : Nat) (w : World) (cur : Array Value), w.heap[b]? = some (.cells cur t f) → ∃ cur', (w.setCells b o vs).heap[b]? = some (.cells cur' t f) ∧ cur'.size = cur.size ∧ (∀ j, j < o ∨ o + vs.length ≤ j → cur'[j]? = cur[j]?) ∧ ∀ j, j < vs.length → o + j < cur.size → cur'[o + j]? = vs[j]?
  | [], o, w, cur, h => ⟨cur, h, rfl, fun _ _ => rfl, fun j hj => by simp at hj⟩
  | v :: r, o, w, cur, h => by
    obtain ⟨cur', h1, h2, h3, h4⟩ := heap_setCells_form r (o + 1) (w.setCell ⟨b, o, none⟩ v) _ (heap_setCell_same w b o v h)
    refine ⟨cur', h1, by simpa using h2, fun j hj => ?_, fun j hj hs => ?_⟩
    · rw [h3 j (by simp at hj; omega), Array.getElem?_setIfInBounds, if_neg (by simp at hj; omega)]
    · cases j with
      | zero =>
        rw [Nat.add_zero, h3 o (.inl (by omega)), Array.getElem?_setIfInBounds, if_pos rfl, if_pos (by omega)]; rfl
      | succ j =>
        rw [show o + (j + 1) = o + 1 + j by omega, h4 j (by simpa using hj) (by simp; omega)]; rfl
/-- More is put behind. -/
theorem Qs.app (Q : Qs w B v xs) (hB : B ≤ w.heap.size) {a : Addr} {c : Nat} {ys : List Int} (h0 : 0 < ys.length) (hy : ∀ (j : Nat) (y : Int), ys[j]? = some y → w.cell? (a.add j) = some (.int .i64 y)) (hl : xs.length + ys.length ≤ 1000000000) :
    ∃ v' w', (Builtin.append_ #[34, 34] 34 #[v, .slice (some a) ys.length c]).run Try.prog w = .ok v' w' ∧ Qs w' B v' (xs ++ ys) ∧ w.grownBy w' v.ownBlock ∧ (v'.ownBlock = v.ownBlock ∨ ∀ g, v'.ownBlock = some g → w.heap.size ≤ g) := by
  obtain ⟨i0, hi, hz0, hz1, hz2⟩ := info_parts Try.info3
  have hnews : ∀ (j : Nat) (u : Value), (ints ys)[j]? = some u → w.cell? (a.add j) = some u := fun j u hu => by
    simp only [ints, List.getElem?_map, Option.map_eq_some_iff] at hu
    obtain ⟨y, hy', rfl⟩ := hu
    exact hy j y hy'
  have h1 : ∀ u ∈ ints ys, u.oneCell' = true := fun u hu => by
    simp only [ints, List.mem_map] at hu
    obtain ⟨x, _, rfl⟩ := hu
    rfl
  rcases Q.form with ⟨rfl, rfl⟩ | ⟨g, off, cap, cur, rfl, hBg, hg, hcs, hlc, hx⟩
  · obtain ⟨g, cap, w', hr, ho, hgr, hat, _⟩ := run_append_lies (P := Try.prog) w 34 34 B 3 i0 _ 1 8 Try.underlying34 hi hz0 hz1 hz2 rfl (by decide) (.slice none 0 0) 0 [] ⟨rfl, .inl ⟨rfl, rfl⟩⟩ a ys.length c (ints ys) (by simp [ints]) hnews h1 h0 (by unfold maxLen; omega) (by omega) hB _ rfl
    refine ⟨_, w', hr, ?_, hgr, ?_⟩
    · rw [Nat.zero_add] at ho ⊢
      exact Qs.of_row (by simpa using ho)
    · rcases hat with h | h
      · cases h
      · exact .inr (fun g' hg' => by simp [Value.ownBlock] at hg'; omega)
  · by_cases hroom : xs.length + ys.length ≤ cap
    · have hr := run_append_room_cells (P := Try.prog) w 34 34 3 i0 Try.underlying34 hi g off xs.length cap a ys.length c (ints ys) (by simp [ints, hz1]) hnews h1 hroom
        (fun j hj => by simp [ints] at hj; rw [hz1]; simp [World.cell?, hg]; omega)
        (fun j hj => by simp [World.frozen?, hg])
      rw [hz1, Nat.mul_one] at hr
      obtain ⟨cur', e1, e2, e3, e4⟩ := heap_setCells_form (ints ys) (off + xs.length) w cur hg
      refine ⟨_, _, hr, ⟨.inr ⟨g, off, cap, cur', by simp, hBg, e1, by omega, by simpa using hroom, fun j x hj => ?_⟩⟩, ?_, .inl rfl⟩
      · rcases Nat.lt_or_ge j xs.length with hlt | hge
        · rw [List.getElem?_append_left hlt] at hj
          rw [e3 (off + j) (.inl (by omega))]; exact hx j x hj
        · rw [List.getElem?_append_right hge] at hj
          have hjl := get_lt hj
          have := e4 (j - xs.length) (by simpa [ints] using hjl) (by omega)
          rw [show off + xs.length + (j - xs.length) = off + j by omega] at this
          rw [this]; simp [ints, hj]
      · obtain ⟨r1, r2, r3, r4⟩ := heap_clear_rest (b := g) (ints ys) (off + xs.length) w
        exact ⟨r2, r3, r4, by omega, fun k _ hk => heap_clear_other (fun e => hk (by simp [Value.ownBlock, e])) _ _ _⟩
    · obtain ⟨v', w', hr, ho, hgr⟩ := run_append_arg_grows (P := Try.prog) w 34 34 3 i0 _ 1 8 Try.underlying34 hi hz0 hz1 hz2 rfl (by decide) ⟨g, off, none⟩ xs.length cap (ints xs) (by simp [ints])
        (fun j u hu => by
          simp only [ints, List.getElem?_map, Option.map_eq_some_iff] at hu
          obtain ⟨x, hx', rfl⟩ := hu
          have := hx j x hx'
          rw [show (⟨g, off, none⟩ : Addr).add j = ⟨g, off + j, none⟩ by cases j <;> simp [Addr.add]]
          simp [World.cell?, hg, this])
        a ys.length c (ints ys) (by simp [ints]) hnews (by omega) (by unfold maxLen; omega) (by omega)
      refine ⟨v', w', hr, ?_, ⟨hgr.os, hgr.tape, hgr.output, hgr.size, fun k hk _ => hgr.block k hk (by simp)⟩, ?_⟩
      · have ho' : w'.ownsRow w.heap.size 3 1 v' (xs ++ ys).length (ints (xs ++ ys)) := by rw [List.length_append, show ints (xs ++ ys) = ints xs ++ ints ys by simp [ints]]; exact ho
        rcases (Qs.of_row ho').form with h | ⟨g2, o2, c2, cur2, f1, f2, f3⟩
        · exact ⟨.inl h⟩
        · exact ⟨.inr ⟨g2, o2, c2, cur2, f1, by omega, f3⟩⟩
      · exact .inr (fun g' hg' => (ho.lt g' hg').1)
/-- One is put behind. -/
theorem Qs.app1 (Q : Qs w B v xs) (hB : B ≤ w.heap.size) {b : Nat} {y : Int} (hb : w.heap[b]? = some (.cells #[.int .i64 y] 3 (0, 0))) (hl : xs.length < 1000000000) :
    ∃ v' w', (Builtin.append_ #[34, 34] 34 #[v, .slice (some ⟨b, 0, none⟩) 1 1]).run Try.prog w = .ok v' w' ∧ Qs w' B v' (xs ++ [y]) ∧ w.grownBy w' v.ownBlock ∧ (v'.ownBlock = v.ownBlock ∨ ∀ g, v'.ownBlock = some g → w.heap.size ≤ g) :=
  Q.app hB (a := ⟨b, 0, none⟩) (c := 1) (ys := [y]) (by simp) (fun j y' hy => by
    cases j with
    | zero => simp at hy; subst hy; simp [Addr.add, World.cell?, hb]
    | succ j => simp at hy) (by simp; omega)
/-- The first one, and what is left. -/
theorem Qs.pop {x : Int} (Q : Qs w B v (x :: xs)) : ∃ g off cap, v = .slice (some ⟨g, off, none⟩) (xs.length + 1) cap ∧ w.cell? ⟨g, off, none⟩ = some (.int .i64 x) ∧ xs.length + 1 ≤ cap ∧ Qs w B (.slice (some ⟨g, off + 1, none⟩) xs.length (cap - 1)) xs ∧ (cap = 1 → Qs w B (.slice (some ⟨g, off, none⟩) xs.length 0) xs) := by
  rcases Q.form with ⟨_, h⟩ | ⟨g, off, cap, cur, rfl, hBg, hg, hcs, hlc, hx⟩
  · cases h
  · have h0 := hx 0 x rfl
    rw [Nat.add_zero] at h0
    simp at hlc
    refine ⟨g, off, cap, by simp, by simp [World.cell?, hg, h0], hlc, ⟨.inr ⟨g, off + 1, cap - 1, cur, rfl, hBg, hg, by omega, by omega, fun j y hy => ?_⟩⟩, fun hc => ⟨.inr ⟨g, off, 0, cur, rfl, hBg, hg, by omega, by omega, fun j y hy => ?_⟩⟩⟩
    · rw [show off + 1 + j = off + (j + 1) by omega]
      exact hx (j + 1) y (by simpa using hy)
    · have := get_lt hy; omega
end
end Go.Proofs.Ytaejhppfcmeopaa
