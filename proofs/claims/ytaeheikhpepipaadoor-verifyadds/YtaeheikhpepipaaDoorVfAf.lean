/- VerifyAdds: the appends of the law. -/
import Derived.Test.YtaeheikhpepipaaDoorVfAd
namespace Go.Proofs.YtaeheikhpepipaaDoor
open Go.RowKit
theorem info_str : (Tryd.prog.info? 9).map (fun i => (i.zero, i.size, i.bytes)) = some (some (.string ⟨#[]⟩), 1, 16) := by kernel_rfl
theorem info_ints : (Tryd.prog.info? 44).map (fun i => (i.zero, i.size, i.bytes)) = some (some (.slice none 0 0), 1, 24) := by kernel_rfl
theorem info_Lay : (Tryd.prog.info? 53).map (fun i => (i.zero, i.size, i.bytes)) = some (some (.agg #[.slice none 0 0]), 1, 24) := by kernel_rfl
theorem info_Fn : (Tryd.prog.info? 48).map (fun i => (i.zero, i.size, i.bytes)) = some (some (.agg #[.int .i64 0, .slice none 0 0, .slice none 0 0, .slice none 0 0, .slice none 0 0]), 5, 104) := by kernel_rfl
section
variable {W : World} {g T : Nat} {f : Nat × Nat}
theorem ints_one {a : Int} (h : W.heap[g]? = some (.cells #[.int .i64 a] T f)) (h1 : -9223372036854775808 ≤ a) (h2 : a ≤ 9223372036854775807) : SlAt 1 IntP W.heap.size W (.slice (some ⟨g, 0, none⟩) 1 1) [a] := by
  refine ⟨_, 1, rfl, ⟨by simp, by simp, by decide⟩, fun j x hx => ?_⟩
  match j, hx with
  | 0, hx =>
    cases hx
    refine ⟨g, 0, [.int .i64 a], rfl, lt_of_block h, fun r u hr => ?_, rfl, h1, h2⟩
    match r, hr with
    | 0, hr => cases hr; exact cell_of h rfl
theorem ins_one (h : W.heap[g]? = some (.cells #[.int .i64 24, .int .i64 0, .int .i64 0] T f)) : SlAt 3 InsP W.heap.size W (.slice (some ⟨g, 0, none⟩) 1 1) [⟨24, 0, 0⟩] := by
  refine ⟨_, 1, rfl, ⟨by decide, by decide, by decide⟩, fun j x hx => ?_⟩
  match j, hx with
  | 0, hx =>
    cases hx
    refine ⟨g, 0, [.int .i64 24, .int .i64 0, .int .i64 0], rfl, lt_of_block h, fun r u hr => ?_, rfl, ⟨by decide, by decide⟩, ⟨by decide, by decide⟩, ⟨by decide, by decide⟩⟩
    match r, hr with
    | 0, hr => cases hr; exact cell_of h rfl
    | 1, hr => cases hr; exact cell_of h rfl
    | 2, hr => cases hr; exact cell_of h rfl
end
section
variable {B b : Nat} {W4 : World} {v : Value}
theorem lst_len (w : World) (cs : List Value) (x : List Int) (h : LstP B w cs x) : cs.length = 1 := by obtain ⟨u, rfl, _⟩ := h; rfl
theorem lst_one (w : World) (cs : List Value) (x : List Int) (h : LstP B w cs x) : ∀ u ∈ cs, u.oneCell' = true := by
  obtain ⟨u, rfl, ao, cap, rfl, _⟩ := h
  intro u hu
  simp at hu
  subst hu
  rfl
theorem lst_keep (w w' : World) (B' : Nat) (cs : List Value) (x : List Int) (hB : B ≤ B') (h : ∀ j, j < B → w'.heap[j]? = w.heap[j]?) (hp : LstP B w cs x) : LstP B' w' cs x := by
  obtain ⟨u, h1, h2⟩ := hp
  exact ⟨u, h1, ints_keep hB h h2⟩
theorem fd_len (w : World) (cs : List Value) (x : Fd) (h : FdP B w cs x) : cs.length = 5 := by obtain ⟨_, _, _, _, rfl, _⟩ := h; rfl
theorem fd_one (w : World) (cs : List Value) (x : Fd) (h : FdP B w cs x) : ∀ u ∈ cs, u.oneCell' = true := by
  obtain ⟨_, _, _, _, rfl, _, ⟨_, _, rfl, _⟩, ⟨_, _, rfl, _⟩, ⟨_, _, rfl, _⟩, ⟨_, _, rfl, _⟩⟩ := h
  intro u hu
  simp at hu
  rcases hu with rfl | rfl | rfl | rfl | rfl <;> rfl
theorem fd_keep (w w' : World) (B' : Nat) (cs : List Value) (x : Fd) (hB : B ≤ B') (h : ∀ j, j < B → w'.heap[j]? = w.heap[j]?) (hp : FdP B w cs x) : FdP B' w' cs x := by
  obtain ⟨a, b, c, d, h1, h2, h3, h4, h5, h6⟩ := hp
  exact ⟨a, b, c, d, h1, h2, ints_keep hB h h3, ints_keep hB h h4, ints_keep hB h h5, ins_keep hB h h6⟩
def StrQ (_ : Nat) (w : World) (cs : List Value) (s : By) : Prop := StrP w cs s
theorem two_ty {l : List (List Int)} (R : SlAt 1 (LstP B) B W4 v l) (hlen : l.length ≤ 900) (hBb : B ≤ b) (hb : b < W4.heap.size) :
    ∃ (v5 : Value) (W6 : World) (a8 : Option Addr) (c8 : Nat) (W8 : World), (Builtin.append_ #[22, 22] 22 #[.slice (some ⟨W4.heap.size, 0, none⟩) 0 0, v]).run Tryd.prog (W4.alloc (.cells #[] 53)) = .ok v5 W6 ∧ W4.heap.size < W6.heap.size ∧
      (Builtin.append_ #[22, 22] 22 #[v5, .slice (some ⟨W6.heap.size + 1, 0, none⟩) 1 1]).run Tryd.prog ((W6.alloc (.cells #[.int .i64 2] 3)).alloc (.cells #[.slice (some ⟨W6.heap.size, 0, none⟩) 1 1] 53)) = .ok (.slice a8 (l.length + 1) c8) W8 ∧ Below W4.heap.size W4 W8 ∧ Fut 1 LstP b B W4 W8 (.slice a8 (l.length + 1) c8) (l ++ [[2]]) := by
  obtain ⟨i0, hi, hz0, hz1, hz2⟩ := info_parts info_Lay
  obtain ⟨v5, W6, r1, r2, r3, r4⟩ := app_two (P := LstP) (b := b) Tryd.underlying22 hi hz0 hz1 hz2 rfl (by decide) R lst_len lst_one lst_keep hlen (by decide) hBb hb
  obtain ⟨W7, hW7⟩ : ∃ W7, (W6.alloc (.cells #[.int .i64 2] 3)).alloc (.cells #[.slice (some ⟨W6.heap.size, 0, none⟩) 1 1] 53) = W7 := ⟨_, rfl⟩
  have e1 : W7.heap[W6.heap.size]? = some (.cells #[.int .i64 2] 3 (0, 0)) := by rw [← hW7, heap_alloc_old _ _ (by simp)]; exact heap_new _ _ rfl
  have e2 : W7.heap[W6.heap.size + 1]? = some (.cells #[.slice (some ⟨W6.heap.size, 0, none⟩) 1 1] 53 (0, 0)) := by rw [← hW7]; exact heap_new _ _ (by simp)
  have b7 : Below W6.heap.size W6 W7 := by rw [← hW7]; exact ((Below.refl _ _).alloc (Nat.le_refl _) _).alloc (by simp) _
  obtain ⟨a8, c8, W8, q1, q2, q3⟩ := r4 W7 (W6.heap.size + 1) _ _ _ [2] b7 (by omega) e2 rfl (by intro u hu; simp at hu; subst hu; rfl) (fun W h1 h2 => ⟨_, rfl, ints_one ((h2 _ (Nat.le_refl _) (lt_of_block e1)).trans e1) (by decide) (by decide)⟩)
  exact ⟨v5, W6, a8, c8, W8, r1, r3, by rw [hW7]; exact q1, q2, q3⟩
theorem two_fu {l : List Fd} (R : SlAt 5 (FdP B) B W4 v l) (hlen : l.length ≤ 900) (hBb : B ≤ b) (hb : b < W4.heap.size) :
    ∃ (v5 : Value) (W6 : World) (a8 : Option Addr) (c8 : Nat) (W8 : World), (Builtin.append_ #[23, 23] 23 #[.slice (some ⟨W4.heap.size, 0, none⟩) 0 0, v]).run Tryd.prog (W4.alloc (.cells #[] 48)) = .ok v5 W6 ∧ W4.heap.size < W6.heap.size ∧
      (Builtin.append_ #[23, 23] 23 #[v5, .slice (some ⟨W6.heap.size + 1, 0, none⟩) 1 1]).run Tryd.prog ((W6.alloc (.cells #[.int .i64 24, .int .i64 0, .int .i64 0] 50)).alloc (.cells #[.int .i64 0, .slice none 0 0, .slice none 0 0, .slice none 0 0, .slice (some ⟨W6.heap.size, 0, none⟩) 1 1] 48)) = .ok (.slice a8 (l.length + 1) c8) W8 ∧ Below W4.heap.size W4 W8 ∧ Fut 5 FdP b B W4 W8 (.slice a8 (l.length + 1) c8) (l ++ [moF]) := by
  obtain ⟨i0, hi, hz0, hz1, hz2⟩ := info_parts info_Fn
  obtain ⟨v5, W6, r1, r2, r3, r4⟩ := app_two (P := FdP) (b := b) Tryd.underlying23 hi hz0 hz1 hz2 rfl (by decide) R fd_len fd_one fd_keep hlen (by decide) hBb hb
  obtain ⟨W7, hW7⟩ : ∃ W7, (W6.alloc (.cells #[.int .i64 24, .int .i64 0, .int .i64 0] 50)).alloc (.cells #[.int .i64 0, .slice none 0 0, .slice none 0 0, .slice none 0 0, .slice (some ⟨W6.heap.size, 0, none⟩) 1 1] 48) = W7 := ⟨_, rfl⟩
  have e1 : W7.heap[W6.heap.size]? = some (.cells #[.int .i64 24, .int .i64 0, .int .i64 0] 50 (0, 0)) := by rw [← hW7, heap_alloc_old _ _ (by simp)]; exact heap_new _ _ rfl
  have e2 : W7.heap[W6.heap.size + 1]? = some (.cells #[.int .i64 0, .slice none 0 0, .slice none 0 0, .slice none 0 0, .slice (some ⟨W6.heap.size, 0, none⟩) 1 1] 48 (0, 0)) := by rw [← hW7]; exact heap_new _ _ (by simp)
  have b7 : Below W6.heap.size W6 W7 := by rw [← hW7]; exact ((Below.refl _ _).alloc (Nat.le_refl _) _).alloc (by simp) _
  obtain ⟨a8, c8, W8, q1, q2, q3⟩ := r4 W7 (W6.heap.size + 1) _ _ _ moF b7 (by omega) e2 rfl (by intro u hu; simp at hu; rcases hu with rfl | rfl | rfl <;> rfl) (fun W h1 h2 => ⟨_, _, _, _, rfl, ⟨by decide, by decide⟩, sl_nil, sl_nil, sl_nil, ins_one ((h2 _ (Nat.le_refl _) (lt_of_block e1)).trans e1)⟩)
  exact ⟨v5, W6, a8, c8, W8, r1, r3, by rw [hW7]; exact q1, q2, q3⟩
theorem two_st {l : List By} (R : SlAt 1 StrP B W4 v l) (hlen : l.length ≤ 900) (hBb : B ≤ b) (hb : b < W4.heap.size) :
    ∃ (v5 : Value) (W6 : World) (a8 : Option Addr) (c8 : Nat) (W8 : World), (Builtin.append_ #[25, 25] 25 #[.slice (some ⟨W4.heap.size, 0, none⟩) 0 0, v]).run Tryd.prog (W4.alloc (.cells #[] 9)) = .ok v5 W6 ∧ W4.heap.size < W6.heap.size ∧
      (Builtin.append_ #[25, 25] 25 #[v5, .slice (some ⟨W6.heap.size, 0, none⟩) 1 1]).run Tryd.prog (W6.alloc (.cells #[.string ⟨#[109, 111, 114, 101]⟩] 9)) = .ok (.slice a8 (l.length + 1) c8) W8 ∧ Below W4.heap.size W4 W8 ∧ Fut 1 StrQ b B W4 W8 (.slice a8 (l.length + 1) c8) (l ++ [moS]) := by
  obtain ⟨i0, hi, hz0, hz1, hz2⟩ := info_parts info_str
  obtain ⟨v5, W6, r1, r2, r3, r4⟩ := app_two (P := StrQ) (b := b) Tryd.underlying25 hi hz0 hz1 hz2 rfl (by decide) R (fun w cs x h => by unfold StrQ StrP at h; rw [h]; rfl) (fun w cs x h => by unfold StrQ StrP at h; rw [h]; intro u hu; simp at hu; subst hu; rfl) (fun w w' B' cs x _ _ h => h) hlen (by decide) hBb hb
  obtain ⟨W7, hW7⟩ : ∃ W7, W6.alloc (.cells #[.string ⟨#[109, 111, 114, 101]⟩] 9) = W7 := ⟨_, rfl⟩
  have e1 : W7.heap[W6.heap.size]? = some (.cells #[.string ⟨#[109, 111, 114, 101]⟩] 9 (0, 0)) := by rw [← hW7]; exact heap_new _ _ rfl
  have b7 : Below W6.heap.size W6 W7 := by rw [← hW7]; exact (Below.refl _ _).alloc (Nat.le_refl _) _
  obtain ⟨a8, c8, W8, q1, q2, q3⟩ := r4 W7 W6.heap.size _ _ _ moS b7 (Nat.le_refl _) e1 rfl (by intro u hu; simp at hu; subst hu; rfl) (fun W h1 h2 => rfl)
  exact ⟨v5, W6, a8, c8, W8, r1, r3, by rw [hW7]; exact q1, q2, q3⟩
theorem Fut.next {α : Type} {k : Nat} {P : Nat → World → List Value → α → Prop} {W8 Wn : World} {l : List α} (F : Fut k P b B W4 W8 v l) (hs : W8.heap.size ≤ Wn.heap.size) (h1 : ∀ j, b < j → j < W8.heap.size → Wn.heap[j]? = W8.heap[j]?) (h2 : ∀ j, j < B → Wn.heap[j]? = W4.heap[j]?) : Fut k P b B Wn Wn v l :=
  fun W f1 f2 f3 => F W (Nat.le_trans hs f1) (fun j g1 g2 => (f2 j g1 (Nat.lt_of_lt_of_le g2 hs)).trans (h1 j g1 g2)) (fun j hj => (f3 j hj).trans (h2 j hj))
/-- A store into the box. -/
theorem box_step {W8 : World} {c : Array Value} {T o : Nat} {f : Nat × Nat} {u : Value} (h : Below W4.heap.size W4 W8) (e : W4.heap[b]? = some (.cells c T f)) : (W8.setCell ⟨b, o, none⟩ u).heap[b]? = some (.cells (c.setIfInBounds o u) T f) ∧ W4.heap.size ≤ (W8.setCell ⟨b, o, none⟩ u).heap.size ∧ (W8.setCell ⟨b, o, none⟩ u).heap.size = W8.heap.size ∧ (∀ j, j ≠ b → (W8.setCell ⟨b, o, none⟩ u).heap[j]? = W8.heap[j]?) ∧ (∀ j, j ≠ b → j < W4.heap.size → (W8.setCell ⟨b, o, none⟩ u).heap[j]? = W4.heap[j]?) ∧ ((W8.setCell ⟨b, o, none⟩ u).os = W4.os ∧ (W8.setCell ⟨b, o, none⟩ u).tape = W4.tape ∧ (W8.setCell ⟨b, o, none⟩ u).output = W4.output) := by
  have e8 := (h.block _ (lt_of_block e)).trans e
  have hsz : (W8.setCell ⟨b, o, none⟩ u).heap.size = W8.heap.size := by simp
  have ho : ∀ j, j ≠ b → (W8.setCell ⟨b, o, none⟩ u).heap[j]? = W8.heap[j]? := fun j hj => by simp [World.setCell, Array.getElem?_modify, Ne.symm hj]
  exact ⟨heap_setCell_same W8 b o u e8, by rw [hsz]; exact h.size, hsz, ho, fun j h1 h2 => (ho j h1).trans (h.block j h2), h.os, h.tape, h.output⟩
end
end Go.Proofs.YtaeheikhpepipaaDoor
