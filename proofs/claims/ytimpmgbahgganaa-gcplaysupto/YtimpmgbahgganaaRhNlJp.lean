/- The document's Make of a heap: an object more, or none. -/
import Derived.Test.YtimpmgbahgganaaRhLJp
namespace Go.Proofs.Ytimpmgbahgganaa
open Go.RowKit Go.Maps
attribute [local go_sem ↓] Go.wp_at_zero Go.wp_at_succ

section
variable {B : Nat} {w w' : World} {q : Rh} {vt vp vs vo : Value} {h : Hs}
abbrev zA : Obj := .cells #[.int .i64 0, .int .i64 0, .slice none 0 0, .int .i64 0, .slice none 0 0] 33
/-- The boxes of Make: the heap's, the result's, the object's. -/
structure Mk (w w' : World) (q : Rh) (vt vp vs vo : Value) (o : Ro) : Prop where
  two : Two7 w w' q vt vp vs vo
  bo : Bo w' (w.heap.size + 1 + 1) o
theorem Mk.under {w'' : World} {o : Ro} (M : Mk w w' q vt vp vs vo o) (hb : Below w'.heap.size w' w'') : Mk w w'' q vt vp vs vo o := ⟨M.two.under hb, (hb.block _ (lt_of_block M.bo)).trans M.bo⟩
theorem Mk.cells {o : Ro} (M : Mk w w' q vt vp vs vo o) : (w'.cell? ⟨w.heap.size, 0, none⟩ = some vt ∧ w'.cell? ⟨w.heap.size, 1, none⟩ = some (.int .i64 q.r.wd) ∧ w'.cell? ⟨w.heap.size, 2, none⟩ = some (.int .i64 q.r.ln) ∧ w'.cell? ⟨w.heap.size, 3, none⟩ = some vp ∧ w'.cell? ⟨w.heap.size, 4, none⟩ = some (.int .i64 q.r.fd) ∧ w'.cell? ⟨w.heap.size, 5, none⟩ = some vs ∧ w'.cell? ⟨w.heap.size, 6, none⟩ = some vo ∧
    w'.cell? ⟨w.heap.size + 1 + 1, 0, none⟩ = some (.int .i64 o.a) ∧ w'.cell? ⟨w.heap.size + 1 + 1, 1, none⟩ = some (.int .i64 o.t) ∧ w'.cell? ⟨w.heap.size + 1 + 1, 2, none⟩ = some (.int .i64 o.n)) := by
  obtain ⟨d0, d1, d2, d3, d4, d5, d6⟩ := c7_of M.two.bx
  obtain ⟨e0, e1, e2⟩ := c3_of M.bo
  exact ⟨d0, d1, d2, d3, d4, d5, d6, e0, e1, e2⟩
theorem bel_al {a w : World} (h : Below a.heap.size a w) (o : Obj) : Below a.heap.size a (w.alloc o) := h.alloc h.size o
theorem bel_dr {a w : World} (h : Below a.heap.size a w) : Below a.heap.size a w.drew := h.drew
theorem bel_tr {a w w' : World} (hb : Below w.heap.size w w') (h : Below a.heap.size a w) : Below a.heap.size a w' := h.trans (hb.mono h.size)
theorem bel_st {a w : World} {p : Addr} {u : Value} (hp : a.heap.size ≤ p.block) (h : Below a.heap.size a w) : Below a.heap.size a (w.setCell p u) := h.setCell hp u
theorem c5_of {w : World} {b : Nat} {v0 v1 v2 v3 v4 : Value} {t : TypeId} (h : w.heap[b]? = some (.cells #[v0, v1, v2, v3, v4] t (0, 0))) : (w.cell? ⟨b, 0, none⟩ = some v0 ∧ w.cell? ⟨b, 1, none⟩ = some v1 ∧ w.cell? ⟨b, 2, none⟩ = some v2 ∧ w.cell? ⟨b, 3, none⟩ = some v3 ∧ w.cell? ⟨b, 4, none⟩ = some v4) ∧ w.frozen? ⟨b, 0, none⟩ = false ∧ w.frozen? ⟨b, 1, none⟩ = false ∧ w.frozen? ⟨b, 2, none⟩ = false ∧ w.frozen? ⟨b, 3, none⟩ = false ∧ w.frozen? ⟨b, 4, none⟩ = false := by
  simp [World.cell?, World.frozen?, h]
/-- What holds behind the document's Alloc. -/
structure Mk6 (B : Nat) (w wc : World) (q : Rh) (vt vp vs vo : Value) (o : Ro) (h : Hs) (p e a : Value) : Prop where
  ex : ∃ (x c : Int) (r' : Rs) (vp' vs' : Value) (bb : Nat), p = .int .i64 x ∧ e = .int .i64 c ∧ a = .pointer (some ⟨bb, 0, none⟩) ∧ AlS h.s q.r vp vs (ow q o) x c r' vp' vs' ∧ Mk w wc q vt vp vs vo o ∧ w.heap.size + 1 + 1 < bb ∧
    wc.heap[bb]? = some (.cells #[.int .i64 r'.wd, .int .i64 r'.ln, vp', .int .i64 r'.fd, vs'] 33 (0, 0)) ∧ RL B wc r' vp' vs' ∧ (∀ g, vp'.ownBlock = some g → (vp.ownBlock = some g ∨ w.heap.size + 1 + 1 < g) ∧ g ≠ bb) ∧ (∀ g, vs'.ownBlock = some g → (vs.ownBlock = some g ∨ w.heap.size + 1 + 1 < g) ∧ g ≠ bb)
theorem set5A_other (w : World) (b j : Nat) (v0 v1 v2 v3 v4 : Value) (hj : j ≠ b) : (((((w.setCell ⟨b, 0, none⟩ v0).setCell ⟨b, 1, none⟩ v1).setCell ⟨b, 2, none⟩ v2).setCell ⟨b, 3, none⟩ v3).setCell ⟨b, 4, none⟩ v4).heap[j]? = w.heap[j]? := by
  rw [Below.heap_setCell _ _ _ _ hj, Below.heap_setCell _ _ _ _ hj, Below.heap_setCell _ _ _ _ hj, Below.heap_setCell _ _ _ _ hj, Below.heap_setCell _ _ _ _ hj]
theorem set5A_same {w : World} {b : Nat} {a0 a1 a2 a3 a4 : Value} {t : TypeId} (h : w.heap[b]? = some (.cells #[a0, a1, a2, a3, a4] t (0, 0))) (v0 v1 v2 v3 v4 : Value) : (((((w.setCell ⟨b, 0, none⟩ v0).setCell ⟨b, 1, none⟩ v1).setCell ⟨b, 2, none⟩ v2).setCell ⟨b, 3, none⟩ v3).setCell ⟨b, 4, none⟩ v4).heap[b]? = some (.cells #[v0, v1, v2, v3, v4] t (0, 0)) := by
  have h1 := heap_setCell_same w b 0 v0 h
  have h2 := heap_setCell_same _ b 1 v1 h1
  have h3 := heap_setCell_same _ b 2 v2 h2
  have h4 := heap_setCell_same _ b 3 v3 h3
  have h5 := heap_setCell_same _ b 4 v4 h4
  rw [h5]; rfl
theorem mk6_new {W2 Wc w4 : World} {o : Ro} {x c : Int} {r' : Rs} {vp' vs' : Value} (M : Mk w W2 q vt vp vs vo o) (hz : W2.heap.size = w.heap.size + 1 + 1 + 1) (hb : Below W2.heap.size W2 w4) (hro : ROut B Wc vp vs r' vp' vs' w4) (hWc : W2.heap.size ≤ Wc.heap.size) (hal : AlS h.s q.r vp vs (ow q o) x c r' vp' vs') :
    Mk6 B w (w4.alloc (.cells #[.int .i64 r'.wd, .int .i64 r'.ln, vp', .int .i64 r'.fd, vs'] 33)) q vt vp vs vo o h (.int .i64 x) (.int .i64 c) (.pointer (some ⟨w4.heap.size, 0, none⟩)) := by
  have h4 := hb.size
  refine ⟨x, c, r', vp', vs', w4.heap.size, rfl, rfl, rfl, hal, M.under (bel_al hb _), by omega, heap_new _ _ rfl, hro.rl.alloc _, fun g hg => ⟨(hro.fp g hg).imp id fun h1 => by omega, fun e => ?_⟩, fun g hg => ⟨(hro.fs g hg).imp id fun h1 => by omega, fun e => ?_⟩⟩
  · have := (hro.rl.pcs.lt g hg).2; omega
  · have := (hro.rl.sto.lt g hg).2; omega
theorem mk6_set {W2 Wc w4 : World} {o : Ro} {x c : Int} {r' : Rs} {vp' vs' : Value} {bb : Nat} {a0 a1 a2 a3 a4 : Value} (M : Mk w W2 q vt vp vs vo o) (hz : W2.heap.size = w.heap.size + 1 + 1 + 1) (R : RL B w q.r vp vs) (hb : Below W2.heap.size W2 w4) (hro : ROut B Wc vp vs r' vp' vs' w4) (hWc : W2.heap.size ≤ Wc.heap.size) (hal : AlS h.s q.r vp vs (ow q o) x c r' vp' vs')
    (h1 : W2.heap.size ≤ bb) (h2 : bb < Wc.heap.size) (hbb : w4.heap[bb]? = some (.cells #[a0, a1, a2, a3, a4] 33 (0, 0))) :
    Mk6 B w (((((w4.setCell ⟨bb, 0, none⟩ (.int .i64 r'.wd)).setCell ⟨bb, 1, none⟩ (.int .i64 r'.ln)).setCell ⟨bb, 2, none⟩ vp').setCell ⟨bb, 3, none⟩ (.int .i64 r'.fd)).setCell ⟨bb, 4, none⟩ vs') q vt vp vs vo o h (.int .i64 x) (.int .i64 c) (.pointer (some ⟨bb, 0, none⟩)) := by
  have hne : ∀ g, (vp'.ownBlock = some g ∨ vs'.ownBlock = some g) → g ≠ bb := fun g hg e => by
    subst e
    rcases hg with hg | hg
    · rcases hro.fp g hg with h3 | h3
      · have := (R.pcs.lt g h3).2; omega
      · omega
    · rcases hro.fs g hg with h3 | h3
      · have := (R.sto.lt g h3).2; omega
      · omega
  refine ⟨x, c, r', vp', vs', bb, rfl, rfl, rfl, hal, M.under (bel_st h1 (bel_st h1 (bel_st h1 (bel_st h1 (bel_st h1 hb))))), by omega, set5A_same hbb _ _ _ _ _, ?_, fun g hg => ⟨(hro.fp g hg).imp id fun h3 => by omega, hne g (.inl hg)⟩, fun g hg => ⟨(hro.fs g hg).imp id fun h3 => by omega, hne g (.inr hg)⟩⟩
  exact hro.rl.keep (fun g hg => set5A_other _ _ _ _ _ _ _ _ (hne g (.inl hg))) (fun g hg => set5A_other _ _ _ _ _ _ _ _ (hne g (.inr hg))) (by simp)
end
end Go.Proofs.Ytimpmgbahgganaa
