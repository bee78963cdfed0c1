/- GcKeeps: what holds at the heads of its loops. -/
import Derived.Test.YtfhaiopgnllknaaKpC
namespace Go.Proofs.Ytfhaiopgnllknaa
open Go.RowKit Go.Maps

/-- A list of two-byte numbers that is an argument. -/
def B16 (w : World) (v : Value) (l : List Nat) : Prop :=
  ∃ ao cap, v = .slice ao l.length cap ∧ ∀ (j u : Nat), l[j]? = some u → u ≤ 65535 ∧ ∃ g o, ao = some ⟨g, o, none⟩ ∧ g < w.heap.size ∧ w.cell? ⟨g, o + j, none⟩ = some (.int .u16 u)
/-- The objects' addresses. -/
def ats (m : Nat) : List Int := (List.range m).map fun i => ((6 * i + 1 : Nat) : Int)
theorem ats_len (m : Nat) : (ats m).length = m := by simp [ats]
theorem ats_get {m j : Nat} (h : j < m) : (ats m)[j]? = some ((6 * j + 1 : Nat) : Int) := by simp [ats, h]
theorem ats_snoc (m : Nat) : ats m ++ [((6 * m + 1 : Nat) : Int)] = ats (m + 1) := by simp [ats, List.range_succ]
theorem upd_upd {α : Type} (f : Nat → α) (c : Nat) (u v : α) : upd (upd f c u) c v = upd f c v := by
  funext d
  unfold upd
  split <;> rfl
/-- The lists when m objects are made. -/
def T1 (m : Nat) : Nat → List Int := upd (fun _ => []) 20 (ats m)
theorem T1_at (m : Nat) : T1 m 20 = ats m := upd_same _ _ _
structure J1 (W wr : World) (H : Nat) (va i : Value) : Prop where
  ex : ∃ (m : Nat) (h : Hs) (vs : Nat → Value), m ≤ 20 ∧ i = .int .i64 m ∧ va = vs 20 ∧ (∀ j, j ≠ 20 → vs j = nilv) ∧ Ks h m m wl0 ∧ Me W wr H h (2 * m) [] vs (T1 m)
theorem J1.new {W w : World} {H : Nat} (P : Hp W w H (newH [[0, 2, 2]] 3000) 0) : J1 W (w.alloc (.cells #[] 3)) H (.slice (some ⟨w.heap.size, 0, none⟩) 0 0) (.int .i64 0) := by
  have M := ((Me.new P).list (j := 20) (xs := []) rfl).1
  refine ⟨0, _, _, Nat.zero_le _, rfl, (upd_same _ _ _).symm, fun j hj => upd_other _ _ hj, ks_new, ?_⟩
  exact M
/-- At the head of the second loop. -/
structure J2 (W wr : World) (H gT gW n0 : Nat) (vs : Nat → Value) (i : Value) : Prop where
  ex : ∃ (j : Nat) (h : Hs) (wl : List Int), j ≤ n0 ∧ j ≤ 60 ∧ i = .int .i64 j ∧ Ks h 20 20 wl ∧ Wl wl ∧ Me W wr H h 40 [gW, gT] vs (T1 20) ∧ wr.heap[gW]? = some (.cells (ints wl).toArray 3 (0, 0)) ∧ wr.heap[gT]? = some (.cells (Array.replicate 20 nilv) 31 (0, 0))
theorem J2.new {W w : World} {H n0 : Nat} {h : Hs} {vs : Nat → Value} (K : Ks h 20 20 wl0) (M : Me W w H h (2 * 20) [] vs (T1 20)) : J2 W ((w.alloc (.cells (Array.replicate 20 nilv) 31)).alloc (.cells (ints wl0).toArray 3)) H w.heap.size (w.heap.size + 1) n0 vs (.int .i64 0) := by
  have M1 := (M.fix (.cells (Array.replicate 20 nilv) 31)).1
  have M2 := (M1.fix (.cells (ints wl0).toArray 3)).1
  refine ⟨0, h, wl0, Nat.zero_le _, by decide, rfl, K, wl0_ok, ?_, heap_new _ _ (by simp), ?_⟩
  · simpa using M2
  · rw [Below.heap_alloc _ _ _ (by simp), heap_new _ _ rfl]
theorem Me.addr {W w : World} {H k g off cap j : Nat} {h : Hs} {fb : List Nat} {vs : Nat → Value} {T : Nat → List Int} (M : Me W w H h k fb vs T) (hT : T 20 = ats 20) (hv : vs 20 = .slice (some ⟨g, off, none⟩) 20 cap) (hj : j < 20) : w.cell? ⟨g, off + j, none⟩ = some (.int .i64 ((6 * j + 1 : Nat) : Int)) := by
  obtain ⟨g', off', cap', e1, e2⟩ := M.cell (i := 20) (j := j) (x := ((6 * j + 1 : Nat) : Int)) (by rw [hT]; exact ats_get hj)
  rw [hv, hT, ats_len] at e1
  cases e1
  exact e2
theorem Me.addrs {W w : World} {H k : Nat} {h : Hs} {fb : List Nat} {vs : Nat → Value} {T : Nat → List Int} (M : Me W w H h k fb vs T) (hT : T 20 = ats 20) : ∃ g off cap, vs 20 = .slice (some ⟨g, off, none⟩) 20 cap := by
  obtain ⟨g', off', cap', e1, _⟩ := M.cell (i := 20) (j := 0) (x := ((6 * 0 + 1 : Nat) : Int)) (by rw [hT]; exact ats_get (by decide))
  rw [hT, ats_len] at e1
  exact ⟨_, _, _, e1⟩
/-- Which field a link is set in. -/
theorem field (c : Nat) (hc : c < 4) : ∃ f : Nat, f < 6 ∧ f % 3 ≠ 0 ∧ (#[Value.int .i64 1, .int .i64 2, .int .i64 4, .int .i64 5] : Array Value)[c]? = some (.int .i64 f) := by
  have : c = 0 ∨ c = 1 ∨ c = 2 ∨ c = 3 := by omega
  rcases this with rfl | rfl | rfl | rfl
  · exact ⟨1, by decide, by decide, rfl⟩
  · exact ⟨2, by decide, by decide, rfl⟩
  · exact ⟨4, by decide, by decide, rfl⟩
  · exact ⟨5, by decide, by decide, rfl⟩
theorem word_cell {w : World} {g : Nat} {l : List Int} (hb : w.heap[g]? = some (.cells (ints l).toArray 3 (0, 0))) {q : Nat} (hq : q < l.length) : w.cell? ⟨g, q, none⟩ = some (.int .i64 (l.getD q 0)) ∧ w.frozen? ⟨g, q, none⟩ = false := by
  refine ⟨?_, by simp [World.frozen?, hb]⟩
  simp [World.cell?, hb, ints, List.getD_eq_getElem?_getD, List.getElem?_eq_getElem hq]
theorem word_set {w : World} {g : Nat} {l : List Int} (hb : w.heap[g]? = some (.cells (ints l).toArray 3 (0, 0))) (q : Nat) (v : Int) : (w.setCell ⟨g, q, none⟩ (.int .i64 v)).heap[g]? = some (.cells (ints (l.set q v)).toArray 3 (0, 0)) := by
  rw [heap_setCell_same w g q _ hb]
  congr 2
  simp [ints, List.map_set]
/-- Behind a link. -/
theorem J2.link {W w : World} {H gT gW n0 j q : Nat} {vs : Nat → Value} {h : Hs} {wl : List Int} {v : Int} (hj : j < n0) (hj2 : j < 60) (hne : gW = gT + 1) (K : Ks h 20 20 (wl.set q v)) (L : Wl (wl.set q v)) (M : Me W w H h 40 [gW, gT] vs (T1 20)) (bW : w.heap[gW]? = some (.cells (ints wl).toArray 3 (0, 0))) (bT : w.heap[gT]? = some (.cells (Array.replicate 20 nilv) 31 (0, 0))) : J2 W (w.setCell ⟨gW, q, none⟩ (.int .i64 v)) H gT gW n0 vs (.int .i64 ((j + 1 : Nat) : Int)) := by
  obtain ⟨M1, S1⟩ := M.store (g := gW) (by simp) q (.int .i64 v)
  exact ⟨j + 1, h, _, by omega, by omega, rfl, K, L, M1, word_set bW q v, (S1 gT (by omega)).trans bT⟩
theorem mkTo (w : World) : (Instr.makeSlice 63 (.int .i64 20) (.int .i64 20)).run Try.prog w = .ok (.slice (some ⟨w.heap.size, 0, none⟩) 20 20) (w.alloc (.cells (Array.replicate 20 nilv) 31)) := by kernel_rfl
theorem mkWord (w : World) : (Instr.makeSlice 31 (.int .i64 120) (.int .i64 120)).run Try.prog w = .ok (.slice (some ⟨w.heap.size, 0, none⟩) 120 120) (w.alloc (.cells (ints wl0).toArray 3)) := by kernel_rfl
theorem mkStays (w : World) : (Instr.makeSlice 65 (.int .i64 20) (.int .i64 20)).run Try.prog w = .ok (.slice (some ⟨w.heap.size, 0, none⟩) 20 20) (w.alloc (.cells (bools s0).toArray 4)) := by kernel_rfl
end Go.Proofs.Ytfhaiopgnllknaa
