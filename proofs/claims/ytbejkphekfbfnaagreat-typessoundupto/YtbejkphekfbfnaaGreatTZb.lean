/- Known, takes, Assignable of awake's type; Of; awake. -/
import Derived.Test.YtbejkphekfbfnaaGreatTZa
namespace Go.Proofs.YtbejkphekfbfnaaGreat
open Go.RowKit
attribute [local go_sem ↓] Go.wp_at_zero Go.wp_at_succ

theorem cells_PT (m : Nat) {W : World} {b : Nat} (hb : W.heap[b]? = some (.cells #[.int .i64 5, .string ⟨#[]⟩, .int .i64 0, .slice (some ⟨m, 0, none⟩) 1 1] 27 (0, 0))) : ∀ (j : Nat) u, (cellsOf [PT] [.slice (some ⟨m, 0, none⟩) 1 1])[j]? = some u → W.cell? ⟨b, 0 + j, none⟩ = some u := fun j u hj => by
  rw [Nat.zero_add, Lib.cell_of_heap hb]
  match j, hj with
  | 0, hj => exact hj
  | 1, hj => exact hj
  | 2, hj => exact hj
  | 3, hj => exact hj
set_option maxHeartbeats 1000000 in
theorem knownNil (m : Nat) (w : World) (h : PI w m) : Calls Tryz.prog 19 #[.slice none 0 0, .agg #[.int .i64 5, .string ⟨#[]⟩, .int .i64 0, .slice (some ⟨m, 0, none⟩) 1 1]] w fun e w' => e = .returned (.bool true) ∧ Below w.heap.size w w' := by
  have hX0 := Hxt.start (w := w) (c0 := .int .i64 5) (c1 := .string ⟨#[]⟩) (c2 := .int .i64 0) (c3 := .slice (some ⟨m, 0, none⟩) 1 1)
  have hX1 := hX0.next ((Below.refl _ _).alloc (Nat.le_refl _) (.cells #[.int .i64 5, .string ⟨#[]⟩, .int .i64 0, .slice (some ⟨m, 0, none⟩) 1 1] 27))
  have hb := heap_alloc_new (w.alloc (.cells #[.int .i64 5, .string ⟨#[]⟩, .int .i64 0, .slice (some ⟨m, 0, none⟩) 1 1] 27)) (.cells #[.int .i64 5, .string ⟨#[]⟩, .int .i64 0, .slice (some ⟨m, 0, none⟩) 1 1] 27)
  have cO := openNil [PT] [.slice (some ⟨m, 0, none⟩) 1 1] rfl _ _ 1 (by simp) (cells_PT m hb) (fun k t sl ht hs => by
      match k, ht, hs with
      | 0, ht, hs => cases ht; cases hs; exact (h.later hX1.out).ty
      | k + 1, ht, hs => simp at ht) (by simp)
  rw [show [PT].all soundP = true by rw [List.all_cons, sound_PT]; rfl, show [PT].length = 1 from rfl, World.size_alloc] at cO
  have HP := Lib.hid h
  clear h hb hX0
  go_enter Tryz.func19, Tryz.ntmps19
  go_wp2_with fail
  refine cO.mono ?_
  rintro e w1 ⟨rfl, hb1⟩
  have hX2 := hX1.next (hb1.mono (by simp))
  obtain ⟨x0, x1, x2, x3⟩ := hX2.cells
  have cK := knownPtr (w.heap.size + 1 + 1) m w1 (HP.out.later hX2.out)
  clear cO hb1 hX1
  go_wp2_with fail
  refine cK.mono ?_
  rintro e w2 ⟨rfl, hb2⟩
  have hX3 := hX2.next hb2
  clear cK hb2
  go_wp2
  go_ret
  exact ⟨rfl, hX3.out⟩
set_option maxHeartbeats 1000000 in
theorem takesSame (r m : Nat) (w : World) (h : PI w m) : Calls Tryz.prog 59 #[.map (some r), .agg #[.int .i64 5, .string ⟨#[]⟩, .int .i64 0, .slice (some ⟨m, 0, none⟩) 1 1], .agg #[.int .i64 5, .string ⟨#[]⟩, .int .i64 0, .slice (some ⟨m, 0, none⟩) 1 1]] w fun e w' => e = .returned (.bool true) ∧ Below w.heap.size w w' := by
  have hX0 := Hyt.start (w := w) (c0 := .int .i64 5) (c1 := .string ⟨#[]⟩) (c2 := .int .i64 0) (c3 := .slice (some ⟨m, 0, none⟩) 1 1) (d0 := .int .i64 5) (d1 := .string ⟨#[]⟩) (d2 := .int .i64 0) (d3 := .slice (some ⟨m, 0, none⟩) 1 1)
  have hT := (h.later hX0.out).ty
  have cS := same4_any 100 5 [] 0 [IT] 5 [] 0 [IT] (some ⟨m, 0, none⟩) 1 (some ⟨m, 0, none⟩) 1 _ _ _ (sound_lim sound_PT) (fun _ h => h) (fun _ h => h) hT.kt hT.kt
  rw [show sameT (.mk 5 [] 0 [IT]) (.mk 5 [] 0 [IT]) = true by decide, show [IT].length = 1 from rfl] at cS
  clear hT h
  go_enter Tryz.func59, Tryz.ntmps59
  go_wp2_with fail
  refine cS.mono ?_
  rintro e w1 ⟨rfl, hb1⟩
  have hX := hX0.next hb1
  clear cS hb1 hX0
  go_wp2
  go_ret
  exact ⟨rfl, hX.out⟩
theorem cells_PT2 (m : Nat) {W : World} {b : Nat} (hb : W.heap[b]? = some (.cells #[.int .i64 5, .string ⟨#[]⟩, .int .i64 0, .slice (some ⟨m, 0, none⟩) 1 1, .int .i64 5, .string ⟨#[]⟩, .int .i64 0, .slice (some ⟨m, 0, none⟩) 1 1] 27 (0, 0))) : ∀ (j : Nat) u, (cellsOf [PT, PT] [.slice (some ⟨m, 0, none⟩) 1 1, .slice (some ⟨m, 0, none⟩) 1 1])[j]? = some u → W.cell? ⟨b, 0 + j, none⟩ = some u := fun j u hj => by
  rw [Nat.zero_add, Lib.cell_of_heap hb]
  match j, hj with
  | 0, hj => exact hj
  | 1, hj => exact hj
  | 2, hj => exact hj
  | 3, hj => exact hj
  | 4, hj => exact hj
  | 5, hj => exact hj
  | 6, hj => exact hj
  | 7, hj => exact hj
set_option maxHeartbeats 1000000 in
theorem assignNil (m : Nat) (w : World) (h : PI w m) : Calls Tryz.prog 26 #[.slice none 0 0, .agg #[.int .i64 5, .string ⟨#[]⟩, .int .i64 0, .slice (some ⟨m, 0, none⟩) 1 1], .agg #[.int .i64 5, .string ⟨#[]⟩, .int .i64 0, .slice (some ⟨m, 0, none⟩) 1 1]] w fun e w' => e = .returned (.bool true) ∧ Below w.heap.size w w' := by
  have hX0 := Hyt.start (w := w) (c0 := .int .i64 5) (c1 := .string ⟨#[]⟩) (c2 := .int .i64 0) (c3 := .slice (some ⟨m, 0, none⟩) 1 1) (d0 := .int .i64 5) (d1 := .string ⟨#[]⟩) (d2 := .int .i64 0) (d3 := .slice (some ⟨m, 0, none⟩) 1 1)
  have hX1 := hX0.next ((Below.refl _ _).alloc (Nat.le_refl _) (.cells #[.int .i64 5, .string ⟨#[]⟩, .int .i64 0, .slice (some ⟨m, 0, none⟩) 1 1, .int .i64 5, .string ⟨#[]⟩, .int .i64 0, .slice (some ⟨m, 0, none⟩) 1 1] 27))
  have hb := heap_alloc_new ((w.alloc (.cells #[.int .i64 5, .string ⟨#[]⟩, .int .i64 0, .slice (some ⟨m, 0, none⟩) 1 1] 27)).alloc (.cells #[.int .i64 5, .string ⟨#[]⟩, .int .i64 0, .slice (some ⟨m, 0, none⟩) 1 1] 27)) (.cells #[.int .i64 5, .string ⟨#[]⟩, .int .i64 0, .slice (some ⟨m, 0, none⟩) 1 1, .int .i64 5, .string ⟨#[]⟩, .int .i64 0, .slice (some ⟨m, 0, none⟩) 1 1] 27)
  have cO := openNil [PT, PT] [.slice (some ⟨m, 0, none⟩) 1 1, .slice (some ⟨m, 0, none⟩) 1 1] rfl _ _ 2 (by simp) (cells_PT2 m hb) (fun k t sl ht hs => by
      match k, ht, hs with
      | 0, ht, hs => cases ht; cases hs; exact (h.later hX1.out).ty
      | 1, ht, hs => cases ht; cases hs; exact (h.later hX1.out).ty
      | k + 2, ht, hs => simp at ht) (by simp)
  rw [show [PT, PT].all soundP = true by rw [List.all_cons, sound_PT, List.all_cons, sound_PT]; rfl, show [PT, PT].length = 2 from rfl, World.size_alloc, World.size_alloc] at cO
  have HP := Lib.hid h
  clear h hb hX0
  go_enter Tryz.func26, Tryz.ntmps26
  go_wp2_with fail
  refine cO.mono ?_
  rintro e w1 ⟨rfl, hb1⟩
  have hX2 := hX1.next (hb1.mono (by simp))
  obtain ⟨x0, x1, x2, x3, y0, y1, y2, y3⟩ := hX2.cells
  have cK := knownPtr (w.heap.size + 1 + 1 + 1) m w1 (HP.out.later hX2.out)
  clear cO hb1 hX1
  go_wp2_with fail
  refine cK.mono ?_
  rintro e w2 ⟨rfl, hb2⟩
  have hX3 := hX2.next hb2
  obtain ⟨p0, p1, p2, p3, q0, q1, q2, q3⟩ := hX3.cells
  have cT := takesSame (w.heap.size + 1 + 1 + 1) m w2 (HP.out.later hX3.out)
  clear cK hb2 x0 x1 x2 x3 y0 y1 y2 y3
  go_wp2_with fail
  refine cT.mono ?_
  rintro e w3 ⟨rfl, hb3⟩
  have hX4 := hX3.next hb3
  clear cT hb3
  go_wp2
  go_ret
  exact ⟨rfl, hX4.out⟩
end Go.Proofs.YtbejkphekfbfnaaGreat
