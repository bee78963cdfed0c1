/- The program's typeOf and Of of the node that awake asks for. -/
import Derived.Test.YtbejkphekfbfnaaGreatTyY
namespace Go.Proofs.YtbejkphekfbfnaaGreat
open Go.RowKit
attribute [local go_sem ↓] Go.wp_at_zero Go.wp_at_succ

theorem namedInt (w : World) : Calls Tryz.prog 66 #[.string ⟨([105, 110, 116] : List UInt8).toArray⟩] w fun e w' => e = .returned (.agg #[.int .i64 1, .string ⟨#[]⟩, .int .i64 0, .slice none 0 0]) ∧ Below w.heap.size w w' := by
  have cK := kindOf_any [105, 110, 116] (w.alloc (.cells #[.int .i64 0, .string ⟨#[]⟩, .int .i64 0, .slice none 0 0] 27))
  rw [show kindP [105, 110, 116] = 1 by decide] at cK
  go_enter Tryz.func66, Tryz.ntmps66
  go_wp2_with fail
  refine cK.mono ?_
  rintro e w1 ⟨rfl, hw1⟩
  subst hw1
  clear cK
  go_wp2
  exact bodyPost_ret (v := .agg #[.int .i64 1, .string ⟨#[]⟩, .int .i64 0, .slice none 0 0]) (by simp [results, Tryz.results66, go_sem]) rfl ⟨rfl, (Below.refl _ _).alloc (Nat.le_refl _) _⟩
/-- A node's box: four cells that may be written. -/
def BoxT (w : World) (n : Nat) : Prop := ∃ c0 c1 c2 c3, w.heap[n]? = some (.cells #[c0, c1, c2, c3] 27 (0, 0))
theorem BoxT.of_block {w w' : World} {n : Nat} (h : BoxT w n) (hb : w'.heap[n]? = w.heap[n]?) : BoxT w' n := let ⟨c0, c1, c2, c3, e⟩ := h; ⟨c0, c1, c2, c3, hb.trans e⟩
theorem BoxT.new (w : World) (c0 c1 c2 c3 : Value) : BoxT (w.alloc (.cells #[c0, c1, c2, c3] 27)) w.heap.size := ⟨c0, c1, c2, c3, heap_alloc_new w _⟩
theorem BoxT.lt {w : World} {n : Nat} (h : BoxT w n) : n < w.heap.size := let ⟨_, _, _, _, e⟩ := h; lt_of_block e
theorem BoxT.open {w : World} {n : Nat} (h : BoxT w n) : ∃ c0 c1 c2 c3, w.cell? ⟨n, 0, none⟩ = some c0 ∧ w.cell? ⟨n, 1, none⟩ = some c1 ∧ w.cell? ⟨n, 2, none⟩ = some c2 ∧ w.cell? ⟨n, 3, none⟩ = some c3 ∧ ∀ o, w.frozen? ⟨n, o, none⟩ = false := by
  obtain ⟨c0, c1, c2, c3, e⟩ := h
  exact ⟨c0, c1, c2, c3, by simp [World.cell?, e], by simp [World.cell?, e], by simp [World.cell?, e], by simp [World.cell?, e], fun o => by simp [World.frozen?, e]⟩
theorem BoxT.below {B : Nat} {w w' : World} {n : Nat} (h : BoxT w n) (hb : Below B w w') (h1 : n < B) : BoxT w' n := h.of_block (hb.block n h1)

theorem putT4 {n : Nat} {W : World} (hB : BoxT W n) (v0 v1 v2 v3 : Value) :
    ∃ Wf, ((((W.setCell ⟨n, 0, none⟩ v0).setCell ⟨n, 1, none⟩ v1).setCell ⟨n, 2, none⟩ v2).setCell ⟨n, 3, none⟩ v3) = Wf ∧ Put n W Wf ∧ BoxT Wf n ∧
      (Wf.cell? ⟨n, 0, none⟩ = some v0 ∧ Wf.cell? ⟨n, 1, none⟩ = some v1 ∧ Wf.cell? ⟨n, 2, none⟩ = some v2 ∧ Wf.cell? ⟨n, 3, none⟩ = some v3) := by
  obtain ⟨c0, c1, c2, c3, e⟩ := hB
  have e4 : ((((W.setCell ⟨n, 0, none⟩ v0).setCell ⟨n, 1, none⟩ v1).setCell ⟨n, 2, none⟩ v2).setCell ⟨n, 3, none⟩ v3).heap[n]? = some (.cells #[v0, v1, v2, v3] 27 (0, 0)) := by
    rw [heap_setCell_same _ n 3 v3 (heap_setCell_same _ n 2 v2 (heap_setCell_same _ n 1 v1 (heap_setCell_same _ n 0 v0 e)))]; rfl
  refine ⟨_, rfl, ((((Put.refl n W).setCell 0 v0).setCell 1 v1).setCell 2 v2).setCell 3 v3, ⟨_, _, _, _, e4⟩, ?_⟩
  refine ⟨?_, ?_, ?_, ?_⟩ <;> simp [World.cell?, e4]

theorem BoxT.full {W : World} {n : Nat} {v0 v1 v2 v3 : Value} (h : BoxT W n) (e0 : W.cell? ⟨n, 0, none⟩ = some v0) (e1 : W.cell? ⟨n, 1, none⟩ = some v1) (e2 : W.cell? ⟨n, 2, none⟩ = some v2) (e3 : W.cell? ⟨n, 3, none⟩ = some v3) : W.heap[n]? = some (.cells #[v0, v1, v2, v3] 27 (0, 0)) := by
  obtain ⟨d0, d1, d2, d3, ed⟩ := h
  obtain ⟨c0, c1, c2, c3, _⟩ := cells_of_blk ed
  rw [c0] at e0; rw [c1] at e1; rw [c2] at e2; rw [c3] at e3
  cases e0; cases e1; cases e2; cases e3; exact ed
theorem typeInt (ao : Option Addr) (c : Nat) (w : World) : Calls Tryz.prog 32 #[.agg #[.int .i64 10, .string ⟨([105, 110, 116] : List UInt8).toArray⟩, .int .i64 0, .slice ao 0 c]] w fun e w' => e = .returned (.agg #[.int .i64 1, .string ⟨#[]⟩, .int .i64 0, .slice none 0 0]) ∧ Below w.heap.size w w' := by
  have cN := namedInt ((w.alloc (.cells #[.int .i64 10, .string ⟨([105, 110, 116] : List UInt8).toArray⟩, .int .i64 0, .slice ao 0 c] 24)).alloc (.cells #[.int .i64 0, .string ⟨#[]⟩, .int .i64 0, .slice none 0 0] 27))
  have hB : Below w.heap.size w ((w.alloc (.cells #[.int .i64 10, .string ⟨([105, 110, 116] : List UInt8).toArray⟩, .int .i64 0, .slice ao 0 c] 24)).alloc (.cells #[.int .i64 0, .string ⟨#[]⟩, .int .i64 0, .slice none 0 0] 27)) := ((Below.refl _ _).alloc (Nat.le_refl _) _).alloc (by simp) _
  have hX : ((w.alloc (.cells #[.int .i64 10, .string ⟨([105, 110, 116] : List UInt8).toArray⟩, .int .i64 0, .slice ao 0 c] 24)).alloc (.cells #[.int .i64 0, .string ⟨#[]⟩, .int .i64 0, .slice none 0 0] 27)).heap[w.heap.size + 1]? = some (.cells #[.int .i64 0, .string ⟨#[]⟩, .int .i64 0, .slice none 0 0] 27 (0, 0)) := by
    have := heap_alloc_new (w.alloc (.cells #[.int .i64 10, .string ⟨([105, 110, 116] : List UInt8).toArray⟩, .int .i64 0, .slice ao 0 c] 24)) (.cells #[.int .i64 0, .string ⟨#[]⟩, .int .i64 0, .slice none 0 0] 27)
    rw [World.size_alloc] at this; exact this
  have HB := Lib.hid hB
  have HX := Lib.hid hX
  clear hB hX
  go_enter Tryz.func32, Tryz.ntmps32
  go_wp2_with fail
  refine cN.mono ?_
  rintro e w1 ⟨rfl, hb1⟩
  have h1 : w1.heap[w.heap.size + 1]? = some (.cells #[.int .i64 0, .string ⟨#[]⟩, .int .i64 0, .slice none 0 0] 27 (0, 0)) := (hb1.block _ (by simp)).trans HX.out
  have hB1 : Below w.heap.size w w1 := HB.out.trans (hb1.mono (by simp; omega))
  obtain ⟨c0, c1, c2, c3⟩ := cells_of_blk h1
  have f0 : ∀ o, w1.frozen? ⟨w.heap.size + 1, o, none⟩ = false := fun o => by simp [World.frozen?, h1]
  have f00 := f0 0
  have f01 := f0 1
  have f02 := f0 2
  have f03 := f0 3
  have hlt := lt_of_block h1
  have H1 := Lib.hid h1
  have HB1 := Lib.hid hB1
  clear cN hb1 f0 h1 hB1 HB HX
  go_wp2
  obtain ⟨Wf, hWf, hput, _, e0, e1, e2, e3⟩ := putT4 (n := w.heap.size + 1) (W := w1) ⟨_, _, _, _, H1.out⟩ (.int .i64 1) (.string ⟨#[]⟩) (.int .i64 0) (.slice none 0 0)
  rw [hWf]
  exact bodyPost_ret (v := .agg #[.int .i64 1, .string ⟨#[]⟩, .int .i64 0, .slice none 0 0]) (by simp [results, Tryz.results32, go_sem, e0, e1, e2, e3]) rfl ⟨rfl, below_put4 HB1.out hput (by omega)⟩
set_option maxRecDepth 20000 in
theorem enters_typeOf : Enters Tryz.prog 32 := enters_of Tryz.func32 (by kernel_rfl) rfl
set_option maxRecDepth 20000 in
set_option maxHeartbeats 2000000 in
theorem eachInt (g o c : Nat) (w : World) (h0 : w.cell? ⟨g, o, none⟩ = some (.int .i64 10)) (h1 : w.cell? ⟨g, o + 1, none⟩ = some (.string ⟨([105, 110, 116] : List UInt8).toArray⟩)) (h2 : w.cell? ⟨g, o + 2, none⟩ = some (.int .i64 0)) (h3 : w.cell? ⟨g, o + 3, none⟩ = some (.slice none 0 0)) :
    Calls Tryz.prog 67 #[.slice (some ⟨g, o, none⟩) 1 c, .func (.func 32) #[] #[]] w fun e w' => e = .returned (.slice (some ⟨w.heap.size, 0, none⟩) 1 1) ∧ Below w.heap.size w w' ∧ w'.heap[w.heap.size]? = some (.cells #[.int .i64 1, .string ⟨#[]⟩, .int .i64 0, .slice none 0 0] 27 (0, 0)) := by
  have eg : ∀ args w, (callFunc 32 args).run Tryz.prog w = .ok (.enter 32 args) w := enters_typeOf
  have hmk : ∀ w, (Instr.makeSlice 25 (.int .i64 1) (.int .i64 1)).run Tryz.prog w = .ok (.slice (some ⟨w.heap.size, 0, none⟩) 1 1) (w.alloc (.cells #[.int .i64 0, .string ⟨#[]⟩, .int .i64 0, .slice none 0 0] 27)) := fun _ => by kernel_rfl
  have hg := lt_of_cell h0
  have HB0 : Hid (Below w.heap.size w (w.alloc (.cells #[.int .i64 0, .string ⟨#[]⟩, .int .i64 0, .slice none 0 0] 27))) := (Below.refl _ _).alloc (Nat.le_refl _) _
  have HX0 : Hid ((w.alloc (.cells #[.int .i64 0, .string ⟨#[]⟩, .int .i64 0, .slice none 0 0] 27)).heap[w.heap.size]? = some (.cells #[.int .i64 0, .string ⟨#[]⟩, .int .i64 0, .slice none 0 0] 27 (0, 0))) := heap_alloc_new w _
  go_enter Tryz.func67, Tryz.ntmps67
  go_wp2_with fail
  go_loopw [16] (fun v wr => Hid (Below w.heap.size w wr) ∧ ((v = .int .i64 0 ∧ Hid (wr.heap[w.heap.size]? = some (.cells #[.int .i64 0, .string ⟨#[]⟩, .int .i64 0, .slice none 0 0] 27 (0, 0)))) ∨ (v = .int .i64 1 ∧ Hid (wr.heap[w.heap.size]? = some (.cells #[.int .i64 1, .string ⟨#[]⟩, .int .i64 0, .slice none 0 0] 27 (0, 0)))))) (fun v _ => 1 - (intOf v).toNat)
  case atStart => exact ⟨HB0, .inl ⟨rfl, HX0⟩⟩
  case round =>
    obtain ⟨HB, ⟨rfl, HX⟩ | ⟨rfl, HX⟩⟩ := hrel
    · have z0 := (HB.out.cell (p := ⟨g, o, none⟩) hg).trans h0
      have z1 := (HB.out.cell (p := ⟨g, o + 1, none⟩) hg).trans h1
      have z2 := (HB.out.cell (p := ⟨g, o + 2, none⟩) hg).trans h2
      have z3 := (HB.out.cell (p := ⟨g, o + 3, none⟩) hg).trans h3
      have hz := HB.out.size
      have hlt := lt_of_block HX.out
      have hgr : g < wr.heap.size := by omega
      have cT := typeInt none 0 (wr.alloc (.cells #[.int .i64 10, .string ⟨([105, 110, 116] : List UInt8).toArray⟩, .int .i64 0, .slice none 0 0] 24))
      have hb1 := (Below.refl wr.heap.size wr).alloc (Nat.le_refl _) (.cells #[.int .i64 10, .string ⟨([105, 110, 116] : List UInt8).toArray⟩, .int .i64 0, .slice none 0 0] 24)
      have HB1 := Lib.hid hb1
      clear hb1 h0 h1 h2 h3
      go_wp2_with fail
      refine cT.mono ?_
      rintro e w2 ⟨rfl, hb2⟩
      have hb3 : Below wr.heap.size wr w2 := HB1.out.trans (hb2.mono (by simp))
      have h2x : w2.heap[w.heap.size]? = some (.cells #[.int .i64 0, .string ⟨#[]⟩, .int .i64 0, .slice none 0 0] 27 (0, 0)) := (hb3.block _ hlt).trans HX.out
      have HB3 : Hid (Below w.heap.size w w2) := HB.out.trans (hb3.mono hz)
      obtain ⟨c0, c1, c2, c3⟩ := cells_of_blk h2x
      have f0 : ∀ o, w2.frozen? ⟨w.heap.size, o, none⟩ = false := fun o => by simp [World.frozen?, h2x]
      have f00 := f0 0
      have f01 := f0 1
      have f02 := f0 2
      have f03 := f0 3
      have hlt2 := lt_of_block h2x
      have H2 := Lib.hid h2x
      clear cT hb2 f0 h2x hb3 z0 z1 z2 z3
      go_wp2
      obtain ⟨Wf, hWf, hput, hbk, e0, e1, e2, e3⟩ := putT4 (n := w.heap.size) (W := w2) ⟨_, _, _, _, H2.out⟩ (.int .i64 1) (.string ⟨#[]⟩) (.int .i64 0) (.slice none 0 0)
      rw [hWf]
      go_roundw
      case rel => exact ⟨below_put4 HB3.out hput (by omega), .inr ⟨by go_num, hbk.full e0 e1 e2 e3⟩⟩
      case measure => simp [intOf]
    · go_wp2
      go_ret
      exact ⟨rfl, HB.out, HX.out⟩
/-- The type *int in its cells. -/
def PI (w : World) (m : Nat) : Prop := w.heap[m]? = some (.cells #[.int .i64 1, .string ⟨#[]⟩, .int .i64 0, .slice none 0 0] 27 (0, 0))
set_option maxRecDepth 20000 in
set_option maxHeartbeats 2000000 in
theorem typePtr (g o c : Nat) (w : World) (h0 : w.cell? ⟨g, o, none⟩ = some (.int .i64 10)) (h1 : w.cell? ⟨g, o + 1, none⟩ = some (.string ⟨([105, 110, 116] : List UInt8).toArray⟩)) (h2 : w.cell? ⟨g, o + 2, none⟩ = some (.int .i64 0)) (h3 : w.cell? ⟨g, o + 3, none⟩ = some (.slice none 0 0)) :
    Calls Tryz.prog 32 #[.agg #[.int .i64 11, .string ⟨#[]⟩, .int .i64 0, .slice (some ⟨g, o, none⟩) 1 c]] w fun e w' => e = .returned (.agg #[.int .i64 5, .string ⟨#[]⟩, .int .i64 0, .slice (some ⟨w.heap.size + 2, 0, none⟩) 1 1]) ∧ Below w.heap.size w w' ∧ PI w' (w.heap.size + 2) := by
  have hg := lt_of_cell h0
  obtain ⟨W0, hW0⟩ : ∃ W, (w.alloc (.cells #[.int .i64 11, .string ⟨#[]⟩, .int .i64 0, .slice (some ⟨g, o, none⟩) 1 c] 24)).alloc (.cells #[.int .i64 0, .string ⟨#[]⟩, .int .i64 0, .slice none 0 0] 27) = W := ⟨_, rfl⟩
  have hB : Below w.heap.size w W0 := hW0 ▸ ((Below.refl _ _).alloc (Nat.le_refl _) _).alloc (by simp) _
  have hX : W0.heap[w.heap.size + 1]? = some (.cells #[.int .i64 0, .string ⟨#[]⟩, .int .i64 0, .slice none 0 0] 27 (0, 0)) := by
    have := heap_alloc_new (w.alloc (.cells #[.int .i64 11, .string ⟨#[]⟩, .int .i64 0, .slice (some ⟨g, o, none⟩) 1 c] 24)) (.cells #[.int .i64 0, .string ⟨#[]⟩, .int .i64 0, .slice none 0 0] 27)
    rw [World.size_alloc] at this; rw [← hW0]; exact this
  have hz : W0.heap.size = w.heap.size + 2 := by rw [← hW0]; simp
  have cE := eachInt g o c W0 ((hB.cell (p := ⟨g, o, none⟩) hg).trans h0) ((hB.cell (p := ⟨g, o + 1, none⟩) hg).trans h1) ((hB.cell (p := ⟨g, o + 2, none⟩) hg).trans h2) ((hB.cell (p := ⟨g, o + 3, none⟩) hg).trans h3)
  rw [hz] at cE
  have HB := Lib.hid hB
  have HX := Lib.hid hX
  have HZ := Lib.hid hz
  clear h0 h1 h2 h3 hB hX hz
  subst hW0
  go_enter Tryz.func32, Tryz.ntmps32
  go_wp2_with fail
  refine cE.mono ?_
  rintro e w1 ⟨rfl, hb1, hp1⟩
  have h1 : w1.heap[w.heap.size + 1]? = some (.cells #[.int .i64 0, .string ⟨#[]⟩, .int .i64 0, .slice none 0 0] 27 (0, 0)) := (hb1.block _ (by omega)).trans HX.out
  have hB1 : Below w.heap.size w w1 := HB.out.trans (hb1.mono (by omega))
  obtain ⟨c0, c1, c2, c3⟩ := cells_of_blk h1
  have f0 : ∀ o, w1.frozen? ⟨w.heap.size + 1, o, none⟩ = false := fun o => by simp [World.frozen?, h1]
  have f00 := f0 0
  have f01 := f0 1
  have f02 := f0 2
  have f03 := f0 3
  have hlt := lt_of_block h1
  have H1 := Lib.hid h1
  have HB1 := Lib.hid hB1
  have HP1 := Lib.hid hp1
  clear cE hb1 f0 h1 hB1 HB HX HZ hp1
  go_wp2
  obtain ⟨Wf, hWf, hput, _, e0, e1, e2, e3⟩ := putT4 (n := w.heap.size + 1) (W := w1) ⟨_, _, _, _, H1.out⟩ (.int .i64 5) (.string ⟨#[]⟩) (.int .i64 0) (.slice (some ⟨w.heap.size + 2, 0, none⟩) 1 1)
  rw [hWf]
  exact bodyPost_ret (v := .agg #[.int .i64 5, .string ⟨#[]⟩, .int .i64 0, .slice (some ⟨w.heap.size + 2, 0, none⟩) 1 1]) (by simp [results, Tryz.results32, go_sem, e0, e1, e2, e3]) rfl ⟨rfl, below_put4 HB1.out hput (by omega), (hput.block _ (by omega)).trans HP1.out⟩
end Go.Proofs.YtbejkphekfbfnaaGreat
