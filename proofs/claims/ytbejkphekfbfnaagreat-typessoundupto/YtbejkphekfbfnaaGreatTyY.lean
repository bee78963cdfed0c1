/- The program's Of of the node that awake asks for. -/
import Derived.Test.YtbejkphekfbfnaaGreatTyX
import Derived.Test.YtbejkphekfbfnaaGreatSndI
namespace Go.Proofs.YtbejkphekfbfnaaGreat
open Go.RowKit
attribute [local go_sem ↓] Go.wp_at_zero Go.wp_at_succ

theorem nodeT_any (k : Int) (s : List UInt8) (ao : Option Addr) (n c : Nat) (w : World) :
    Calls Tryz.prog 65 #[.int .i64 k, .string ⟨s.toArray⟩, .slice ao n c] w fun e w' => e = .returned (.agg #[.int .i64 k, .string ⟨s.toArray⟩, .int .i64 0, .slice ao n c]) ∧ Below w.heap.size w w' := by
  go_enter Tryz.func65, Tryz.ntmps65
  go_wp2
  exact bodyPost_ret (v := .agg #[.int .i64 k, .string ⟨s.toArray⟩, .int .i64 0, .slice ao n c]) (by simp [results, Tryz.results65, go_sem]) rfl ⟨rfl, (Below.refl _ _).alloc (Nat.le_refl _) _⟩
theorem kt_one {w : World} {S : Nat → Prop} {a : Tr} {sl : Value} {g c : Nat} {ty : TypeId} {fl : Nat × Nat} (k : Int) (s : List UInt8) (n : Int) (h : w.heap[g]? = some (.cells #[.int .i64 a.kind, .string ⟨a.text.toArray⟩, .int .i64 a.num, sl] ty fl)) (hS : S g) (hc : 1 ≤ c) (ha : KT w S a sl) : KT w S (.mk k s n [a]) (.slice (some ⟨g, 0, none⟩) 1 c) := by
  simp only [KT]
  refine ⟨[sl], .inr ⟨g, 0, c, rfl, hc, hS, fun j u hj => ?_⟩, ?_⟩
  · rw [Lib.cell_of_heap h]
    match j, hj with
    | 0, hj => exact hj
    | 1, hj => exact hj
    | 2, hj => exact hj
    | 3, hj => exact hj
  · simp only [KL]; exact ⟨sl, [], rfl, ha, rfl⟩
theorem kt_two {w : World} {S : Nat → Prop} {a b : Tr} {sl sl2 : Value} {g c : Nat} {ty : TypeId} {fl : Nat × Nat} (k : Int) (s : List UInt8) (n : Int) (h : w.heap[g]? = some (.cells #[.int .i64 a.kind, .string ⟨a.text.toArray⟩, .int .i64 a.num, sl, .int .i64 b.kind, .string ⟨b.text.toArray⟩, .int .i64 b.num, sl2] ty fl)) (hS : S g) (hc : 2 ≤ c) (ha : KT w S a sl) (hb : KT w S b sl2) : KT w S (.mk k s n [a, b]) (.slice (some ⟨g, 0, none⟩) 2 c) := by
  simp only [KT]
  refine ⟨[sl, sl2], .inr ⟨g, 0, c, rfl, hc, hS, fun j u hj => ?_⟩, ?_⟩
  · rw [Lib.cell_of_heap h]
    match j, hj with
    | 0, hj => exact hj
    | 1, hj => exact hj
    | 2, hj => exact hj
    | 3, hj => exact hj
    | 4, hj => exact hj
    | 5, hj => exact hj
    | 6, hj => exact hj
    | 7, hj => exact hj
  · simp only [KL]; exact ⟨sl, [sl2], rfl, ha, sl2, [], rfl, hb, rfl⟩
theorem kt_nil {w : World} {S : Nat → Prop} (k : Int) (s : List UInt8) (n : Int) : KT w S (.mk k s n []) (.slice none 0 0) := by
  simp only [KT]; exact ⟨[], .inl ⟨rfl, none, 0, rfl⟩, by simp [KL]⟩
/-- Four cells of a block. -/
def S4 (m : Nat) (v0 v1 v2 v3 : Value) (W : World) : Prop := W.cell? ⟨m, 0, none⟩ = some v0 ∧ W.cell? ⟨m, 1, none⟩ = some v1 ∧ W.cell? ⟨m, 2, none⟩ = some v2 ∧ W.cell? ⟨m, 3, none⟩ = some v3
theorem S4.below {m B : Nat} {v0 v1 v2 v3 : Value} {W W' : World} (h : W.cell? ⟨m, 0, none⟩ = some v0 ∧ W.cell? ⟨m, 1, none⟩ = some v1 ∧ W.cell? ⟨m, 2, none⟩ = some v2 ∧ W.cell? ⟨m, 3, none⟩ = some v3) (hb : Below B W W') (hm : m < B) : W'.cell? ⟨m, 0, none⟩ = some v0 ∧ W'.cell? ⟨m, 1, none⟩ = some v1 ∧ W'.cell? ⟨m, 2, none⟩ = some v2 ∧ W'.cell? ⟨m, 3, none⟩ = some v3 :=
  ⟨(hb.cell (p := ⟨m, 0, none⟩) hm).trans h.1, (hb.cell (p := ⟨m, 1, none⟩) hm).trans h.2.1, (hb.cell (p := ⟨m, 2, none⟩) hm).trans h.2.2.1, (hb.cell (p := ⟨m, 3, none⟩) hm).trans h.2.2.2⟩
theorem S4.alloc {m : Nat} {v0 v1 v2 v3 : Value} {W : World} {o : Obj} (h : W.cell? ⟨m, 0, none⟩ = some v0 ∧ W.cell? ⟨m, 1, none⟩ = some v1 ∧ W.cell? ⟨m, 2, none⟩ = some v2 ∧ W.cell? ⟨m, 3, none⟩ = some v3) (hm : m < W.heap.size) : (W.alloc o).cell? ⟨m, 0, none⟩ = some v0 ∧ (W.alloc o).cell? ⟨m, 1, none⟩ = some v1 ∧ (W.alloc o).cell? ⟨m, 2, none⟩ = some v2 ∧ (W.alloc o).cell? ⟨m, 3, none⟩ = some v3 :=
  S4.below h ((Below.refl _ _).alloc (Nat.le_refl _) _) hm
theorem S4.put {m n : Nat} {v0 v1 v2 v3 : Value} {W W' : World} (h : W.cell? ⟨m, 0, none⟩ = some v0 ∧ W.cell? ⟨m, 1, none⟩ = some v1 ∧ W.cell? ⟨m, 2, none⟩ = some v2 ∧ W.cell? ⟨m, 3, none⟩ = some v3) (hp : Put n W W') (hm : m ≠ n) : W'.cell? ⟨m, 0, none⟩ = some v0 ∧ W'.cell? ⟨m, 1, none⟩ = some v1 ∧ W'.cell? ⟨m, 2, none⟩ = some v2 ∧ W'.cell? ⟨m, 3, none⟩ = some v3 := by
  have e := hp.block m hm
  unfold World.cell? at h ⊢
  simp only [e]
  exact h
/-- What stands while a tree is built: nothing old has changed, the answer's cells are empty, the tree lies. -/
structure Aro (w0 : World) (T : Tr) (sl : Value) (W : World) : Prop where
  out : Below w0.heap.size w0 W
  res : Box W (w0.heap.size + 1)
  lt : w0.heap.size + 1 < W.heap.size
  kt : KT W (fun b => b < W.heap.size ∧ b ≠ w0.heap.size + 1) T sl
section
variable {w0 W W' : World} {T : Tr} {sl : Value}
theorem Aro.call (h : Aro w0 T sl W) (hb : Below W.heap.size W W') : Aro w0 T sl W' :=
  ⟨h.out.trans (hb.mono h.out.size), h.res.below hb h.lt, Nat.lt_of_lt_of_le h.lt hb.size, h.kt.fr (fun b hb' => hb.block b hb'.1) (fun _ h => ⟨Nat.lt_of_lt_of_le h.1 hb.size, h.2⟩)⟩
theorem Aro.alloc (h : Aro w0 T sl W) (o : Obj) : Aro w0 T sl (W.alloc o) := h.call ((Below.refl _ _).alloc (Nat.le_refl _) _)
theorem Aro.drew (h : Aro w0 T sl W) : Aro w0 T sl W.drew := ⟨h.out.trans ⟨rfl, rfl, rfl, Nat.le_refl _, fun _ _ => rfl⟩, h.res.of_block rfl, h.lt, h.kt.fr (fun _ _ => rfl) (fun _ h => h)⟩
/-- A node with the tree as its one kid. -/
theorem Aro.wrap (h : Aro w0 T sl W) (k : Int) (s : List UInt8) (n : Int) : Aro w0 (.mk k s n [T]) (.slice (some ⟨W.heap.size, 0, none⟩) 1 1) (W.alloc (.cells #[.int .i64 T.kind, .string ⟨T.text.toArray⟩, .int .i64 T.num, sl] 24)) := by
  have h' := h.alloc (.cells #[.int .i64 T.kind, .string ⟨T.text.toArray⟩, .int .i64 T.num, sl] 24)
  exact ⟨h'.out, h'.res, h'.lt, kt_one k s n (heap_alloc_new W _) ⟨by simp, by have := h.lt; omega⟩ (Nat.le_refl _) h'.kt⟩
end
theorem below_put4 {B : Nat} {w W W' : World} {n : Nat} (h : Below B w W) (hp : Put n W W') (hn : B ≤ n) : Below B w W' :=
  ⟨hp.os.trans h.os, hp.tape.trans h.tape, hp.output.trans h.output, by rw [hp.size]; exact h.size, fun k hk => (hp.block k (by omega)).trans (h.block k hk)⟩
/-- The program around a type's node. -/
def aroS (t : Tr) : Tr := .mk 1 [] 0 [.mk 2 [83] 0 [.mk 6 [102] 0 [t]]]
set_option maxRecDepth 20000 in
set_option maxHeartbeats 2000000 in
theorem aroundS_any (t : Tr) (sl : Value) (w : World) (h7 : (t.kind == 7) = false) (hk : KT w (· < w.heap.size) t sl) :
    Calls Tryz.prog 31 #[tv t sl] w fun e w' => Below w.heap.size w w' ∧ ∃ sl', e = .returned (tv (aroS t) sl') ∧ KT w' (· < w'.heap.size) (aroS t) sl' := by
  obtain ⟨ao, c, rfl⟩ : ∃ ao c, sl = .slice ao t.kids.length c := (Lst.kids hk).slice
  obtain ⟨W3, hW3⟩ : ∃ W, ((w.alloc (.cells #[.int .i64 t.kind, .string ⟨t.text.toArray⟩, .int .i64 t.num, .slice ao t.kids.length c] 24)).alloc (.cells #[.int .i64 0, .string ⟨#[]⟩, .int .i64 0, .slice none 0 0] 24)).alloc (.cells #[.int .i64 t.kind, .string ⟨t.text.toArray⟩, .int .i64 t.num, .slice ao t.kids.length c] 24) = W := ⟨_, rfl⟩
  have z3 : W3.heap.size = w.heap.size + 3 := by rw [← hW3]; simp
  have b3 : Below w.heap.size w W3 := hW3 ▸ (((Below.refl _ _).alloc (Nat.le_refl _) _).alloc (by simp) _).alloc (by simp; omega) _
  have r3 : W3.heap[w.heap.size + 1]? = some (.cells #[.int .i64 0, .string ⟨#[]⟩, .int .i64 0, .slice none 0 0] 24 (0, 0)) := by
    rw [← hW3, Below.heap_alloc _ _ _ (by simp)]
    have := heap_alloc_new (w.alloc (.cells #[.int .i64 t.kind, .string ⟨t.text.toArray⟩, .int .i64 t.num, .slice ao t.kids.length c] 24)) (.cells #[.int .i64 0, .string ⟨#[]⟩, .int .i64 0, .slice none 0 0] 24)
    simpa using this
  have n3 : W3.heap[w.heap.size + 2]? = some (.cells #[.int .i64 t.kind, .string ⟨t.text.toArray⟩, .int .i64 t.num, .slice ao t.kids.length c] 24 (0, 0)) := by
    rw [← hW3]
    have := heap_alloc_new ((w.alloc (.cells #[.int .i64 t.kind, .string ⟨t.text.toArray⟩, .int .i64 t.num, .slice ao t.kids.length c] 24)).alloc (.cells #[.int .i64 0, .string ⟨#[]⟩, .int .i64 0, .slice none 0 0] 24)) (.cells #[.int .i64 t.kind, .string ⟨t.text.toArray⟩, .int .i64 t.num, .slice ao t.kids.length c] 24)
    simpa using this
  have a3 : Aro w (.mk 6 [102] 0 [t]) (.slice (some ⟨w.heap.size + 2, 0, none⟩) 1 1) W3 := ⟨b3, ⟨_, _, _, _, r3⟩, by omega,
    kt_one 6 [102] 0 n3 ⟨by omega, by omega⟩ (Nat.le_refl _) (hk.fr (fun b hb => b3.block b hb) (fun b (h : b < w.heap.size) => ⟨by omega, by omega⟩))⟩
  have c1 := nodeT_any 6 [102] (some ⟨w.heap.size + 2, 0, none⟩) 1 1 W3
  clear hk n3 z3 b3 r3
  subst hW3
  go_enter Tryz.func31, Tryz.ntmps31
  go_wp2_with fail
  refine c1.mono ?_
  rintro e w4 ⟨rfl, hb4⟩
  clear c1
  have a4 := a3.call hb4
  have a5 := a4.wrap 2 [83] 0
  clear a3 hb4
  have c2 := nodeT_any 2 [83] (some ⟨w4.heap.size, 0, none⟩) 1 1 (w4.alloc (.cells #[.int .i64 6, .string ⟨([102] : List UInt8).toArray⟩, .int .i64 0, .slice (some ⟨w.heap.size + 2, 0, none⟩) 1 1] 24))
  go_wp2_with fail
  refine c2.mono ?_
  rintro e w6 ⟨rfl, hb6⟩
  clear c2
  have a6 := a5.call hb6
  have a7 := a6.wrap 1 [] 0
  have c3 := nodeT_any 1 [] (some ⟨w6.heap.size, 0, none⟩) 1 1 (w6.alloc (.cells #[.int .i64 2, .string ⟨([83] : List UInt8).toArray⟩, .int .i64 0, .slice (some ⟨w4.heap.size, 0, none⟩) 1 1] 24))
  clear a4 a5 a6 hb6
  go_wp2_with fail
  refine c3.mono ?_
  rintro e w8 ⟨rfl, hb8⟩
  clear c3
  have a12 := a7.call hb8
  obtain ⟨u0, u1, u2, u3, q0, q1, q2, q3, qf⟩ := a12.res.open
  have qf0 := qf 0
  have qf1 := qf 1
  have qf2 := qf 2
  have qf3 := qf 3
  clear qf a7 hb8
  go_wp2
  obtain ⟨Wf, hWf, hput, _, e0, e1, e2, e3⟩ := putN4 a12.res (.int .i64 1) (.string ⟨#[]⟩) (.int .i64 0) (.slice (some ⟨w6.heap.size, 0, none⟩) 1 1)
  rw [hWf]
  exact bodyPost_ret (v := .agg #[.int .i64 1, .string ⟨#[]⟩, .int .i64 0, .slice (some ⟨w6.heap.size, 0, none⟩) 1 1]) (by simp [results, Tryz.results31, go_sem, e0, e1, e2, e3]) rfl ⟨below_put4 a12.out hput (by omega), _, rfl, a12.kt.fr (fun b hb => hput.block b hb.2) (fun b hb => by rw [hput.size]; exact hb.1)⟩
end Go.Proofs.YtbejkphekfbfnaaGreat
