/- What behind leans on: the way's memory, one kind more, a type's fields, a call's stack. -/
import Derived.Test.YtkdojpnihinpbaaDoorMpD
import Derived.Test.YtkdojpnihinpbaaDoorVfO
namespace Go.Proofs.YtkdojpnihinpbaaDoor
open Go.RowKit
/-- A way lies: its program and its function. -/
structure WyAt (B : Nat) (w : World) (v1 v2 v3 v4 u1 u2 u3 u4 : Value) (p : Pg) (f : Fd) : Prop where
  hB : B ≤ w.heap.size
  pg : PgAt B w v1 v2 v3 v4 p
  lo : SlAt 1 IntP B w u1 f.lo
  re : SlAt 1 IntP B w u2 f.re
  ar : SlAt 1 IntP B w u3 f.ar
  co : SlAt 3 InsP B w u4 f.co
/-- How a new pile comes. -/
def BhO (X : Nat → Prop) (E : Nat) (l : List Int) (w : World) (e : Ending) (W : World) : Prop := ∃ b', e = .returned (pp b') ∧ PileAt X W E b' l ∧ Below w.heap.size w W
section
variable {B E b : Nat} {X : Nat → Prop} {w w' W : World} {v1 v2 v3 v4 u1 u2 u3 u4 : Value} {p : Pg} {f : Fd} {l : List Int} {e : Ending}
theorem WyAt.below (Y : WyAt B w v1 v2 v3 v4 u1 u2 u3 u4 p f) (h : Below w.heap.size w w') : WyAt B w' v1 v2 v3 v4 u1 u2 u3 u4 p f :=
  have hk : ∀ j, j < B → w'.heap[j]? = w.heap[j]? := fun j hj => h.block j (Nat.lt_of_lt_of_le hj Y.hB)
  ⟨Nat.le_trans Y.hB h.size, Y.pg.keep (Nat.le_refl _) hk, ints_keep (Nat.le_refl _) hk Y.lo, ints_keep (Nat.le_refl _) hk Y.re, ints_keep (Nat.le_refl _) hk Y.ar, ins_keep (Nat.le_refl _) hk Y.co⟩
theorem BhO.up (h : BhO X E l w' e W) (hb : Below w.heap.size w w') : BhO X E l w e W := by
  obtain ⟨b', h1, h2, h3⟩ := h
  exact ⟨b', h1, h2, bel_tr hb h3⟩
/-- One kind more, in a list of its own. -/
theorem with1 (P : PileAt X w E b l) (hX : ∀ j, X j → j < w.heap.size) (hl : l.length ≤ 1000000000000) (k : Int) (T : TypeId) : Calls Tryd.prog 53 #[pp b, .slice (some ⟨w.heap.size, 0, none⟩) 1 1] (w.alloc (.cells #[.int .i64 k] T)) (BhO X E (l ++ [k]) w) := by
  have hb : Below w.heap.size w (w.alloc (.cells #[.int .i64 k] T)) := (Below.refl _ _).alloc (Nat.le_refl _) _
  have hI : IsAt X (w.alloc (.cells #[.int .i64 k] T)) (.slice (some ⟨w.heap.size, 0, none⟩) [k].length [k].length) [k] := isAt_new (T := T) (heap_new _ _ rfl) (fun h => Nat.lt_irrefl _ (hX _ h)) (by simp)
  refine (with_any (P.keep (Kp.of_below hb)) hI (fun j hj => Nat.lt_of_lt_of_le (hX j hj) hb.size) (by simp only [List.length_singleton]; omega)).mono ?_
  rintro e w2 ⟨b2, rfl, hP, hb2⟩
  exact ⟨b2, rfl, hP, bel_tr hb hb2⟩
set_option maxRecDepth 100000 in
set_option maxHeartbeats 1000000 in
/-- The fields of what a pointer names. -/
theorem fields_any {a1 a2 a3 a4 b1 b2 b3 b4 : Option Addr} {d1 d2 d3 d4 n2 n3 n4 m1 m2 m3 m4 e1 e2 e3 e4 : Nat} (Y : WyAt B w (.slice a1 p.ty.length d1) (.slice a2 n2 d2) (.slice a3 n3 d3) (.slice a4 n4 d4) (.slice b1 m1 e1) (.slice b2 m2 e2) (.slice b3 m3 e3) (.slice b4 m4 e4) p f) (hn : p.ty.length ≤ 1024) {k : Int} (hk : isKB p.ty.length k = true) {t : Nat} (ht : (bareK k - 2) / 2 = (t : Int)) (h2 : 2 ≤ bareK k) {fs : List Int} (hfs : p.ty[t]? = some fs) (q : Int) :
    Calls Tryd.prog 56 #[.agg #[.slice a1 p.ty.length d1, .slice a2 n2 d2, .slice a3 n3 d3, .slice a4 n4 d4, .int .i64 q, .slice b1 m1 e1, .slice b2 m2 e2, .slice b3 m3 e3, .slice b4 m4 e4], .int .i64 k] w fun e W => ∃ u, e = .returned u ∧ SlAt 1 IntP B W u fs ∧ Below w.heap.size w W := by
  obtain ⟨g, o, c, n, u, hv, hn', hlt, hg, hc, hl⟩ := lst_at Y.pg.ty hfs
  cases hv
  have hbits := (bits_bare hn hk).1
  have hq : (bareK k - 2).tdiv 2 = (t : Int) := by rw [Int.tdiv_eq_ediv_of_nonneg (by omega)]; exact ht
  have hd1 : decide (t < p.ty.length) = true := by simpa using hlt
  have hbk : bareK k < 1048576 + 2 * 1024 + 2 := by
    have h := of_decide_eq_true hk
    unfold bareK
    split <;> (unfold bareK at h; first | omega | (split at h <;> omega))
  have hgw : g < w.heap.size := Nat.lt_of_lt_of_le hg Y.hB
  obtain ⟨W1, hW1⟩ : ∃ W1, w.alloc (.cells #[.slice (some ⟨g, o, none⟩) p.ty.length d1, .slice a2 n2 d2, .slice a3 n3 d3, .slice a4 n4 d4, .int .i64 q, .slice b1 m1 e1, .slice b2 m2 e2, .slice b3 m3 e3, .slice b4 m4 e4] 89) = W1 := ⟨_, rfl⟩
  have hb : Below w.heap.size w W1 := by rw [← hW1]; exact (Below.refl _ _).alloc (Nat.le_refl _) _
  have hW : W1.heap[w.heap.size]? = some (.cells #[.slice (some ⟨g, o, none⟩) p.ty.length d1, .slice a2 n2 d2, .slice a3 n3 d3, .slice a4 n4 d4, .int .i64 q, .slice b1 m1 e1, .slice b2 m2 e2, .slice b3 m3 e3, .slice b4 m4 e4] 89 (0, 0)) := by rw [← hW1]; exact heap_new _ _ rfl
  have c0 : W1.cell? ⟨w.heap.size, 0, none⟩ = some (.slice (some ⟨g, o, none⟩) p.ty.length d1) := cell_of hW rfl
  have c1 : W1.cell? ⟨g, o + t, none⟩ = some u := (hb.cell (p := ⟨g, o + t, none⟩) hgw).trans hc
  have hlW := lt_of_block hW
  have hgW : g < W1.heap.size := Nat.lt_of_lt_of_le hgw hb.size
  have HS := hide (show SlAt 1 IntP B W1 u fs ∧ Below w.heap.size w W1 from ⟨ints_keep (Nat.le_refl _) (fun j hj => hb.block j (Nat.lt_of_lt_of_le hj Y.hB)) hl, hb⟩)
  obtain ⟨ao, cap, rfl, _, _⟩ := hl
  have t0 : (0 : Int) ≤ (t : Int) := by omega
  have t1 : (t : Int) ≤ 1024 := by omega
  clear Y hk ht hfs hn' hc hb hW hn hg
  generalize bareK k = bk at *
  have w1 : IntKind.i64.wrap (bk - 2) = bk - 2 := by go_arith
  go_enter Tryd.func56, Tryd.ntmps56
  go_wp2
  go_ret
  exact ⟨_, rfl, HS.out⟩
set_option maxRecDepth 100000 in
set_option maxHeartbeats 1000000 in
/-- The stack behind a call. -/
theorem called_any {g : Fd} {x1 x2 x3 x4 : Value} (P : PileAt X w E b l) (hX : ∀ j, X j → B ≤ j ∧ j < w.heap.size) (hB : B ≤ w.heap.size) (hl : l.length ≤ 1000000000000) {q : Nat} (hq : g.pa = (q : Int)) (hql : q ≤ l.length) (R1 : SlAt 1 IntP B w x1 g.lo) (R2 : SlAt 1 IntP B w x2 g.re) (R3 : SlAt 1 IntP B w x3 g.ar) (R4 : SlAt 3 InsP B w x4 g.co) (hr : g.re.length ≤ 4096) :
    Calls Tryd.prog 57 #[.agg #[.int .i64 g.pa, x1, x2, x3, x4], pp b] w (BhO X E (l.take (l.length - q) ++ g.re) w) := by
  obtain ⟨y1, z1, rfl⟩ := sl_form R1
  obtain ⟨y2, z2, rfl⟩ := sl_form R2
  obtain ⟨y3, z3, rfl⟩ := sl_form R3
  obtain ⟨y4, z4, rfl⟩ := sl_form R4
  rw [hq]
  obtain ⟨W1, hW1⟩ : ∃ W1, w.alloc (.cells #[.int .i64 q, .slice y1 g.lo.length z1, .slice y2 g.re.length z2, .slice y3 g.ar.length z3, .slice y4 g.co.length z4] 50) = W1 := ⟨_, rfl⟩
  have hb : Below w.heap.size w W1 := by rw [← hW1]; exact (Below.refl _ _).alloc (Nat.le_refl _) _
  have hW : W1.heap[w.heap.size]? = some (.cells #[.int .i64 q, .slice y1 g.lo.length z1, .slice y2 g.re.length z2, .slice y3 g.ar.length z3, .slice y4 g.co.length z4] 50 (0, 0)) := by rw [← hW1]; exact heap_new _ _ rfl
  have c0 : W1.cell? ⟨w.heap.size, 0, none⟩ = some (.int .i64 q) := cell_of hW rfl
  have c2 : W1.cell? ⟨w.heap.size, 2, none⟩ = some (.slice y2 g.re.length z2) := cell_of hW rfl
  have hlW := lt_of_block hW
  have HC := hide (show ∀ W : World, Below W1.heap.size W1 W → W.cell? ⟨w.heap.size, 0, none⟩ = some (.int .i64 q) ∧ W.cell? ⟨w.heap.size, 2, none⟩ = some (.slice y2 g.re.length z2) from fun W h => ⟨(h.cell (p := ⟨w.heap.size, 0, none⟩) hlW).trans c0, (h.cell (p := ⟨w.heap.size, 2, none⟩) hlW).trans c2⟩)
  have HWO := hide (show ∀ W : World, Below W1.heap.size W1 W → Calls Tryd.prog 54 #[pp b, .int .i64 q] W (BhO X E (l.take (l.length - q)) W) from fun W h => without_any (P.keep (Kp.of_below (bel_tr hb h))) hql (fun j hj => Nat.lt_of_lt_of_le (hX j hj).2 (bel_tr hb h).size) (by omega))
  have HWI := hide (show ∀ (W : World) (b' : Nat), Below W1.heap.size W1 W → PileAt X W E b' (l.take (l.length - q)) → Calls Tryd.prog 53 #[pp b', .slice y2 g.re.length z2] W (BhO X E (l.take (l.length - q) ++ g.re) W) from fun W b' h hp => with_any hp (is_of_sl (ints_keep (Nat.le_refl _) (fun j hj => (bel_tr hb h).block j (Nat.lt_of_lt_of_le hj hB)) R2) (Nat.le_trans hB (bel_tr hb h).size) (fun j hj hx => by have := (hX j hx).1; omega)) (fun j hj => Nat.lt_of_lt_of_le (hX j hj).2 (bel_tr hb h).size) (by rw [List.length_take]; omega))
  have HB := hide hb
  clear P hX hB hl hql R1 R2 R3 R4 hr hb hW hq
  generalize l.take (l.length - q) = l1 at *
  generalize l1 ++ g.re = l2 at *
  generalize g.re.length = n2 at *
  go_enter Tryd.func57, Tryd.ntmps57
  go_wp2_with fail
  refine wp_region_held_drew (S := (fun W => W.cell? ⟨w.heap.size, 0, none⟩ = some (.int .i64 q) ∧ W.cell? ⟨w.heap.size, 2, none⟩ = some (.slice y2 n2 z2))) (by kernel_rfl) ⟨c0, c2⟩ (fun hHeld1 => ?_)
  refine wpAnyH_take (i := 0) (oi := { dst := some 5, op := Go.Op.move (Go.Operand.tmp 1), type := 64, pos := "way.go:95", after := #[], guard := none }) (v := ?v2) rfl (by kernel_rfl) (by kernel_rfl) (by kernel_rfl) (fun _ _ _ h => h) (Or.inl ⟨by rfl, ?hy2⟩) (by assumption) ?_
  case hy2 => (intro W hSw; (try dsimp only at hSw); go_simp; try with_reducible rfl)
  try simp only [Act.put, List.setIfInBounds_toArray, List.set_cons_zero, List.set_cons_succ]
  refine wpAnyH_take (i := 1) (oi := { dst := some 6, op := Go.Op.fieldAddr 50 (Go.Operand.tmp 2) 0, type := 0, pos := "way.go:95", after := #[], guard := none }) (v := ?v3) rfl (by kernel_rfl) (by kernel_rfl) (by kernel_rfl) (fun _ _ _ h => h) (Or.inl ⟨by rfl, ?hy3⟩) (by assumption) ?_
  case hy3 => (intro W hSw; (try dsimp only at hSw); go_simp; try with_reducible rfl)
  try simp only [Act.put, List.setIfInBounds_toArray, List.set_cons_zero, List.set_cons_succ]
  refine wpAnyH_take (i := 2) (oi := { dst := some 7, op := Go.Op.load 3 (Go.Operand.tmp 6), type := 3, pos := "way.go:95", after := #[{ on := 1, ground := Go.Ground.data }], guard := none }) (v := ?v4) rfl (by kernel_rfl) (by kernel_rfl) (by kernel_rfl) (fun _ _ _ h => h) (Or.inl ⟨by rfl, ?hy4⟩) (by assumption) ?_
  case hy4 => (intro W hSw; (try dsimp only at hSw); go_simp; try with_reducible rfl)
  try simp only [Act.put, List.setIfInBounds_toArray, List.set_cons_zero, List.set_cons_succ]
  refine wpAnyH_take (i := 4) (oi := { dst := some 9, op := Go.Op.fieldAddr 50 (Go.Operand.tmp 2) 2, type := 0, pos := "way.go:95", after := #[], guard := none }) (v := ?v5) rfl (by kernel_rfl) (by kernel_rfl) (by kernel_rfl) (fun _ _ _ h => h) (Or.inl ⟨by rfl, ?hy5⟩) (by assumption) ?_
  case hy5 => (intro W hSw; (try dsimp only at hSw); go_simp; try with_reducible rfl)
  try simp only [Act.put, List.setIfInBounds_toArray, List.set_cons_zero, List.set_cons_succ]
  refine wpAnyH_take (i := 5) (oi := { dst := some 10, op := Go.Op.load 37 (Go.Operand.tmp 9), type := 37, pos := "way.go:95", after := #[{ on := 4, ground := Go.Ground.data }], guard := none }) (v := ?v6) rfl (by kernel_rfl) (by kernel_rfl) (by kernel_rfl) (fun _ _ _ h => h) (Or.inl ⟨by rfl, ?hy6⟩) (by assumption) ?_
  case hy6 => (intro W hSw; (try dsimp only at hSw); go_simp; try with_reducible rfl)
  try simp only [Act.put, List.setIfInBounds_toArray, List.set_cons_zero, List.set_cons_succ]
  refine wpAnyH_ready (rs := [3]) (by kernel_rfl) (by simp) ?_
  refine AllReadyH.cons (o := { dst := some 8, op := Go.Op.call { callee := Go.Callee.value (Go.Operand.func 54), args := #[Go.Operand.tmp 5, Go.Operand.tmp 7], argTypes := #[64, 3] }, type := 64, pos := "way.go:95", after := #[{ on := 0, ground := Go.Ground.data }, { on := 2, ground := Go.Ground.data }], guard := none }) rfl (fun K hK => ?_) AllReadyH.nil
  go_simp
  go_at_call 54
  refine (HWO.out _ (below_drew (Below.refl _ _))).mono ?_
  rintro e w2 ⟨b2, rfl, hp2, hb2⟩
  have HB2 := hide (show Below W1.heap.size W1 w2 from bel_tr (below_drew (Below.refl _ _)) hb2)
  have HP2 := hide hp2
  clear hb2 hp2
  go_wp2_with fail
  refine hK.out _ _ (HC.out _ HB2.out) (fun hHeld7 => ?_)
  clear hK K
  try simp only [Act.put, List.setIfInBounds_toArray, List.set_cons_zero, List.set_cons_succ]
  refine wpAnyH_ready (rs := [6]) (by kernel_rfl) (by simp) ?_
  refine AllReadyH.cons (o := { dst := some 11, op := Go.Op.call { callee := Go.Callee.value (Go.Operand.func 53), args := #[Go.Operand.tmp 8, Go.Operand.tmp 10], argTypes := #[64, 37] }, type := 64, pos := "way.go:95", after := #[{ on := 3, ground := Go.Ground.data }, { on := 5, ground := Go.Ground.data }, { on := 3, ground := Go.Ground.chain }], guard := none }) rfl (fun K hK => ?_) AllReadyH.nil
  go_simp
  go_at_call 53
  refine (HWI.out _ _ HB2.out HP2.out).mono ?_
  rintro e w3 ⟨b3, rfl, hp3, hb3⟩
  have HB3 := hide (bel_tr HB2.out hb3)
  have HP3 := hide hp3
  clear hb3 hp3
  go_wp2_with fail
  refine hK.out _ _ (HC.out _ HB3.out) (fun hHeld8 => ?_)
  clear hK K
  try simp only [Act.put, List.setIfInBounds_toArray, List.set_cons_zero, List.set_cons_succ]
  refine wpAnyH_take (i := 7) (oi := { dst := some 4, op := Go.Op.assign (Go.Operand.tmp 11), type := 64, pos := "way.go:95", after := #[{ on := 6, ground := Go.Ground.data }, { on := 6, ground := Go.Ground.chain }, { on := 0, ground := Go.Ground.phase }, { on := 1, ground := Go.Ground.phase }, { on := 2, ground := Go.Ground.phase }, { on := 3, ground := Go.Ground.phase }, { on := 4, ground := Go.Ground.phase }, { on := 5, ground := Go.Ground.phase }, { on := 6, ground := Go.Ground.phase }], guard := none }) (v := ?v9) rfl (by kernel_rfl) (by kernel_rfl) (by kernel_rfl) (fun _ _ _ h => h) (Or.inl ⟨by rfl, ?hy9⟩) (by assumption) ?_
  case hy9 => (intro W hSw; (try dsimp only at hSw); go_simp; try with_reducible rfl)
  try simp only [Act.put, List.setIfInBounds_toArray, List.set_cons_zero, List.set_cons_succ]
  refine wpAnyH_done (by kernel_rfl) ?_ _
  go_wp2
  go_ret
  exact ⟨b3, rfl, HP3.out, bel_tr HB.out HB3.out⟩
end
end Go.Proofs.YtkdojpnihinpbaaDoor

namespace Go.Proofs.YtkdojpnihinpbaaDoor
open Go.RowKit
section
variable {B E b : Nat} {X : Nat → Prop} {w : World} {a1 a2 a3 a4 b1 b2 b3 b4 : Option Addr} {d1 d2 d3 d4 e1 e2 e3 e4 : Nat} {p : Pg} {f : Fd} {s : List Int}
set_option maxRecDepth 100000 in
set_option maxHeartbeats 1000000 in
theorem bh_1 (Y : WyAt B w (.slice a1 p.ty.length d1) (.slice a2 p.fu.length d2) (.slice a3 p.ta.length d3) (.slice a4 p.st.length d4) (.slice b1 f.lo.length e1) (.slice b2 f.re.length e2) (.slice b3 f.ar.length e3) (.slice b4 f.co.length e4) p f) (i : In3) (P : PileAt X w E b s) (hX : ∀ j, X j → B ≤ j ∧ j < w.heap.size) (hs : s.length ≤ 1000000000000) (ho : i.o = 1) : Calls Tryd.prog 32 #[.agg #[.slice a1 p.ty.length d1, .slice a2 p.fu.length d2, .slice a3 p.ta.length d3, .slice a4 p.st.length d4, .int .i64 f.pa, .slice b1 f.lo.length e1, .slice b2 f.re.length e2, .slice b3 f.ar.length e3, .slice b4 f.co.length e4], .agg #[.int .i64 i.o, .int .i64 i.a, .int .i64 i.b], pp b] w (BhO X E (s ++ [0]) w) := by
  obtain ⟨W1, hW1⟩ : ∃ W1, (w.alloc (.cells #[.slice a1 p.ty.length d1, .slice a2 p.fu.length d2, .slice a3 p.ta.length d3, .slice a4 p.st.length d4, .int .i64 f.pa, .slice b1 f.lo.length e1, .slice b2 f.re.length e2, .slice b3 f.ar.length e3, .slice b4 f.co.length e4] 89)).alloc (.cells #[.int .i64 i.o, .int .i64 i.a, .int .i64 i.b] 47) = W1 := ⟨_, rfl⟩
  have hb : Below w.heap.size w W1 := by rw [← hW1]; exact ((Below.refl _ _).alloc (Nat.le_refl _) _).alloc (by simp) _
  have hW : W1.heap[w.heap.size]? = some (.cells #[.slice a1 p.ty.length d1, .slice a2 p.fu.length d2, .slice a3 p.ta.length d3, .slice a4 p.st.length d4, .int .i64 f.pa, .slice b1 f.lo.length e1, .slice b2 f.re.length e2, .slice b3 f.ar.length e3, .slice b4 f.co.length e4] 89 (0, 0)) := by rw [← hW1, Below.heap_alloc _ _ _ (by simp)]; exact heap_new _ _ rfl
  have hI : W1.heap[w.heap.size + 1]? = some (.cells #[.int .i64 i.o, .int .i64 i.a, .int .i64 i.b] 47 (0, 0)) := by rw [← hW1]; exact heap_new _ _ (by simp)
  have i0 : W1.cell? ⟨w.heap.size + 1, 0, none⟩ = some (.int .i64 i.o) := cell_of hI rfl
  have i1 : W1.cell? ⟨w.heap.size + 1, 1, none⟩ = some (.int .i64 i.a) := cell_of hI rfl
  have i2 : W1.cell? ⟨w.heap.size + 1, 2, none⟩ = some (.int .i64 i.b) := cell_of hI rfl
  have hlW := lt_of_block hW
  have hlI := lt_of_block hI
  have HWB := hide (show ∀ W : World, Below W1.heap.size W1 W → W.heap[w.heap.size]? = some (.cells #[.slice a1 p.ty.length d1, .slice a2 p.fu.length d2, .slice a3 p.ta.length d3, .slice a4 p.st.length d4, .int .i64 f.pa, .slice b1 f.lo.length e1, .slice b2 f.re.length e2, .slice b3 f.ar.length e3, .slice b4 f.co.length e4] 89 (0, 0)) from fun W h => (h.block _ hlW).trans hW)
  have HIB := hide (show ∀ W : World, Below W1.heap.size W1 W → W.heap[w.heap.size + 1]? = some (.cells #[.int .i64 i.o, .int .i64 i.a, .int .i64 i.b] 47 (0, 0)) from fun W h => (h.block _ hlI).trans hI)
  have HB := hide hb
  have HY := hide (show ∀ W : World, Below W1.heap.size W1 W → WyAt B W (.slice a1 p.ty.length d1) (.slice a2 p.fu.length d2) (.slice a3 p.ta.length d3) (.slice a4 p.st.length d4) (.slice b1 f.lo.length e1) (.slice b2 f.re.length e2) (.slice b3 f.ar.length e3) (.slice b4 f.co.length e4) p f from fun W h => (Y.below hb).below h)
  have HP := hide (show ∀ W : World, Below W1.heap.size W1 W → PileAt X W E b s from fun W h => P.keep (Kp.of_below (bel_tr hb h)))
  have HX := hide (show ∀ W : World, Below W1.heap.size W1 W → ∀ j, X j → B ≤ j ∧ j < W.heap.size from fun W h j hj => ⟨(hX j hj).1, Nat.lt_of_lt_of_le (hX j hj).2 (bel_tr hb h).size⟩)
  have HXN := hide (show ∀ W : World, Below W1.heap.size W1 W → ¬ X W.heap.size from fun W h hx => Nat.lt_irrefl _ (Nat.lt_of_lt_of_le (hX _ hx).2 (bel_tr hb h).size))
  have HWO := hide (show ∀ (W : World) (n : Nat), Below W1.heap.size W1 W → n ≤ s.length → Calls Tryd.prog 54 #[pp b, .int .i64 (n : Int)] W (BhO X E (s.take (s.length - n)) W) from fun W n h hn => without_any (HP.out W h) hn (fun j hj => (HX.out W h j hj).2) (by omega))
  have HWI := hide (show ∀ (W : World) (b' : Nat) (l' : List Int) (v : Value) (ks : List Int), Below W1.heap.size W1 W → PileAt X W E b' l' → IsAt X W v ks → ks.length ≤ 4096 → l'.length ≤ s.length → Calls Tryd.prog 53 #[pp b', v] W (BhO X E (l' ++ ks) W) from fun W b' l' v ks h hp hi hk hl => with_any hp hi (fun j hj => (HX.out W h j hj).2) (by omega))
  have HW1 := hide (show ∀ (W : World) (b' : Nat) (l' : List Int) (k : Int), Below W1.heap.size W1 W → PileAt X W E b' l' → l'.length ≤ s.length → Calls Tryd.prog 53 #[pp b', .slice (some ⟨W.heap.size, 0, none⟩) 1 1] (W.alloc (.cells #[.int .i64 k] 3)) (BhO X E (l' ++ [k]) W) from fun W b' l' k h hp hl => with1 hp (fun j hj => (HX.out W h j hj).2) (by omega) k _)
  have HTP := hide (show ∀ W : World, Below W1.heap.size W1 W → 0 < s.length → Calls Tryd.prog 55 #[pp b] W fun e W' => e = .returned (.int .i64 (s.getLast?.getD 0)) ∧ Below W.heap.size W W' from fun W h h0 => top_any (HP.out W h) h0 (by omega))
  have HTK := hide (show ∀ n : Nat, (s.take (s.length - n)).length ≤ s.length from fun n => List.length_take_le' _ _)
  have HSL := hide hs
  clear Y P hX hs hb hW hI
  rw [ho] at i0 hW1 HIB ⊢
  clear ho
  go_enter Tryd.func32, Tryd.ntmps32
  go_wp2_with fail
  refine (HW1.out W1 b s 0 (Below.refl _ _) (HP.out _ (Below.refl _ _)) (Nat.le_refl _)).mono ?_
  rintro e w9 ⟨b9, rfl, hp9, hb9⟩
  have HB9 := hide (show Below W1.heap.size W1 w9 from bel_tr (Below.refl _ _) hb9)
  have HP9 := hide hp9
  clear hb9 hp9
  go_wp2
  go_ret
  exact ⟨b9, rfl, HP9.out, bel_tr HB.out HB9.out⟩

set_option maxRecDepth 100000 in
set_option maxHeartbeats 1000000 in
theorem bh_2 (Y : WyAt B w (.slice a1 p.ty.length d1) (.slice a2 p.fu.length d2) (.slice a3 p.ta.length d3) (.slice a4 p.st.length d4) (.slice b1 f.lo.length e1) (.slice b2 f.re.length e2) (.slice b3 f.ar.length e3) (.slice b4 f.co.length e4) p f) (i : In3) (P : PileAt X w E b s) (hX : ∀ j, X j → B ≤ j ∧ j < w.heap.size) (hs : s.length ≤ 1000000000000) (ho : i.o = 2) : Calls Tryd.prog 32 #[.agg #[.slice a1 p.ty.length d1, .slice a2 p.fu.length d2, .slice a3 p.ta.length d3, .slice a4 p.st.length d4, .int .i64 f.pa, .slice b1 f.lo.length e1, .slice b2 f.re.length e2, .slice b3 f.ar.length e3, .slice b4 f.co.length e4], .agg #[.int .i64 i.o, .int .i64 i.a, .int .i64 i.b], pp b] w (BhO X E (s ++ [i.a]) w) := by
  obtain ⟨W1, hW1⟩ : ∃ W1, (w.alloc (.cells #[.slice a1 p.ty.length d1, .slice a2 p.fu.length d2, .slice a3 p.ta.length d3, .slice a4 p.st.length d4, .int .i64 f.pa, .slice b1 f.lo.length e1, .slice b2 f.re.length e2, .slice b3 f.ar.length e3, .slice b4 f.co.length e4] 89)).alloc (.cells #[.int .i64 i.o, .int .i64 i.a, .int .i64 i.b] 47) = W1 := ⟨_, rfl⟩
  have hb : Below w.heap.size w W1 := by rw [← hW1]; exact ((Below.refl _ _).alloc (Nat.le_refl _) _).alloc (by simp) _
  have hW : W1.heap[w.heap.size]? = some (.cells #[.slice a1 p.ty.length d1, .slice a2 p.fu.length d2, .slice a3 p.ta.length d3, .slice a4 p.st.length d4, .int .i64 f.pa, .slice b1 f.lo.length e1, .slice b2 f.re.length e2, .slice b3 f.ar.length e3, .slice b4 f.co.length e4] 89 (0, 0)) := by rw [← hW1, Below.heap_alloc _ _ _ (by simp)]; exact heap_new _ _ rfl
  have hI : W1.heap[w.heap.size + 1]? = some (.cells #[.int .i64 i.o, .int .i64 i.a, .int .i64 i.b] 47 (0, 0)) := by rw [← hW1]; exact heap_new _ _ (by simp)
  have i0 : W1.cell? ⟨w.heap.size + 1, 0, none⟩ = some (.int .i64 i.o) := cell_of hI rfl
  have i1 : W1.cell? ⟨w.heap.size + 1, 1, none⟩ = some (.int .i64 i.a) := cell_of hI rfl
  have i2 : W1.cell? ⟨w.heap.size + 1, 2, none⟩ = some (.int .i64 i.b) := cell_of hI rfl
  have hlW := lt_of_block hW
  have hlI := lt_of_block hI
  have HWB := hide (show ∀ W : World, Below W1.heap.size W1 W → W.heap[w.heap.size]? = some (.cells #[.slice a1 p.ty.length d1, .slice a2 p.fu.length d2, .slice a3 p.ta.length d3, .slice a4 p.st.length d4, .int .i64 f.pa, .slice b1 f.lo.length e1, .slice b2 f.re.length e2, .slice b3 f.ar.length e3, .slice b4 f.co.length e4] 89 (0, 0)) from fun W h => (h.block _ hlW).trans hW)
  have HIB := hide (show ∀ W : World, Below W1.heap.size W1 W → W.heap[w.heap.size + 1]? = some (.cells #[.int .i64 i.o, .int .i64 i.a, .int .i64 i.b] 47 (0, 0)) from fun W h => (h.block _ hlI).trans hI)
  have HB := hide hb
  have HY := hide (show ∀ W : World, Below W1.heap.size W1 W → WyAt B W (.slice a1 p.ty.length d1) (.slice a2 p.fu.length d2) (.slice a3 p.ta.length d3) (.slice a4 p.st.length d4) (.slice b1 f.lo.length e1) (.slice b2 f.re.length e2) (.slice b3 f.ar.length e3) (.slice b4 f.co.length e4) p f from fun W h => (Y.below hb).below h)
  have HP := hide (show ∀ W : World, Below W1.heap.size W1 W → PileAt X W E b s from fun W h => P.keep (Kp.of_below (bel_tr hb h)))
  have HX := hide (show ∀ W : World, Below W1.heap.size W1 W → ∀ j, X j → B ≤ j ∧ j < W.heap.size from fun W h j hj => ⟨(hX j hj).1, Nat.lt_of_lt_of_le (hX j hj).2 (bel_tr hb h).size⟩)
  have HXN := hide (show ∀ W : World, Below W1.heap.size W1 W → ¬ X W.heap.size from fun W h hx => Nat.lt_irrefl _ (Nat.lt_of_lt_of_le (hX _ hx).2 (bel_tr hb h).size))
  have HWO := hide (show ∀ (W : World) (n : Nat), Below W1.heap.size W1 W → n ≤ s.length → Calls Tryd.prog 54 #[pp b, .int .i64 (n : Int)] W (BhO X E (s.take (s.length - n)) W) from fun W n h hn => without_any (HP.out W h) hn (fun j hj => (HX.out W h j hj).2) (by omega))
  have HWI := hide (show ∀ (W : World) (b' : Nat) (l' : List Int) (v : Value) (ks : List Int), Below W1.heap.size W1 W → PileAt X W E b' l' → IsAt X W v ks → ks.length ≤ 4096 → l'.length ≤ s.length → Calls Tryd.prog 53 #[pp b', v] W (BhO X E (l' ++ ks) W) from fun W b' l' v ks h hp hi hk hl => with_any hp hi (fun j hj => (HX.out W h j hj).2) (by omega))
  have HW1 := hide (show ∀ (W : World) (b' : Nat) (l' : List Int) (k : Int), Below W1.heap.size W1 W → PileAt X W E b' l' → l'.length ≤ s.length → Calls Tryd.prog 53 #[pp b', .slice (some ⟨W.heap.size, 0, none⟩) 1 1] (W.alloc (.cells #[.int .i64 k] 3)) (BhO X E (l' ++ [k]) W) from fun W b' l' k h hp hl => with1 hp (fun j hj => (HX.out W h j hj).2) (by omega) k _)
  have HTP := hide (show ∀ W : World, Below W1.heap.size W1 W → 0 < s.length → Calls Tryd.prog 55 #[pp b] W fun e W' => e = .returned (.int .i64 (s.getLast?.getD 0)) ∧ Below W.heap.size W W' from fun W h h0 => top_any (HP.out W h) h0 (by omega))
  have HTK := hide (show ∀ n : Nat, (s.take (s.length - n)).length ≤ s.length from fun n => List.length_take_le' _ _)
  have HSL := hide hs
  clear Y P hX hs hb hW hI
  rw [ho] at i0 hW1 HIB ⊢
  clear ho
  go_enter Tryd.func32, Tryd.ntmps32
  go_wp2_with fail
  refine (HW1.out W1 b s i.a (Below.refl _ _) (HP.out _ (Below.refl _ _)) (Nat.le_refl _)).mono ?_
  rintro e w9 ⟨b9, rfl, hp9, hb9⟩
  have HB9 := hide (show Below W1.heap.size W1 w9 from bel_tr (Below.refl _ _) hb9)
  have HP9 := hide hp9
  clear hb9 hp9
  go_wp2
  go_ret
  exact ⟨b9, rfl, HP9.out, bel_tr HB.out HB9.out⟩

set_option maxRecDepth 100000 in
set_option maxHeartbeats 1000000 in
theorem bh_3 (Y : WyAt B w (.slice a1 p.ty.length d1) (.slice a2 p.fu.length d2) (.slice a3 p.ta.length d3) (.slice a4 p.st.length d4) (.slice b1 f.lo.length e1) (.slice b2 f.re.length e2) (.slice b3 f.ar.length e3) (.slice b4 f.co.length e4) p f) (i : In3) (P : PileAt X w E b s) (hX : ∀ j, X j → B ≤ j ∧ j < w.heap.size) (hs : s.length ≤ 1000000000000) (ho : i.o = 3) {m : Nat} {o : Int} (ha : i.a = (m : Int)) (hx : f.lo[m]? = some o) : Calls Tryd.prog 32 #[.agg #[.slice a1 p.ty.length d1, .slice a2 p.fu.length d2, .slice a3 p.ta.length d3, .slice a4 p.st.length d4, .int .i64 f.pa, .slice b1 f.lo.length e1, .slice b2 f.re.length e2, .slice b3 f.ar.length e3, .slice b4 f.co.length e4], .agg #[.int .i64 i.o, .int .i64 i.a, .int .i64 i.b], pp b] w (BhO X E (s ++ [o]) w) := by
  obtain ⟨W1, hW1⟩ : ∃ W1, (w.alloc (.cells #[.slice a1 p.ty.length d1, .slice a2 p.fu.length d2, .slice a3 p.ta.length d3, .slice a4 p.st.length d4, .int .i64 f.pa, .slice b1 f.lo.length e1, .slice b2 f.re.length e2, .slice b3 f.ar.length e3, .slice b4 f.co.length e4] 89)).alloc (.cells #[.int .i64 i.o, .int .i64 i.a, .int .i64 i.b] 47) = W1 := ⟨_, rfl⟩
  have hb : Below w.heap.size w W1 := by rw [← hW1]; exact ((Below.refl _ _).alloc (Nat.le_refl _) _).alloc (by simp) _
  have hW : W1.heap[w.heap.size]? = some (.cells #[.slice a1 p.ty.length d1, .slice a2 p.fu.length d2, .slice a3 p.ta.length d3, .slice a4 p.st.length d4, .int .i64 f.pa, .slice b1 f.lo.length e1, .slice b2 f.re.length e2, .slice b3 f.ar.length e3, .slice b4 f.co.length e4] 89 (0, 0)) := by rw [← hW1, Below.heap_alloc _ _ _ (by simp)]; exact heap_new _ _ rfl
  have hI : W1.heap[w.heap.size + 1]? = some (.cells #[.int .i64 i.o, .int .i64 i.a, .int .i64 i.b] 47 (0, 0)) := by rw [← hW1]; exact heap_new _ _ (by simp)
  have i0 : W1.cell? ⟨w.heap.size + 1, 0, none⟩ = some (.int .i64 i.o) := cell_of hI rfl
  have i1 : W1.cell? ⟨w.heap.size + 1, 1, none⟩ = some (.int .i64 i.a) := cell_of hI rfl
  have i2 : W1.cell? ⟨w.heap.size + 1, 2, none⟩ = some (.int .i64 i.b) := cell_of hI rfl
  have hlW := lt_of_block hW
  have hlI := lt_of_block hI
  have HWB := hide (show ∀ W : World, Below W1.heap.size W1 W → W.heap[w.heap.size]? = some (.cells #[.slice a1 p.ty.length d1, .slice a2 p.fu.length d2, .slice a3 p.ta.length d3, .slice a4 p.st.length d4, .int .i64 f.pa, .slice b1 f.lo.length e1, .slice b2 f.re.length e2, .slice b3 f.ar.length e3, .slice b4 f.co.length e4] 89 (0, 0)) from fun W h => (h.block _ hlW).trans hW)
  have HIB := hide (show ∀ W : World, Below W1.heap.size W1 W → W.heap[w.heap.size + 1]? = some (.cells #[.int .i64 i.o, .int .i64 i.a, .int .i64 i.b] 47 (0, 0)) from fun W h => (h.block _ hlI).trans hI)
  have HB := hide hb
  have HY := hide (show ∀ W : World, Below W1.heap.size W1 W → WyAt B W (.slice a1 p.ty.length d1) (.slice a2 p.fu.length d2) (.slice a3 p.ta.length d3) (.slice a4 p.st.length d4) (.slice b1 f.lo.length e1) (.slice b2 f.re.length e2) (.slice b3 f.ar.length e3) (.slice b4 f.co.length e4) p f from fun W h => (Y.below hb).below h)
  have HP := hide (show ∀ W : World, Below W1.heap.size W1 W → PileAt X W E b s from fun W h => P.keep (Kp.of_below (bel_tr hb h)))
  have HX := hide (show ∀ W : World, Below W1.heap.size W1 W → ∀ j, X j → B ≤ j ∧ j < W.heap.size from fun W h j hj => ⟨(hX j hj).1, Nat.lt_of_lt_of_le (hX j hj).2 (bel_tr hb h).size⟩)
  have HXN := hide (show ∀ W : World, Below W1.heap.size W1 W → ¬ X W.heap.size from fun W h hx => Nat.lt_irrefl _ (Nat.lt_of_lt_of_le (hX _ hx).2 (bel_tr hb h).size))
  have HWO := hide (show ∀ (W : World) (n : Nat), Below W1.heap.size W1 W → n ≤ s.length → Calls Tryd.prog 54 #[pp b, .int .i64 (n : Int)] W (BhO X E (s.take (s.length - n)) W) from fun W n h hn => without_any (HP.out W h) hn (fun j hj => (HX.out W h j hj).2) (by omega))
  have HWI := hide (show ∀ (W : World) (b' : Nat) (l' : List Int) (v : Value) (ks : List Int), Below W1.heap.size W1 W → PileAt X W E b' l' → IsAt X W v ks → ks.length ≤ 4096 → l'.length ≤ s.length → Calls Tryd.prog 53 #[pp b', v] W (BhO X E (l' ++ ks) W) from fun W b' l' v ks h hp hi hk hl => with_any hp hi (fun j hj => (HX.out W h j hj).2) (by omega))
  have HW1 := hide (show ∀ (W : World) (b' : Nat) (l' : List Int) (k : Int), Below W1.heap.size W1 W → PileAt X W E b' l' → l'.length ≤ s.length → Calls Tryd.prog 53 #[pp b', .slice (some ⟨W.heap.size, 0, none⟩) 1 1] (W.alloc (.cells #[.int .i64 k] 3)) (BhO X E (l' ++ [k]) W) from fun W b' l' k h hp hl => with1 hp (fun j hj => (HX.out W h j hj).2) (by omega) k _)
  have HTP := hide (show ∀ W : World, Below W1.heap.size W1 W → 0 < s.length → Calls Tryd.prog 55 #[pp b] W fun e W' => e = .returned (.int .i64 (s.getLast?.getD 0)) ∧ Below W.heap.size W W' from fun W h h0 => top_any (HP.out W h) h0 (by omega))
  have HTK := hide (show ∀ n : Nat, (s.take (s.length - n)).length ≤ s.length from fun n => List.length_take_le' _ _)
  have HSL := hide hs
  obtain ⟨ao, cap, hv, _, hel⟩ := (HY.out W1 (Below.refl _ _)).lo
  cases hv
  obtain ⟨g, q, rfl, hg, hc, _⟩ := ints_at hel hx
  have k5 : W1.cell? ⟨w.heap.size, 5, none⟩ = some (.slice (some ⟨g, q, none⟩) f.lo.length e1) := cell_of hW rfl
  have hgw : g < W1.heap.size := Nat.lt_of_lt_of_le hg (HY.out W1 (Below.refl _ _)).hB
  have dd : decide (m < f.lo.length) = true := by simpa using get_lt hx
  have dl := get_lt hx
  rw [ha] at i1 hW1 HIB ⊢
  clear ha hx hel hg
  clear Y P hX hs hb hW hI
  rw [ho] at i0 hW1 HIB ⊢
  clear ho
  go_enter Tryd.func32, Tryd.ntmps32
  go_wp2_with fail
  refine (HW1.out W1 b s o (Below.refl _ _) (HP.out _ (Below.refl _ _)) (Nat.le_refl _)).mono ?_
  rintro e w9 ⟨b9, rfl, hp9, hb9⟩
  have HB9 := hide (show Below W1.heap.size W1 w9 from bel_tr (Below.refl _ _) hb9)
  have HP9 := hide hp9
  clear hb9 hp9
  go_wp2
  go_ret
  exact ⟨b9, rfl, HP9.out, bel_tr HB.out HB9.out⟩

set_option maxRecDepth 100000 in
set_option maxHeartbeats 1000000 in
theorem bh_13 (Y : WyAt B w (.slice a1 p.ty.length d1) (.slice a2 p.fu.length d2) (.slice a3 p.ta.length d3) (.slice a4 p.st.length d4) (.slice b1 f.lo.length e1) (.slice b2 f.re.length e2) (.slice b3 f.ar.length e3) (.slice b4 f.co.length e4) p f) (i : In3) (P : PileAt X w E b s) (hX : ∀ j, X j → B ≤ j ∧ j < w.heap.size) (hs : s.length ≤ 1000000000000) (ho : i.o = 13) {m t : Nat} (ha : i.a = (m : Int)) (hx : f.ar[m]? = some (t : Int)) (ht : t ≤ 1024) : Calls Tryd.prog 32 #[.agg #[.slice a1 p.ty.length d1, .slice a2 p.fu.length d2, .slice a3 p.ta.length d3, .slice a4 p.st.length d4, .int .i64 f.pa, .slice b1 f.lo.length e1, .slice b2 f.re.length e2, .slice b3 f.ar.length e3, .slice b4 f.co.length e4], .agg #[.int .i64 i.o, .int .i64 i.a, .int .i64 i.b], pp b] w (BhO X E (s ++ [1048578 + 2 * (t : Int)]) w) := by
  obtain ⟨W1, hW1⟩ : ∃ W1, (w.alloc (.cells #[.slice a1 p.ty.length d1, .slice a2 p.fu.length d2, .slice a3 p.ta.length d3, .slice a4 p.st.length d4, .int .i64 f.pa, .slice b1 f.lo.length e1, .slice b2 f.re.length e2, .slice b3 f.ar.length e3, .slice b4 f.co.length e4] 89)).alloc (.cells #[.int .i64 i.o, .int .i64 i.a, .int .i64 i.b] 47) = W1 := ⟨_, rfl⟩
  have hb : Below w.heap.size w W1 := by rw [← hW1]; exact ((Below.refl _ _).alloc (Nat.le_refl _) _).alloc (by simp) _
  have hW : W1.heap[w.heap.size]? = some (.cells #[.slice a1 p.ty.length d1, .slice a2 p.fu.length d2, .slice a3 p.ta.length d3, .slice a4 p.st.length d4, .int .i64 f.pa, .slice b1 f.lo.length e1, .slice b2 f.re.length e2, .slice b3 f.ar.length e3, .slice b4 f.co.length e4] 89 (0, 0)) := by rw [← hW1, Below.heap_alloc _ _ _ (by simp)]; exact heap_new _ _ rfl
  have hI : W1.heap[w.heap.size + 1]? = some (.cells #[.int .i64 i.o, .int .i64 i.a, .int .i64 i.b] 47 (0, 0)) := by rw [← hW1]; exact heap_new _ _ (by simp)
  have i0 : W1.cell? ⟨w.heap.size + 1, 0, none⟩ = some (.int .i64 i.o) := cell_of hI rfl
  have i1 : W1.cell? ⟨w.heap.size + 1, 1, none⟩ = some (.int .i64 i.a) := cell_of hI rfl
  have i2 : W1.cell? ⟨w.heap.size + 1, 2, none⟩ = some (.int .i64 i.b) := cell_of hI rfl
  have hlW := lt_of_block hW
  have hlI := lt_of_block hI
  have HWB := hide (show ∀ W : World, Below W1.heap.size W1 W → W.heap[w.heap.size]? = some (.cells #[.slice a1 p.ty.length d1, .slice a2 p.fu.length d2, .slice a3 p.ta.length d3, .slice a4 p.st.length d4, .int .i64 f.pa, .slice b1 f.lo.length e1, .slice b2 f.re.length e2, .slice b3 f.ar.length e3, .slice b4 f.co.length e4] 89 (0, 0)) from fun W h => (h.block _ hlW).trans hW)
  have HIB := hide (show ∀ W : World, Below W1.heap.size W1 W → W.heap[w.heap.size + 1]? = some (.cells #[.int .i64 i.o, .int .i64 i.a, .int .i64 i.b] 47 (0, 0)) from fun W h => (h.block _ hlI).trans hI)
  have HB := hide hb
  have HY := hide (show ∀ W : World, Below W1.heap.size W1 W → WyAt B W (.slice a1 p.ty.length d1) (.slice a2 p.fu.length d2) (.slice a3 p.ta.length d3) (.slice a4 p.st.length d4) (.slice b1 f.lo.length e1) (.slice b2 f.re.length e2) (.slice b3 f.ar.length e3) (.slice b4 f.co.length e4) p f from fun W h => (Y.below hb).below h)
  have HP := hide (show ∀ W : World, Below W1.heap.size W1 W → PileAt X W E b s from fun W h => P.keep (Kp.of_below (bel_tr hb h)))
  have HX := hide (show ∀ W : World, Below W1.heap.size W1 W → ∀ j, X j → B ≤ j ∧ j < W.heap.size from fun W h j hj => ⟨(hX j hj).1, Nat.lt_of_lt_of_le (hX j hj).2 (bel_tr hb h).size⟩)
  have HXN := hide (show ∀ W : World, Below W1.heap.size W1 W → ¬ X W.heap.size from fun W h hx => Nat.lt_irrefl _ (Nat.lt_of_lt_of_le (hX _ hx).2 (bel_tr hb h).size))
  have HWO := hide (show ∀ (W : World) (n : Nat), Below W1.heap.size W1 W → n ≤ s.length → Calls Tryd.prog 54 #[pp b, .int .i64 (n : Int)] W (BhO X E (s.take (s.length - n)) W) from fun W n h hn => without_any (HP.out W h) hn (fun j hj => (HX.out W h j hj).2) (by omega))
  have HWI := hide (show ∀ (W : World) (b' : Nat) (l' : List Int) (v : Value) (ks : List Int), Below W1.heap.size W1 W → PileAt X W E b' l' → IsAt X W v ks → ks.length ≤ 4096 → l'.length ≤ s.length → Calls Tryd.prog 53 #[pp b', v] W (BhO X E (l' ++ ks) W) from fun W b' l' v ks h hp hi hk hl => with_any hp hi (fun j hj => (HX.out W h j hj).2) (by omega))
  have HW1 := hide (show ∀ (W : World) (b' : Nat) (l' : List Int) (k : Int), Below W1.heap.size W1 W → PileAt X W E b' l' → l'.length ≤ s.length → Calls Tryd.prog 53 #[pp b', .slice (some ⟨W.heap.size, 0, none⟩) 1 1] (W.alloc (.cells #[.int .i64 k] 3)) (BhO X E (l' ++ [k]) W) from fun W b' l' k h hp hl => with1 hp (fun j hj => (HX.out W h j hj).2) (by omega) k _)
  have HTP := hide (show ∀ W : World, Below W1.heap.size W1 W → 0 < s.length → Calls Tryd.prog 55 #[pp b] W fun e W' => e = .returned (.int .i64 (s.getLast?.getD 0)) ∧ Below W.heap.size W W' from fun W h h0 => top_any (HP.out W h) h0 (by omega))
  have HTK := hide (show ∀ n : Nat, (s.take (s.length - n)).length ≤ s.length from fun n => List.length_take_le' _ _)
  have HSL := hide hs
  obtain ⟨ao, cap, hv, _, hel⟩ := (HY.out W1 (Below.refl _ _)).ar
  cases hv
  obtain ⟨g, q, rfl, hg, hc, _⟩ := ints_at hel hx
  have k7 : W1.cell? ⟨w.heap.size, 7, none⟩ = some (.slice (some ⟨g, q, none⟩) f.ar.length e3) := cell_of hW rfl
  have hgw : g < W1.heap.size := Nat.lt_of_lt_of_le hg (HY.out W1 (Below.refl _ _)).hB
  have dd : decide (m < f.ar.length) = true := by simpa using get_lt hx
  have dl := get_lt hx
  have b8 : (t : Int) ≤ 1024 := by omega
  have b9 : (0 : Int) ≤ (t : Int) := by omega
  rw [ha] at i1 hW1 HIB ⊢
  clear ha hx hel hg ht
  clear Y P hX hs hb hW hI
  rw [ho] at i0 hW1 HIB ⊢
  clear ho
  go_enter Tryd.func32, Tryd.ntmps32
  go_wp2_with fail
  refine (HW1.out W1 b s (1048578 + 2 * (t : Int)) (Below.refl _ _) (HP.out _ (Below.refl _ _)) (Nat.le_refl _)).mono ?_
  rintro e w9 ⟨b9, rfl, hp9, hb9⟩
  have HB9 := hide (show Below W1.heap.size W1 w9 from bel_tr (Below.refl _ _) hb9)
  have HP9 := hide hp9
  clear hb9 hp9
  go_wp2
  go_ret
  exact ⟨b9, rfl, HP9.out, bel_tr HB.out HB9.out⟩

set_option maxRecDepth 100000 in
set_option maxHeartbeats 1000000 in
theorem bh_4 (Y : WyAt B w (.slice a1 p.ty.length d1) (.slice a2 p.fu.length d2) (.slice a3 p.ta.length d3) (.slice a4 p.st.length d4) (.slice b1 f.lo.length e1) (.slice b2 f.re.length e2) (.slice b3 f.ar.length e3) (.slice b4 f.co.length e4) p f) (i : In3) (P : PileAt X w E b s) (hX : ∀ j, X j → B ≤ j ∧ j < w.heap.size) (hs : s.length ≤ 1000000000000) (ho : i.o = 4) (hlen : 1 ≤ s.length) : Calls Tryd.prog 32 #[.agg #[.slice a1 p.ty.length d1, .slice a2 p.fu.length d2, .slice a3 p.ta.length d3, .slice a4 p.st.length d4, .int .i64 f.pa, .slice b1 f.lo.length e1, .slice b2 f.re.length e2, .slice b3 f.ar.length e3, .slice b4 f.co.length e4], .agg #[.int .i64 i.o, .int .i64 i.a, .int .i64 i.b], pp b] w (BhO X E (s.take (s.length - 1)) w) := by
  obtain ⟨W1, hW1⟩ : ∃ W1, (w.alloc (.cells #[.slice a1 p.ty.length d1, .slice a2 p.fu.length d2, .slice a3 p.ta.length d3, .slice a4 p.st.length d4, .int .i64 f.pa, .slice b1 f.lo.length e1, .slice b2 f.re.length e2, .slice b3 f.ar.length e3, .slice b4 f.co.length e4] 89)).alloc (.cells #[.int .i64 i.o, .int .i64 i.a, .int .i64 i.b] 47) = W1 := ⟨_, rfl⟩
  have hb : Below w.heap.size w W1 := by rw [← hW1]; exact ((Below.refl _ _).alloc (Nat.le_refl _) _).alloc (by simp) _
  have hW : W1.heap[w.heap.size]? = some (.cells #[.slice a1 p.ty.length d1, .slice a2 p.fu.length d2, .slice a3 p.ta.length d3, .slice a4 p.st.length d4, .int .i64 f.pa, .slice b1 f.lo.length e1, .slice b2 f.re.length e2, .slice b3 f.ar.length e3, .slice b4 f.co.length e4] 89 (0, 0)) := by rw [← hW1, Below.heap_alloc _ _ _ (by simp)]; exact heap_new _ _ rfl
  have hI : W1.heap[w.heap.size + 1]? = some (.cells #[.int .i64 i.o, .int .i64 i.a, .int .i64 i.b] 47 (0, 0)) := by rw [← hW1]; exact heap_new _ _ (by simp)
  have i0 : W1.cell? ⟨w.heap.size + 1, 0, none⟩ = some (.int .i64 i.o) := cell_of hI rfl
  have i1 : W1.cell? ⟨w.heap.size + 1, 1, none⟩ = some (.int .i64 i.a) := cell_of hI rfl
  have i2 : W1.cell? ⟨w.heap.size + 1, 2, none⟩ = some (.int .i64 i.b) := cell_of hI rfl
  have hlW := lt_of_block hW
  have hlI := lt_of_block hI
  have HWB := hide (show ∀ W : World, Below W1.heap.size W1 W → W.heap[w.heap.size]? = some (.cells #[.slice a1 p.ty.length d1, .slice a2 p.fu.length d2, .slice a3 p.ta.length d3, .slice a4 p.st.length d4, .int .i64 f.pa, .slice b1 f.lo.length e1, .slice b2 f.re.length e2, .slice b3 f.ar.length e3, .slice b4 f.co.length e4] 89 (0, 0)) from fun W h => (h.block _ hlW).trans hW)
  have HIB := hide (show ∀ W : World, Below W1.heap.size W1 W → W.heap[w.heap.size + 1]? = some (.cells #[.int .i64 i.o, .int .i64 i.a, .int .i64 i.b] 47 (0, 0)) from fun W h => (h.block _ hlI).trans hI)
  have HB := hide hb
  have HY := hide (show ∀ W : World, Below W1.heap.size W1 W → WyAt B W (.slice a1 p.ty.length d1) (.slice a2 p.fu.length d2) (.slice a3 p.ta.length d3) (.slice a4 p.st.length d4) (.slice b1 f.lo.length e1) (.slice b2 f.re.length e2) (.slice b3 f.ar.length e3) (.slice b4 f.co.length e4) p f from fun W h => (Y.below hb).below h)
  have HP := hide (show ∀ W : World, Below W1.heap.size W1 W → PileAt X W E b s from fun W h => P.keep (Kp.of_below (bel_tr hb h)))
  have HX := hide (show ∀ W : World, Below W1.heap.size W1 W → ∀ j, X j → B ≤ j ∧ j < W.heap.size from fun W h j hj => ⟨(hX j hj).1, Nat.lt_of_lt_of_le (hX j hj).2 (bel_tr hb h).size⟩)
  have HXN := hide (show ∀ W : World, Below W1.heap.size W1 W → ¬ X W.heap.size from fun W h hx => Nat.lt_irrefl _ (Nat.lt_of_lt_of_le (hX _ hx).2 (bel_tr hb h).size))
  have HWO := hide (show ∀ (W : World) (n : Nat), Below W1.heap.size W1 W → n ≤ s.length → Calls Tryd.prog 54 #[pp b, .int .i64 (n : Int)] W (BhO X E (s.take (s.length - n)) W) from fun W n h hn => without_any (HP.out W h) hn (fun j hj => (HX.out W h j hj).2) (by omega))
  have HWI := hide (show ∀ (W : World) (b' : Nat) (l' : List Int) (v : Value) (ks : List Int), Below W1.heap.size W1 W → PileAt X W E b' l' → IsAt X W v ks → ks.length ≤ 4096 → l'.length ≤ s.length → Calls Tryd.prog 53 #[pp b', v] W (BhO X E (l' ++ ks) W) from fun W b' l' v ks h hp hi hk hl => with_any hp hi (fun j hj => (HX.out W h j hj).2) (by omega))
  have HW1 := hide (show ∀ (W : World) (b' : Nat) (l' : List Int) (k : Int), Below W1.heap.size W1 W → PileAt X W E b' l' → l'.length ≤ s.length → Calls Tryd.prog 53 #[pp b', .slice (some ⟨W.heap.size, 0, none⟩) 1 1] (W.alloc (.cells #[.int .i64 k] 3)) (BhO X E (l' ++ [k]) W) from fun W b' l' k h hp hl => with1 hp (fun j hj => (HX.out W h j hj).2) (by omega) k _)
  have HTP := hide (show ∀ W : World, Below W1.heap.size W1 W → 0 < s.length → Calls Tryd.prog 55 #[pp b] W fun e W' => e = .returned (.int .i64 (s.getLast?.getD 0)) ∧ Below W.heap.size W W' from fun W h h0 => top_any (HP.out W h) h0 (by omega))
  have HTK := hide (show ∀ n : Nat, (s.take (s.length - n)).length ≤ s.length from fun n => List.length_take_le' _ _)
  have HSL := hide hs
  have HPOS := hide (show 0 < s.length by omega)
  have HLEN := hide hlen
  clear hlen
  clear Y P hX hs hb hW hI
  rw [ho] at i0 hW1 HIB ⊢
  clear ho
  go_enter Tryd.func32, Tryd.ntmps32
  go_wp2_with fail
  refine (HWO.out W1 1 (Below.refl _ _) HLEN.out).mono ?_
  rintro e w9 ⟨b9, rfl, hp9, hb9⟩
  have HB9 := hide (show Below W1.heap.size W1 w9 from bel_tr (Below.refl _ _) hb9)
  have HP9 := hide hp9
  clear hb9 hp9
  go_wp2
  go_ret
  exact ⟨b9, rfl, HP9.out, bel_tr HB.out HB9.out⟩

set_option maxRecDepth 100000 in
set_option maxHeartbeats 1000000 in
theorem bh_6 (Y : WyAt B w (.slice a1 p.ty.length d1) (.slice a2 p.fu.length d2) (.slice a3 p.ta.length d3) (.slice a4 p.st.length d4) (.slice b1 f.lo.length e1) (.slice b2 f.re.length e2) (.slice b3 f.ar.length e3) (.slice b4 f.co.length e4) p f) (i : In3) (P : PileAt X w E b s) (hX : ∀ j, X j → B ≤ j ∧ j < w.heap.size) (hs : s.length ≤ 1000000000000) (ho : i.o = 6) (hlen : 1 ≤ s.length) : Calls Tryd.prog 32 #[.agg #[.slice a1 p.ty.length d1, .slice a2 p.fu.length d2, .slice a3 p.ta.length d3, .slice a4 p.st.length d4, .int .i64 f.pa, .slice b1 f.lo.length e1, .slice b2 f.re.length e2, .slice b3 f.ar.length e3, .slice b4 f.co.length e4], .agg #[.int .i64 i.o, .int .i64 i.a, .int .i64 i.b], pp b] w (BhO X E (s ++ [s.getLast?.getD 0]) w) := by
  obtain ⟨W1, hW1⟩ : ∃ W1, (w.alloc (.cells #[.slice a1 p.ty.length d1, .slice a2 p.fu.length d2, .slice a3 p.ta.length d3, .slice a4 p.st.length d4, .int .i64 f.pa, .slice b1 f.lo.length e1, .slice b2 f.re.length e2, .slice b3 f.ar.length e3, .slice b4 f.co.length e4] 89)).alloc (.cells #[.int .i64 i.o, .int .i64 i.a, .int .i64 i.b] 47) = W1 := ⟨_, rfl⟩
  have hb : Below w.heap.size w W1 := by rw [← hW1]; exact ((Below.refl _ _).alloc (Nat.le_refl _) _).alloc (by simp) _
  have hW : W1.heap[w.heap.size]? = some (.cells #[.slice a1 p.ty.length d1, .slice a2 p.fu.length d2, .slice a3 p.ta.length d3, .slice a4 p.st.length d4, .int .i64 f.pa, .slice b1 f.lo.length e1, .slice b2 f.re.length e2, .slice b3 f.ar.length e3, .slice b4 f.co.length e4] 89 (0, 0)) := by rw [← hW1, Below.heap_alloc _ _ _ (by simp)]; exact heap_new _ _ rfl
  have hI : W1.heap[w.heap.size + 1]? = some (.cells #[.int .i64 i.o, .int .i64 i.a, .int .i64 i.b] 47 (0, 0)) := by rw [← hW1]; exact heap_new _ _ (by simp)
  have i0 : W1.cell? ⟨w.heap.size + 1, 0, none⟩ = some (.int .i64 i.o) := cell_of hI rfl
  have i1 : W1.cell? ⟨w.heap.size + 1, 1, none⟩ = some (.int .i64 i.a) := cell_of hI rfl
  have i2 : W1.cell? ⟨w.heap.size + 1, 2, none⟩ = some (.int .i64 i.b) := cell_of hI rfl
  have hlW := lt_of_block hW
  have hlI := lt_of_block hI
  have HWB := hide (show ∀ W : World, Below W1.heap.size W1 W → W.heap[w.heap.size]? = some (.cells #[.slice a1 p.ty.length d1, .slice a2 p.fu.length d2, .slice a3 p.ta.length d3, .slice a4 p.st.length d4, .int .i64 f.pa, .slice b1 f.lo.length e1, .slice b2 f.re.length e2, .slice b3 f.ar.length e3, .slice b4 f.co.length e4] 89 (0, 0)) from fun W h => (h.block _ hlW).trans hW)
  have HIB := hide (show ∀ W : World, Below W1.heap.size W1 W → W.heap[w.heap.size + 1]? = some (.cells #[.int .i64 i.o, .int .i64 i.a, .int .i64 i.b] 47 (0, 0)) from fun W h => (h.block _ hlI).trans hI)
  have HB := hide hb
  have HY := hide (show ∀ W : World, Below W1.heap.size W1 W → WyAt B W (.slice a1 p.ty.length d1) (.slice a2 p.fu.length d2) (.slice a3 p.ta.length d3) (.slice a4 p.st.length d4) (.slice b1 f.lo.length e1) (.slice b2 f.re.length e2) (.slice b3 f.ar.length e3) (.slice b4 f.co.length e4) p f from fun W h => (Y.below hb).below h)
  have HP := hide (show ∀ W : World, Below W1.heap.size W1 W → PileAt X W E b s from fun W h => P.keep (Kp.of_below (bel_tr hb h)))
  have HX := hide (show ∀ W : World, Below W1.heap.size W1 W → ∀ j, X j → B ≤ j ∧ j < W.heap.size from fun W h j hj => ⟨(hX j hj).1, Nat.lt_of_lt_of_le (hX j hj).2 (bel_tr hb h).size⟩)
  have HXN := hide (show ∀ W : World, Below W1.heap.size W1 W → ¬ X W.heap.size from fun W h hx => Nat.lt_irrefl _ (Nat.lt_of_lt_of_le (hX _ hx).2 (bel_tr hb h).size))
  have HWO := hide (show ∀ (W : World) (n : Nat), Below W1.heap.size W1 W → n ≤ s.length → Calls Tryd.prog 54 #[pp b, .int .i64 (n : Int)] W (BhO X E (s.take (s.length - n)) W) from fun W n h hn => without_any (HP.out W h) hn (fun j hj => (HX.out W h j hj).2) (by omega))
  have HWI := hide (show ∀ (W : World) (b' : Nat) (l' : List Int) (v : Value) (ks : List Int), Below W1.heap.size W1 W → PileAt X W E b' l' → IsAt X W v ks → ks.length ≤ 4096 → l'.length ≤ s.length → Calls Tryd.prog 53 #[pp b', v] W (BhO X E (l' ++ ks) W) from fun W b' l' v ks h hp hi hk hl => with_any hp hi (fun j hj => (HX.out W h j hj).2) (by omega))
  have HW1 := hide (show ∀ (W : World) (b' : Nat) (l' : List Int) (k : Int), Below W1.heap.size W1 W → PileAt X W E b' l' → l'.length ≤ s.length → Calls Tryd.prog 53 #[pp b', .slice (some ⟨W.heap.size, 0, none⟩) 1 1] (W.alloc (.cells #[.int .i64 k] 3)) (BhO X E (l' ++ [k]) W) from fun W b' l' k h hp hl => with1 hp (fun j hj => (HX.out W h j hj).2) (by omega) k _)
  have HTP := hide (show ∀ W : World, Below W1.heap.size W1 W → 0 < s.length → Calls Tryd.prog 55 #[pp b] W fun e W' => e = .returned (.int .i64 (s.getLast?.getD 0)) ∧ Below W.heap.size W W' from fun W h h0 => top_any (HP.out W h) h0 (by omega))
  have HTK := hide (show ∀ n : Nat, (s.take (s.length - n)).length ≤ s.length from fun n => List.length_take_le' _ _)
  have HSL := hide hs
  have HPOS := hide (show 0 < s.length by omega)
  have HLEN := hide hlen
  clear hlen
  clear Y P hX hs hb hW hI
  rw [ho] at i0 hW1 HIB ⊢
  clear ho
  go_enter Tryd.func32, Tryd.ntmps32
  go_wp2_with fail
  refine (HTP.out W1 (Below.refl _ _) HPOS.out).mono ?_
  rintro e w3 ⟨rfl, hb3⟩
  have HB3 := hide (show Below W1.heap.size W1 w3 from bel_tr (Below.refl _ _) hb3)
  clear hb3
  go_wp2_with fail
  refine (HW1.out w3 b s (s.getLast?.getD 0) HB3.out (HP.out _ HB3.out) (Nat.le_refl _)).mono ?_
  rintro e w9 ⟨b9, rfl, hp9, hb9⟩
  have HB9 := hide (show Below W1.heap.size W1 w9 from bel_tr HB3.out hb9)
  have HP9 := hide hp9
  clear hb9 hp9
  go_wp2
  go_ret
  exact ⟨b9, rfl, HP9.out, bel_tr HB.out HB9.out⟩

set_option maxRecDepth 100000 in
set_option maxHeartbeats 1000000 in
theorem bh_7 (Y : WyAt B w (.slice a1 p.ty.length d1) (.slice a2 p.fu.length d2) (.slice a3 p.ta.length d3) (.slice a4 p.st.length d4) (.slice b1 f.lo.length e1) (.slice b2 f.re.length e2) (.slice b3 f.ar.length e3) (.slice b4 f.co.length e4) p f) (i : In3) (P : PileAt X w E b s) (hX : ∀ j, X j → B ≤ j ∧ j < w.heap.size) (hs : s.length ≤ 1000000000000) (ho : i.o = 7) (hlen : 2 ≤ s.length) : Calls Tryd.prog 32 #[.agg #[.slice a1 p.ty.length d1, .slice a2 p.fu.length d2, .slice a3 p.ta.length d3, .slice a4 p.st.length d4, .int .i64 f.pa, .slice b1 f.lo.length e1, .slice b2 f.re.length e2, .slice b3 f.ar.length e3, .slice b4 f.co.length e4], .agg #[.int .i64 i.o, .int .i64 i.a, .int .i64 i.b], pp b] w (BhO X E (s.take (s.length - 2) ++ [0]) w) := by
  obtain ⟨W1, hW1⟩ : ∃ W1, (w.alloc (.cells #[.slice a1 p.ty.length d1, .slice a2 p.fu.length d2, .slice a3 p.ta.length d3, .slice a4 p.st.length d4, .int .i64 f.pa, .slice b1 f.lo.length e1, .slice b2 f.re.length e2, .slice b3 f.ar.length e3, .slice b4 f.co.length e4] 89)).alloc (.cells #[.int .i64 i.o, .int .i64 i.a, .int .i64 i.b] 47) = W1 := ⟨_, rfl⟩
  have hb : Below w.heap.size w W1 := by rw [← hW1]; exact ((Below.refl _ _).alloc (Nat.le_refl _) _).alloc (by simp) _
  have hW : W1.heap[w.heap.size]? = some (.cells #[.slice a1 p.ty.length d1, .slice a2 p.fu.length d2, .slice a3 p.ta.length d3, .slice a4 p.st.length d4, .int .i64 f.pa, .slice b1 f.lo.length e1, .slice b2 f.re.length e2, .slice b3 f.ar.length e3, .slice b4 f.co.length e4] 89 (0, 0)) := by rw [← hW1, Below.heap_alloc _ _ _ (by simp)]; exact heap_new _ _ rfl
  have hI : W1.heap[w.heap.size + 1]? = some (.cells #[.int .i64 i.o, .int .i64 i.a, .int .i64 i.b] 47 (0, 0)) := by rw [← hW1]; exact heap_new _ _ (by simp)
  have i0 : W1.cell? ⟨w.heap.size + 1, 0, none⟩ = some (.int .i64 i.o) := cell_of hI rfl
  have i1 : W1.cell? ⟨w.heap.size + 1, 1, none⟩ = some (.int .i64 i.a) := cell_of hI rfl
  have i2 : W1.cell? ⟨w.heap.size + 1, 2, none⟩ = some (.int .i64 i.b) := cell_of hI rfl
  have hlW := lt_of_block hW
  have hlI := lt_of_block hI
  have HWB := hide (show ∀ W : World, Below W1.heap.size W1 W → W.heap[w.heap.size]? = some (.cells #[.slice a1 p.ty.length d1, .slice a2 p.fu.length d2, .slice a3 p.ta.length d3, .slice a4 p.st.length d4, .int .i64 f.pa, .slice b1 f.lo.length e1, .slice b2 f.re.length e2, .slice b3 f.ar.length e3, .slice b4 f.co.length e4] 89 (0, 0)) from fun W h => (h.block _ hlW).trans hW)
  have HIB := hide (show ∀ W : World, Below W1.heap.size W1 W → W.heap[w.heap.size + 1]? = some (.cells #[.int .i64 i.o, .int .i64 i.a, .int .i64 i.b] 47 (0, 0)) from fun W h => (h.block _ hlI).trans hI)
  have HB := hide hb
  have HY := hide (show ∀ W : World, Below W1.heap.size W1 W → WyAt B W (.slice a1 p.ty.length d1) (.slice a2 p.fu.length d2) (.slice a3 p.ta.length d3) (.slice a4 p.st.length d4) (.slice b1 f.lo.length e1) (.slice b2 f.re.length e2) (.slice b3 f.ar.length e3) (.slice b4 f.co.length e4) p f from fun W h => (Y.below hb).below h)
  have HP := hide (show ∀ W : World, Below W1.heap.size W1 W → PileAt X W E b s from fun W h => P.keep (Kp.of_below (bel_tr hb h)))
  have HX := hide (show ∀ W : World, Below W1.heap.size W1 W → ∀ j, X j → B ≤ j ∧ j < W.heap.size from fun W h j hj => ⟨(hX j hj).1, Nat.lt_of_lt_of_le (hX j hj).2 (bel_tr hb h).size⟩)
  have HXN := hide (show ∀ W : World, Below W1.heap.size W1 W → ¬ X W.heap.size from fun W h hx => Nat.lt_irrefl _ (Nat.lt_of_lt_of_le (hX _ hx).2 (bel_tr hb h).size))
  have HWO := hide (show ∀ (W : World) (n : Nat), Below W1.heap.size W1 W → n ≤ s.length → Calls Tryd.prog 54 #[pp b, .int .i64 (n : Int)] W (BhO X E (s.take (s.length - n)) W) from fun W n h hn => without_any (HP.out W h) hn (fun j hj => (HX.out W h j hj).2) (by omega))
  have HWI := hide (show ∀ (W : World) (b' : Nat) (l' : List Int) (v : Value) (ks : List Int), Below W1.heap.size W1 W → PileAt X W E b' l' → IsAt X W v ks → ks.length ≤ 4096 → l'.length ≤ s.length → Calls Tryd.prog 53 #[pp b', v] W (BhO X E (l' ++ ks) W) from fun W b' l' v ks h hp hi hk hl => with_any hp hi (fun j hj => (HX.out W h j hj).2) (by omega))
  have HW1 := hide (show ∀ (W : World) (b' : Nat) (l' : List Int) (k : Int), Below W1.heap.size W1 W → PileAt X W E b' l' → l'.length ≤ s.length → Calls Tryd.prog 53 #[pp b', .slice (some ⟨W.heap.size, 0, none⟩) 1 1] (W.alloc (.cells #[.int .i64 k] 3)) (BhO X E (l' ++ [k]) W) from fun W b' l' k h hp hl => with1 hp (fun j hj => (HX.out W h j hj).2) (by omega) k _)
  have HTP := hide (show ∀ W : World, Below W1.heap.size W1 W → 0 < s.length → Calls Tryd.prog 55 #[pp b] W fun e W' => e = .returned (.int .i64 (s.getLast?.getD 0)) ∧ Below W.heap.size W W' from fun W h h0 => top_any (HP.out W h) h0 (by omega))
  have HTK := hide (show ∀ n : Nat, (s.take (s.length - n)).length ≤ s.length from fun n => List.length_take_le' _ _)
  have HSL := hide hs
  have HPOS := hide (show 0 < s.length by omega)
  have HLEN := hide hlen
  clear hlen
  clear Y P hX hs hb hW hI
  rw [ho] at i0 hW1 HIB ⊢
  clear ho
  go_enter Tryd.func32, Tryd.ntmps32
  go_wp2_with fail
  refine (HWO.out W1 2 (Below.refl _ _) HLEN.out).mono ?_
  rintro e w3 ⟨b3, rfl, hp3, hb3⟩
  have HB3 := hide (show Below W1.heap.size W1 w3 from bel_tr (Below.refl _ _) hb3)
  have HP3 := hide hp3
  clear hb3 hp3
  go_wp2_with fail
  refine (HW1.out w3 b3 (s.take (s.length - 2)) 0 HB3.out HP3.out (HTK.out _)).mono ?_
  rintro e w9 ⟨b9, rfl, hp9, hb9⟩
  have HB9 := hide (show Below W1.heap.size W1 w9 from bel_tr HB3.out hb9)
  have HP9 := hide hp9
  clear hb9 hp9
  go_wp2
  go_ret
  exact ⟨b9, rfl, HP9.out, bel_tr HB.out HB9.out⟩

set_option maxRecDepth 100000 in
set_option maxHeartbeats 1000000 in
theorem bh_11 (Y : WyAt B w (.slice a1 p.ty.length d1) (.slice a2 p.fu.length d2) (.slice a3 p.ta.length d3) (.slice a4 p.st.length d4) (.slice b1 f.lo.length e1) (.slice b2 f.re.length e2) (.slice b3 f.ar.length e3) (.slice b4 f.co.length e4) p f) (i : In3) (P : PileAt X w E b s) (hX : ∀ j, X j → B ≤ j ∧ j < w.heap.size) (hs : s.length ≤ 1000000000000) (ho : i.o = 11) {t : Nat} (hia : i.a = (t : Int)) (ht : t ≤ 1024) : Calls Tryd.prog 32 #[.agg #[.slice a1 p.ty.length d1, .slice a2 p.fu.length d2, .slice a3 p.ta.length d3, .slice a4 p.st.length d4, .int .i64 f.pa, .slice b1 f.lo.length e1, .slice b2 f.re.length e2, .slice b3 f.ar.length e3, .slice b4 f.co.length e4], .agg #[.int .i64 i.o, .int .i64 i.a, .int .i64 i.b], pp b] w (BhO X E (s ++ [2 + 2 * (t : Int)]) w) := by
  obtain ⟨W1, hW1⟩ : ∃ W1, (w.alloc (.cells #[.slice a1 p.ty.length d1, .slice a2 p.fu.length d2, .slice a3 p.ta.length d3, .slice a4 p.st.length d4, .int .i64 f.pa, .slice b1 f.lo.length e1, .slice b2 f.re.length e2, .slice b3 f.ar.length e3, .slice b4 f.co.length e4] 89)).alloc (.cells #[.int .i64 i.o, .int .i64 i.a, .int .i64 i.b] 47) = W1 := ⟨_, rfl⟩
  have hb : Below w.heap.size w W1 := by rw [← hW1]; exact ((Below.refl _ _).alloc (Nat.le_refl _) _).alloc (by simp) _
  have hW : W1.heap[w.heap.size]? = some (.cells #[.slice a1 p.ty.length d1, .slice a2 p.fu.length d2, .slice a3 p.ta.length d3, .slice a4 p.st.length d4, .int .i64 f.pa, .slice b1 f.lo.length e1, .slice b2 f.re.length e2, .slice b3 f.ar.length e3, .slice b4 f.co.length e4] 89 (0, 0)) := by rw [← hW1, Below.heap_alloc _ _ _ (by simp)]; exact heap_new _ _ rfl
  have hI : W1.heap[w.heap.size + 1]? = some (.cells #[.int .i64 i.o, .int .i64 i.a, .int .i64 i.b] 47 (0, 0)) := by rw [← hW1]; exact heap_new _ _ (by simp)
  have i0 : W1.cell? ⟨w.heap.size + 1, 0, none⟩ = some (.int .i64 i.o) := cell_of hI rfl
  have i1 : W1.cell? ⟨w.heap.size + 1, 1, none⟩ = some (.int .i64 i.a) := cell_of hI rfl
  have i2 : W1.cell? ⟨w.heap.size + 1, 2, none⟩ = some (.int .i64 i.b) := cell_of hI rfl
  have hlW := lt_of_block hW
  have hlI := lt_of_block hI
  have HWB := hide (show ∀ W : World, Below W1.heap.size W1 W → W.heap[w.heap.size]? = some (.cells #[.slice a1 p.ty.length d1, .slice a2 p.fu.length d2, .slice a3 p.ta.length d3, .slice a4 p.st.length d4, .int .i64 f.pa, .slice b1 f.lo.length e1, .slice b2 f.re.length e2, .slice b3 f.ar.length e3, .slice b4 f.co.length e4] 89 (0, 0)) from fun W h => (h.block _ hlW).trans hW)
  have HIB := hide (show ∀ W : World, Below W1.heap.size W1 W → W.heap[w.heap.size + 1]? = some (.cells #[.int .i64 i.o, .int .i64 i.a, .int .i64 i.b] 47 (0, 0)) from fun W h => (h.block _ hlI).trans hI)
  have HB := hide hb
  have HY := hide (show ∀ W : World, Below W1.heap.size W1 W → WyAt B W (.slice a1 p.ty.length d1) (.slice a2 p.fu.length d2) (.slice a3 p.ta.length d3) (.slice a4 p.st.length d4) (.slice b1 f.lo.length e1) (.slice b2 f.re.length e2) (.slice b3 f.ar.length e3) (.slice b4 f.co.length e4) p f from fun W h => (Y.below hb).below h)
  have HP := hide (show ∀ W : World, Below W1.heap.size W1 W → PileAt X W E b s from fun W h => P.keep (Kp.of_below (bel_tr hb h)))
  have HX := hide (show ∀ W : World, Below W1.heap.size W1 W → ∀ j, X j → B ≤ j ∧ j < W.heap.size from fun W h j hj => ⟨(hX j hj).1, Nat.lt_of_lt_of_le (hX j hj).2 (bel_tr hb h).size⟩)
  have HXN := hide (show ∀ W : World, Below W1.heap.size W1 W → ¬ X W.heap.size from fun W h hx => Nat.lt_irrefl _ (Nat.lt_of_lt_of_le (hX _ hx).2 (bel_tr hb h).size))
  have HWO := hide (show ∀ (W : World) (n : Nat), Below W1.heap.size W1 W → n ≤ s.length → Calls Tryd.prog 54 #[pp b, .int .i64 (n : Int)] W (BhO X E (s.take (s.length - n)) W) from fun W n h hn => without_any (HP.out W h) hn (fun j hj => (HX.out W h j hj).2) (by omega))
  have HWI := hide (show ∀ (W : World) (b' : Nat) (l' : List Int) (v : Value) (ks : List Int), Below W1.heap.size W1 W → PileAt X W E b' l' → IsAt X W v ks → ks.length ≤ 4096 → l'.length ≤ s.length → Calls Tryd.prog 53 #[pp b', v] W (BhO X E (l' ++ ks) W) from fun W b' l' v ks h hp hi hk hl => with_any hp hi (fun j hj => (HX.out W h j hj).2) (by omega))
  have HW1 := hide (show ∀ (W : World) (b' : Nat) (l' : List Int) (k : Int), Below W1.heap.size W1 W → PileAt X W E b' l' → l'.length ≤ s.length → Calls Tryd.prog 53 #[pp b', .slice (some ⟨W.heap.size, 0, none⟩) 1 1] (W.alloc (.cells #[.int .i64 k] 3)) (BhO X E (l' ++ [k]) W) from fun W b' l' k h hp hl => with1 hp (fun j hj => (HX.out W h j hj).2) (by omega) k _)
  have HTP := hide (show ∀ W : World, Below W1.heap.size W1 W → 0 < s.length → Calls Tryd.prog 55 #[pp b] W fun e W' => e = .returned (.int .i64 (s.getLast?.getD 0)) ∧ Below W.heap.size W W' from fun W h h0 => top_any (HP.out W h) h0 (by omega))
  have HTK := hide (show ∀ n : Nat, (s.take (s.length - n)).length ≤ s.length from fun n => List.length_take_le' _ _)
  have HSL := hide hs
  have b8 : (t : Int) ≤ 1024 := by omega
  have b9 : (0 : Int) ≤ (t : Int) := by omega
  rw [hia] at i1 hW1 HIB ⊢
  clear hia ht
  clear Y P hX hs hb hW hI
  rw [ho] at i0 hW1 HIB ⊢
  clear ho
  go_enter Tryd.func32, Tryd.ntmps32
  go_wp2_with fail
  refine (HW1.out W1 b s (2 + 2 * (t : Int)) (Below.refl _ _) (HP.out _ (Below.refl _ _)) (Nat.le_refl _)).mono ?_
  rintro e w9 ⟨b9, rfl, hp9, hb9⟩
  have HB9 := hide (show Below W1.heap.size W1 w9 from bel_tr (Below.refl _ _) hb9)
  have HP9 := hide hp9
  clear hb9 hp9
  go_wp2
  go_ret
  exact ⟨b9, rfl, HP9.out, bel_tr HB.out HB9.out⟩

set_option maxRecDepth 100000 in
set_option maxHeartbeats 1000000 in
theorem bh_29 (Y : WyAt B w (.slice a1 p.ty.length d1) (.slice a2 p.fu.length d2) (.slice a3 p.ta.length d3) (.slice a4 p.st.length d4) (.slice b1 f.lo.length e1) (.slice b2 f.re.length e2) (.slice b3 f.ar.length e3) (.slice b4 f.co.length e4) p f) (i : In3) (P : PileAt X w E b s) (hX : ∀ j, X j → B ≤ j ∧ j < w.heap.size) (hs : s.length ≤ 1000000000000) (ho : i.o = 29) {t : Nat} (hib : i.b = (t : Int)) (ht : t ≤ 1024) : Calls Tryd.prog 32 #[.agg #[.slice a1 p.ty.length d1, .slice a2 p.fu.length d2, .slice a3 p.ta.length d3, .slice a4 p.st.length d4, .int .i64 f.pa, .slice b1 f.lo.length e1, .slice b2 f.re.length e2, .slice b3 f.ar.length e3, .slice b4 f.co.length e4], .agg #[.int .i64 i.o, .int .i64 i.a, .int .i64 i.b], pp b] w (BhO X E (s ++ [3 + 2 * (t : Int)]) w) := by
  obtain ⟨W1, hW1⟩ : ∃ W1, (w.alloc (.cells #[.slice a1 p.ty.length d1, .slice a2 p.fu.length d2, .slice a3 p.ta.length d3, .slice a4 p.st.length d4, .int .i64 f.pa, .slice b1 f.lo.length e1, .slice b2 f.re.length e2, .slice b3 f.ar.length e3, .slice b4 f.co.length e4] 89)).alloc (.cells #[.int .i64 i.o, .int .i64 i.a, .int .i64 i.b] 47) = W1 := ⟨_, rfl⟩
  have hb : Below w.heap.size w W1 := by rw [← hW1]; exact ((Below.refl _ _).alloc (Nat.le_refl _) _).alloc (by simp) _
  have hW : W1.heap[w.heap.size]? = some (.cells #[.slice a1 p.ty.length d1, .slice a2 p.fu.length d2, .slice a3 p.ta.length d3, .slice a4 p.st.length d4, .int .i64 f.pa, .slice b1 f.lo.length e1, .slice b2 f.re.length e2, .slice b3 f.ar.length e3, .slice b4 f.co.length e4] 89 (0, 0)) := by rw [← hW1, Below.heap_alloc _ _ _ (by simp)]; exact heap_new _ _ rfl
  have hI : W1.heap[w.heap.size + 1]? = some (.cells #[.int .i64 i.o, .int .i64 i.a, .int .i64 i.b] 47 (0, 0)) := by rw [← hW1]; exact heap_new _ _ (by simp)
  have i0 : W1.cell? ⟨w.heap.size + 1, 0, none⟩ = some (.int .i64 i.o) := cell_of hI rfl
  have i1 : W1.cell? ⟨w.heap.size + 1, 1, none⟩ = some (.int .i64 i.a) := cell_of hI rfl
  have i2 : W1.cell? ⟨w.heap.size + 1, 2, none⟩ = some (.int .i64 i.b) := cell_of hI rfl
  have hlW := lt_of_block hW
  have hlI := lt_of_block hI
  have HWB := hide (show ∀ W : World, Below W1.heap.size W1 W → W.heap[w.heap.size]? = some (.cells #[.slice a1 p.ty.length d1, .slice a2 p.fu.length d2, .slice a3 p.ta.length d3, .slice a4 p.st.length d4, .int .i64 f.pa, .slice b1 f.lo.length e1, .slice b2 f.re.length e2, .slice b3 f.ar.length e3, .slice b4 f.co.length e4] 89 (0, 0)) from fun W h => (h.block _ hlW).trans hW)
  have HIB := hide (show ∀ W : World, Below W1.heap.size W1 W → W.heap[w.heap.size + 1]? = some (.cells #[.int .i64 i.o, .int .i64 i.a, .int .i64 i.b] 47 (0, 0)) from fun W h => (h.block _ hlI).trans hI)
  have HB := hide hb
  have HY := hide (show ∀ W : World, Below W1.heap.size W1 W → WyAt B W (.slice a1 p.ty.length d1) (.slice a2 p.fu.length d2) (.slice a3 p.ta.length d3) (.slice a4 p.st.length d4) (.slice b1 f.lo.length e1) (.slice b2 f.re.length e2) (.slice b3 f.ar.length e3) (.slice b4 f.co.length e4) p f from fun W h => (Y.below hb).below h)
  have HP := hide (show ∀ W : World, Below W1.heap.size W1 W → PileAt X W E b s from fun W h => P.keep (Kp.of_below (bel_tr hb h)))
  have HX := hide (show ∀ W : World, Below W1.heap.size W1 W → ∀ j, X j → B ≤ j ∧ j < W.heap.size from fun W h j hj => ⟨(hX j hj).1, Nat.lt_of_lt_of_le (hX j hj).2 (bel_tr hb h).size⟩)
  have HXN := hide (show ∀ W : World, Below W1.heap.size W1 W → ¬ X W.heap.size from fun W h hx => Nat.lt_irrefl _ (Nat.lt_of_lt_of_le (hX _ hx).2 (bel_tr hb h).size))
  have HWO := hide (show ∀ (W : World) (n : Nat), Below W1.heap.size W1 W → n ≤ s.length → Calls Tryd.prog 54 #[pp b, .int .i64 (n : Int)] W (BhO X E (s.take (s.length - n)) W) from fun W n h hn => without_any (HP.out W h) hn (fun j hj => (HX.out W h j hj).2) (by omega))
  have HWI := hide (show ∀ (W : World) (b' : Nat) (l' : List Int) (v : Value) (ks : List Int), Below W1.heap.size W1 W → PileAt X W E b' l' → IsAt X W v ks → ks.length ≤ 4096 → l'.length ≤ s.length → Calls Tryd.prog 53 #[pp b', v] W (BhO X E (l' ++ ks) W) from fun W b' l' v ks h hp hi hk hl => with_any hp hi (fun j hj => (HX.out W h j hj).2) (by omega))
  have HW1 := hide (show ∀ (W : World) (b' : Nat) (l' : List Int) (k : Int), Below W1.heap.size W1 W → PileAt X W E b' l' → l'.length ≤ s.length → Calls Tryd.prog 53 #[pp b', .slice (some ⟨W.heap.size, 0, none⟩) 1 1] (W.alloc (.cells #[.int .i64 k] 3)) (BhO X E (l' ++ [k]) W) from fun W b' l' k h hp hl => with1 hp (fun j hj => (HX.out W h j hj).2) (by omega) k _)
  have HTP := hide (show ∀ W : World, Below W1.heap.size W1 W → 0 < s.length → Calls Tryd.prog 55 #[pp b] W fun e W' => e = .returned (.int .i64 (s.getLast?.getD 0)) ∧ Below W.heap.size W W' from fun W h h0 => top_any (HP.out W h) h0 (by omega))
  have HTK := hide (show ∀ n : Nat, (s.take (s.length - n)).length ≤ s.length from fun n => List.length_take_le' _ _)
  have HSL := hide hs
  have b8 : (t : Int) ≤ 1024 := by omega
  have b9 : (0 : Int) ≤ (t : Int) := by omega
  rw [hib] at i2 hW1 HIB ⊢
  clear hib ht
  clear Y P hX hs hb hW hI
  rw [ho] at i0 hW1 HIB ⊢
  clear ho
  go_enter Tryd.func32, Tryd.ntmps32
  go_wp2_with fail
  refine (HW1.out W1 b s (3 + 2 * (t : Int)) (Below.refl _ _) (HP.out _ (Below.refl _ _)) (Nat.le_refl _)).mono ?_
  rintro e w9 ⟨b9, rfl, hp9, hb9⟩
  have HB9 := hide (show Below W1.heap.size W1 w9 from bel_tr (Below.refl _ _) hb9)
  have HP9 := hide hp9
  clear hb9 hp9
  go_wp2
  go_ret
  exact ⟨b9, rfl, HP9.out, bel_tr HB.out HB9.out⟩

end
end Go.Proofs.YtkdojpnihinpbaaDoor

namespace Go.Proofs.YtkdojpnihinpbaaDoor
open Go.RowKit
section
variable {B E b : Nat} {X : Nat → Prop} {w : World} {a1 a2 a3 a4 b1 b2 b3 b4 : Option Addr} {d1 d2 d3 d4 e1 e2 e3 e4 : Nat} {p : Pg} {f : Fd} {s : List Int}
set_option maxRecDepth 100000 in
set_option maxHeartbeats 1000000 in
theorem bh_5 (Y : WyAt B w (.slice a1 p.ty.length d1) (.slice a2 p.fu.length d2) (.slice a3 p.ta.length d3) (.slice a4 p.st.length d4) (.slice b1 f.lo.length e1) (.slice b2 f.re.length e2) (.slice b3 f.ar.length e3) (.slice b4 f.co.length e4) p f) (i : In3) (P : PileAt X w E b s) (hX : ∀ j, X j → B ≤ j ∧ j < w.heap.size) (hs : s.length ≤ 1000000000000) (ho : i.o = 5) (hlen : 1 ≤ s.length) : Calls Tryd.prog 32 #[.agg #[.slice a1 p.ty.length d1, .slice a2 p.fu.length d2, .slice a3 p.ta.length d3, .slice a4 p.st.length d4, .int .i64 f.pa, .slice b1 f.lo.length e1, .slice b2 f.re.length e2, .slice b3 f.ar.length e3, .slice b4 f.co.length e4], .agg #[.int .i64 i.o, .int .i64 i.a, .int .i64 i.b], pp b] w (BhO X E (s.take (s.length - 1)) w) := by
  obtain ⟨W1, hW1⟩ : ∃ W1, (w.alloc (.cells #[.slice a1 p.ty.length d1, .slice a2 p.fu.length d2, .slice a3 p.ta.length d3, .slice a4 p.st.length d4, .int .i64 f.pa, .slice b1 f.lo.length e1, .slice b2 f.re.length e2, .slice b3 f.ar.length e3, .slice b4 f.co.length e4] 89)).alloc (.cells #[.int .i64 i.o, .int .i64 i.a, .int .i64 i.b] 47) = W1 := ⟨_, rfl⟩
  have hb : Below w.heap.size w W1 := by rw [← hW1]; exact ((Below.refl _ _).alloc (Nat.le_refl _) _).alloc (by simp) _
  have hW : W1.heap[w.heap.size]? = some (.cells #[.slice a1 p.ty.length d1, .slice a2 p.fu.length d2, .slice a3 p.ta.length d3, .slice a4 p.st.length d4, .int .i64 f.pa, .slice b1 f.lo.length e1, .slice b2 f.re.length e2, .slice b3 f.ar.length e3, .slice b4 f.co.length e4] 89 (0, 0)) := by rw [← hW1, Below.heap_alloc _ _ _ (by simp)]; exact heap_new _ _ rfl
  have hI : W1.heap[w.heap.size + 1]? = some (.cells #[.int .i64 i.o, .int .i64 i.a, .int .i64 i.b] 47 (0, 0)) := by rw [← hW1]; exact heap_new _ _ (by simp)
  have i0 : W1.cell? ⟨w.heap.size + 1, 0, none⟩ = some (.int .i64 i.o) := cell_of hI rfl
  have i1 : W1.cell? ⟨w.heap.size + 1, 1, none⟩ = some (.int .i64 i.a) := cell_of hI rfl
  have i2 : W1.cell? ⟨w.heap.size + 1, 2, none⟩ = some (.int .i64 i.b) := cell_of hI rfl
  have hlW := lt_of_block hW
  have hlI := lt_of_block hI
  have HWB := hide (show ∀ W : World, Below W1.heap.size W1 W → W.heap[w.heap.size]? = some (.cells #[.slice a1 p.ty.length d1, .slice a2 p.fu.length d2, .slice a3 p.ta.length d3, .slice a4 p.st.length d4, .int .i64 f.pa, .slice b1 f.lo.length e1, .slice b2 f.re.length e2, .slice b3 f.ar.length e3, .slice b4 f.co.length e4] 89 (0, 0)) from fun W h => (h.block _ hlW).trans hW)
  have HIB := hide (show ∀ W : World, Below W1.heap.size W1 W → W.heap[w.heap.size + 1]? = some (.cells #[.int .i64 i.o, .int .i64 i.a, .int .i64 i.b] 47 (0, 0)) from fun W h => (h.block _ hlI).trans hI)
  have HB := hide hb
  have HY := hide (show ∀ W : World, Below W1.heap.size W1 W → WyAt B W (.slice a1 p.ty.length d1) (.slice a2 p.fu.length d2) (.slice a3 p.ta.length d3) (.slice a4 p.st.length d4) (.slice b1 f.lo.length e1) (.slice b2 f.re.length e2) (.slice b3 f.ar.length e3) (.slice b4 f.co.length e4) p f from fun W h => (Y.below hb).below h)
  have HP := hide (show ∀ W : World, Below W1.heap.size W1 W → PileAt X W E b s from fun W h => P.keep (Kp.of_below (bel_tr hb h)))
  have HX := hide (show ∀ W : World, Below W1.heap.size W1 W → ∀ j, X j → B ≤ j ∧ j < W.heap.size from fun W h j hj => ⟨(hX j hj).1, Nat.lt_of_lt_of_le (hX j hj).2 (bel_tr hb h).size⟩)
  have HXN := hide (show ∀ W : World, Below W1.heap.size W1 W → ¬ X W.heap.size from fun W h hx => Nat.lt_irrefl _ (Nat.lt_of_lt_of_le (hX _ hx).2 (bel_tr hb h).size))
  have HWO := hide (show ∀ (W : World) (n : Nat), Below W1.heap.size W1 W → n ≤ s.length → Calls Tryd.prog 54 #[pp b, .int .i64 (n : Int)] W (BhO X E (s.take (s.length - n)) W) from fun W n h hn => without_any (HP.out W h) hn (fun j hj => (HX.out W h j hj).2) (by omega))
  have HWI := hide (show ∀ (W : World) (b' : Nat) (l' : List Int) (v : Value) (ks : List Int), Below W1.heap.size W1 W → PileAt X W E b' l' → IsAt X W v ks → ks.length ≤ 4096 → l'.length ≤ s.length → Calls Tryd.prog 53 #[pp b', v] W (BhO X E (l' ++ ks) W) from fun W b' l' v ks h hp hi hk hl => with_any hp hi (fun j hj => (HX.out W h j hj).2) (by omega))
  have HW1 := hide (show ∀ (W : World) (b' : Nat) (l' : List Int) (k : Int), Below W1.heap.size W1 W → PileAt X W E b' l' → l'.length ≤ s.length → Calls Tryd.prog 53 #[pp b', .slice (some ⟨W.heap.size, 0, none⟩) 1 1] (W.alloc (.cells #[.int .i64 k] 3)) (BhO X E (l' ++ [k]) W) from fun W b' l' k h hp hl => with1 hp (fun j hj => (HX.out W h j hj).2) (by omega) k _)
  have HTP := hide (show ∀ W : World, Below W1.heap.size W1 W → 0 < s.length → Calls Tryd.prog 55 #[pp b] W fun e W' => e = .returned (.int .i64 (s.getLast?.getD 0)) ∧ Below W.heap.size W W' from fun W h h0 => top_any (HP.out W h) h0 (by omega))
  have HTK := hide (show ∀ n : Nat, (s.take (s.length - n)).length ≤ s.length from fun n => List.length_take_le' _ _)
  have HSL := hide hs
  have HPOS := hide (show 0 < s.length by omega)
  have HLEN := hide hlen
  clear hlen
  clear Y P hX hs hb hW hI
  rw [ho] at i0 hW1 HIB ⊢
  clear ho
  go_enter Tryd.func32, Tryd.ntmps32
  go_wp2_with fail
  refine (HWO.out W1 1 (Below.refl _ _) HLEN.out).mono ?_
  rintro e w9 ⟨b9, rfl, hp9, hb9⟩
  have HB9 := hide (show Below W1.heap.size W1 w9 from bel_tr (Below.refl _ _) hb9)
  have HP9 := hide hp9
  clear hb9 hp9
  go_wp2
  go_ret
  exact ⟨b9, rfl, HP9.out, bel_tr HB.out HB9.out⟩

set_option maxRecDepth 100000 in
set_option maxHeartbeats 1000000 in
theorem bh_10 (Y : WyAt B w (.slice a1 p.ty.length d1) (.slice a2 p.fu.length d2) (.slice a3 p.ta.length d3) (.slice a4 p.st.length d4) (.slice b1 f.lo.length e1) (.slice b2 f.re.length e2) (.slice b3 f.ar.length e3) (.slice b4 f.co.length e4) p f) (i : In3) (P : PileAt X w E b s) (hX : ∀ j, X j → B ≤ j ∧ j < w.heap.size) (hs : s.length ≤ 1000000000000) (ho : i.o = 10) (hlen : 1 ≤ s.length) : Calls Tryd.prog 32 #[.agg #[.slice a1 p.ty.length d1, .slice a2 p.fu.length d2, .slice a3 p.ta.length d3, .slice a4 p.st.length d4, .int .i64 f.pa, .slice b1 f.lo.length e1, .slice b2 f.re.length e2, .slice b3 f.ar.length e3, .slice b4 f.co.length e4], .agg #[.int .i64 i.o, .int .i64 i.a, .int .i64 i.b], pp b] w (BhO X E (s.take (s.length - 1)) w) := by
  obtain ⟨W1, hW1⟩ : ∃ W1, (w.alloc (.cells #[.slice a1 p.ty.length d1, .slice a2 p.fu.length d2, .slice a3 p.ta.length d3, .slice a4 p.st.length d4, .int .i64 f.pa, .slice b1 f.lo.length e1, .slice b2 f.re.length e2, .slice b3 f.ar.length e3, .slice b4 f.co.length e4] 89)).alloc (.cells #[.int .i64 i.o, .int .i64 i.a, .int .i64 i.b] 47) = W1 := ⟨_, rfl⟩
  have hb : Below w.heap.size w W1 := by rw [← hW1]; exact ((Below.refl _ _).alloc (Nat.le_refl _) _).alloc (by simp) _
  have hW : W1.heap[w.heap.size]? = some (.cells #[.slice a1 p.ty.length d1, .slice a2 p.fu.length d2, .slice a3 p.ta.length d3, .slice a4 p.st.length d4, .int .i64 f.pa, .slice b1 f.lo.length e1, .slice b2 f.re.length e2, .slice b3 f.ar.length e3, .slice b4 f.co.length e4] 89 (0, 0)) := by rw [← hW1, Below.heap_alloc _ _ _ (by simp)]; exact heap_new _ _ rfl
  have hI : W1.heap[w.heap.size + 1]? = some (.cells #[.int .i64 i.o, .int .i64 i.a, .int .i64 i.b] 47 (0, 0)) := by rw [← hW1]; exact heap_new _ _ (by simp)
  have i0 : W1.cell? ⟨w.heap.size + 1, 0, none⟩ = some (.int .i64 i.o) := cell_of hI rfl
  have i1 : W1.cell? ⟨w.heap.size + 1, 1, none⟩ = some (.int .i64 i.a) := cell_of hI rfl
  have i2 : W1.cell? ⟨w.heap.size + 1, 2, none⟩ = some (.int .i64 i.b) := cell_of hI rfl
  have hlW := lt_of_block hW
  have hlI := lt_of_block hI
  have HWB := hide (show ∀ W : World, Below W1.heap.size W1 W → W.heap[w.heap.size]? = some (.cells #[.slice a1 p.ty.length d1, .slice a2 p.fu.length d2, .slice a3 p.ta.length d3, .slice a4 p.st.length d4, .int .i64 f.pa, .slice b1 f.lo.length e1, .slice b2 f.re.length e2, .slice b3 f.ar.length e3, .slice b4 f.co.length e4] 89 (0, 0)) from fun W h => (h.block _ hlW).trans hW)
  have HIB := hide (show ∀ W : World, Below W1.heap.size W1 W → W.heap[w.heap.size + 1]? = some (.cells #[.int .i64 i.o, .int .i64 i.a, .int .i64 i.b] 47 (0, 0)) from fun W h => (h.block _ hlI).trans hI)
  have HB := hide hb
  have HY := hide (show ∀ W : World, Below W1.heap.size W1 W → WyAt B W (.slice a1 p.ty.length d1) (.slice a2 p.fu.length d2) (.slice a3 p.ta.length d3) (.slice a4 p.st.length d4) (.slice b1 f.lo.length e1) (.slice b2 f.re.length e2) (.slice b3 f.ar.length e3) (.slice b4 f.co.length e4) p f from fun W h => (Y.below hb).below h)
  have HP := hide (show ∀ W : World, Below W1.heap.size W1 W → PileAt X W E b s from fun W h => P.keep (Kp.of_below (bel_tr hb h)))
  have HX := hide (show ∀ W : World, Below W1.heap.size W1 W → ∀ j, X j → B ≤ j ∧ j < W.heap.size from fun W h j hj => ⟨(hX j hj).1, Nat.lt_of_lt_of_le (hX j hj).2 (bel_tr hb h).size⟩)
  have HXN := hide (show ∀ W : World, Below W1.heap.size W1 W → ¬ X W.heap.size from fun W h hx => Nat.lt_irrefl _ (Nat.lt_of_lt_of_le (hX _ hx).2 (bel_tr hb h).size))
  have HWO := hide (show ∀ (W : World) (n : Nat), Below W1.heap.size W1 W → n ≤ s.length → Calls Tryd.prog 54 #[pp b, .int .i64 (n : Int)] W (BhO X E (s.take (s.length - n)) W) from fun W n h hn => without_any (HP.out W h) hn (fun j hj => (HX.out W h j hj).2) (by omega))
  have HWI := hide (show ∀ (W : World) (b' : Nat) (l' : List Int) (v : Value) (ks : List Int), Below W1.heap.size W1 W → PileAt X W E b' l' → IsAt X W v ks → ks.length ≤ 4096 → l'.length ≤ s.length → Calls Tryd.prog 53 #[pp b', v] W (BhO X E (l' ++ ks) W) from fun W b' l' v ks h hp hi hk hl => with_any hp hi (fun j hj => (HX.out W h j hj).2) (by omega))
  have HW1 := hide (show ∀ (W : World) (b' : Nat) (l' : List Int) (k : Int), Below W1.heap.size W1 W → PileAt X W E b' l' → l'.length ≤ s.length → Calls Tryd.prog 53 #[pp b', .slice (some ⟨W.heap.size, 0, none⟩) 1 1] (W.alloc (.cells #[.int .i64 k] 3)) (BhO X E (l' ++ [k]) W) from fun W b' l' k h hp hl => with1 hp (fun j hj => (HX.out W h j hj).2) (by omega) k _)
  have HTP := hide (show ∀ W : World, Below W1.heap.size W1 W → 0 < s.length → Calls Tryd.prog 55 #[pp b] W fun e W' => e = .returned (.int .i64 (s.getLast?.getD 0)) ∧ Below W.heap.size W W' from fun W h h0 => top_any (HP.out W h) h0 (by omega))
  have HTK := hide (show ∀ n : Nat, (s.take (s.length - n)).length ≤ s.length from fun n => List.length_take_le' _ _)
  have HSL := hide hs
  have HPOS := hide (show 0 < s.length by omega)
  have HLEN := hide hlen
  clear hlen
  clear Y P hX hs hb hW hI
  rw [ho] at i0 hW1 HIB ⊢
  clear ho
  go_enter Tryd.func32, Tryd.ntmps32
  go_wp2_with fail
  refine (HWO.out W1 1 (Below.refl _ _) HLEN.out).mono ?_
  rintro e w9 ⟨b9, rfl, hp9, hb9⟩
  have HB9 := hide (show Below W1.heap.size W1 w9 from bel_tr (Below.refl _ _) hb9)
  have HP9 := hide hp9
  clear hb9 hp9
  go_wp2
  go_ret
  exact ⟨b9, rfl, HP9.out, bel_tr HB.out HB9.out⟩

set_option maxRecDepth 100000 in
set_option maxHeartbeats 1000000 in
theorem bh_25 (Y : WyAt B w (.slice a1 p.ty.length d1) (.slice a2 p.fu.length d2) (.slice a3 p.ta.length d3) (.slice a4 p.st.length d4) (.slice b1 f.lo.length e1) (.slice b2 f.re.length e2) (.slice b3 f.ar.length e3) (.slice b4 f.co.length e4) p f) (i : In3) (P : PileAt X w E b s) (hX : ∀ j, X j → B ≤ j ∧ j < w.heap.size) (hs : s.length ≤ 1000000000000) (ho : i.o = 25) (hlen : 1 ≤ s.length) : Calls Tryd.prog 32 #[.agg #[.slice a1 p.ty.length d1, .slice a2 p.fu.length d2, .slice a3 p.ta.length d3, .slice a4 p.st.length d4, .int .i64 f.pa, .slice b1 f.lo.length e1, .slice b2 f.re.length e2, .slice b3 f.ar.length e3, .slice b4 f.co.length e4], .agg #[.int .i64 i.o, .int .i64 i.a, .int .i64 i.b], pp b] w (BhO X E (s.take (s.length - 1)) w) := by
  obtain ⟨W1, hW1⟩ : ∃ W1, (w.alloc (.cells #[.slice a1 p.ty.length d1, .slice a2 p.fu.length d2, .slice a3 p.ta.length d3, .slice a4 p.st.length d4, .int .i64 f.pa, .slice b1 f.lo.length e1, .slice b2 f.re.length e2, .slice b3 f.ar.length e3, .slice b4 f.co.length e4] 89)).alloc (.cells #[.int .i64 i.o, .int .i64 i.a, .int .i64 i.b] 47) = W1 := ⟨_, rfl⟩
  have hb : Below w.heap.size w W1 := by rw [← hW1]; exact ((Below.refl _ _).alloc (Nat.le_refl _) _).alloc (by simp) _
  have hW : W1.heap[w.heap.size]? = some (.cells #[.slice a1 p.ty.length d1, .slice a2 p.fu.length d2, .slice a3 p.ta.length d3, .slice a4 p.st.length d4, .int .i64 f.pa, .slice b1 f.lo.length e1, .slice b2 f.re.length e2, .slice b3 f.ar.length e3, .slice b4 f.co.length e4] 89 (0, 0)) := by rw [← hW1, Below.heap_alloc _ _ _ (by simp)]; exact heap_new _ _ rfl
  have hI : W1.heap[w.heap.size + 1]? = some (.cells #[.int .i64 i.o, .int .i64 i.a, .int .i64 i.b] 47 (0, 0)) := by rw [← hW1]; exact heap_new _ _ (by simp)
  have i0 : W1.cell? ⟨w.heap.size + 1, 0, none⟩ = some (.int .i64 i.o) := cell_of hI rfl
  have i1 : W1.cell? ⟨w.heap.size + 1, 1, none⟩ = some (.int .i64 i.a) := cell_of hI rfl
  have i2 : W1.cell? ⟨w.heap.size + 1, 2, none⟩ = some (.int .i64 i.b) := cell_of hI rfl
  have hlW := lt_of_block hW
  have hlI := lt_of_block hI
  have HWB := hide (show ∀ W : World, Below W1.heap.size W1 W → W.heap[w.heap.size]? = some (.cells #[.slice a1 p.ty.length d1, .slice a2 p.fu.length d2, .slice a3 p.ta.length d3, .slice a4 p.st.length d4, .int .i64 f.pa, .slice b1 f.lo.length e1, .slice b2 f.re.length e2, .slice b3 f.ar.length e3, .slice b4 f.co.length e4] 89 (0, 0)) from fun W h => (h.block _ hlW).trans hW)
  have HIB := hide (show ∀ W : World, Below W1.heap.size W1 W → W.heap[w.heap.size + 1]? = some (.cells #[.int .i64 i.o, .int .i64 i.a, .int .i64 i.b] 47 (0, 0)) from fun W h => (h.block _ hlI).trans hI)
  have HB := hide hb
  have HY := hide (show ∀ W : World, Below W1.heap.size W1 W → WyAt B W (.slice a1 p.ty.length d1) (.slice a2 p.fu.length d2) (.slice a3 p.ta.length d3) (.slice a4 p.st.length d4) (.slice b1 f.lo.length e1) (.slice b2 f.re.length e2) (.slice b3 f.ar.length e3) (.slice b4 f.co.length e4) p f from fun W h => (Y.below hb).below h)
  have HP := hide (show ∀ W : World, Below W1.heap.size W1 W → PileAt X W E b s from fun W h => P.keep (Kp.of_below (bel_tr hb h)))
  have HX := hide (show ∀ W : World, Below W1.heap.size W1 W → ∀ j, X j → B ≤ j ∧ j < W.heap.size from fun W h j hj => ⟨(hX j hj).1, Nat.lt_of_lt_of_le (hX j hj).2 (bel_tr hb h).size⟩)
  have HXN := hide (show ∀ W : World, Below W1.heap.size W1 W → ¬ X W.heap.size from fun W h hx => Nat.lt_irrefl _ (Nat.lt_of_lt_of_le (hX _ hx).2 (bel_tr hb h).size))
  have HWO := hide (show ∀ (W : World) (n : Nat), Below W1.heap.size W1 W → n ≤ s.length → Calls Tryd.prog 54 #[pp b, .int .i64 (n : Int)] W (BhO X E (s.take (s.length - n)) W) from fun W n h hn => without_any (HP.out W h) hn (fun j hj => (HX.out W h j hj).2) (by omega))
  have HWI := hide (show ∀ (W : World) (b' : Nat) (l' : List Int) (v : Value) (ks : List Int), Below W1.heap.size W1 W → PileAt X W E b' l' → IsAt X W v ks → ks.length ≤ 4096 → l'.length ≤ s.length → Calls Tryd.prog 53 #[pp b', v] W (BhO X E (l' ++ ks) W) from fun W b' l' v ks h hp hi hk hl => with_any hp hi (fun j hj => (HX.out W h j hj).2) (by omega))
  have HW1 := hide (show ∀ (W : World) (b' : Nat) (l' : List Int) (k : Int), Below W1.heap.size W1 W → PileAt X W E b' l' → l'.length ≤ s.length → Calls Tryd.prog 53 #[pp b', .slice (some ⟨W.heap.size, 0, none⟩) 1 1] (W.alloc (.cells #[.int .i64 k] 3)) (BhO X E (l' ++ [k]) W) from fun W b' l' k h hp hl => with1 hp (fun j hj => (HX.out W h j hj).2) (by omega) k _)
  have HTP := hide (show ∀ W : World, Below W1.heap.size W1 W → 0 < s.length → Calls Tryd.prog 55 #[pp b] W fun e W' => e = .returned (.int .i64 (s.getLast?.getD 0)) ∧ Below W.heap.size W W' from fun W h h0 => top_any (HP.out W h) h0 (by omega))
  have HTK := hide (show ∀ n : Nat, (s.take (s.length - n)).length ≤ s.length from fun n => List.length_take_le' _ _)
  have HSL := hide hs
  have HPOS := hide (show 0 < s.length by omega)
  have HLEN := hide hlen
  clear hlen
  clear Y P hX hs hb hW hI
  rw [ho] at i0 hW1 HIB ⊢
  clear ho
  go_enter Tryd.func32, Tryd.ntmps32
  go_wp2_with fail
  refine (HWO.out W1 1 (Below.refl _ _) HLEN.out).mono ?_
  rintro e w9 ⟨b9, rfl, hp9, hb9⟩
  have HB9 := hide (show Below W1.heap.size W1 w9 from bel_tr (Below.refl _ _) hb9)
  have HP9 := hide hp9
  clear hb9 hp9
  go_wp2
  go_ret
  exact ⟨b9, rfl, HP9.out, bel_tr HB.out HB9.out⟩

set_option maxRecDepth 100000 in
set_option maxHeartbeats 1000000 in
theorem bh_26 (Y : WyAt B w (.slice a1 p.ty.length d1) (.slice a2 p.fu.length d2) (.slice a3 p.ta.length d3) (.slice a4 p.st.length d4) (.slice b1 f.lo.length e1) (.slice b2 f.re.length e2) (.slice b3 f.ar.length e3) (.slice b4 f.co.length e4) p f) (i : In3) (P : PileAt X w E b s) (hX : ∀ j, X j → B ≤ j ∧ j < w.heap.size) (hs : s.length ≤ 1000000000000) (ho : i.o = 26) (hlen : 1 ≤ s.length) : Calls Tryd.prog 32 #[.agg #[.slice a1 p.ty.length d1, .slice a2 p.fu.length d2, .slice a3 p.ta.length d3, .slice a4 p.st.length d4, .int .i64 f.pa, .slice b1 f.lo.length e1, .slice b2 f.re.length e2, .slice b3 f.ar.length e3, .slice b4 f.co.length e4], .agg #[.int .i64 i.o, .int .i64 i.a, .int .i64 i.b], pp b] w (BhO X E (s.take (s.length - 1)) w) := by
  obtain ⟨W1, hW1⟩ : ∃ W1, (w.alloc (.cells #[.slice a1 p.ty.length d1, .slice a2 p.fu.length d2, .slice a3 p.ta.length d3, .slice a4 p.st.length d4, .int .i64 f.pa, .slice b1 f.lo.length e1, .slice b2 f.re.length e2, .slice b3 f.ar.length e3, .slice b4 f.co.length e4] 89)).alloc (.cells #[.int .i64 i.o, .int .i64 i.a, .int .i64 i.b] 47) = W1 := ⟨_, rfl⟩
  have hb : Below w.heap.size w W1 := by rw [← hW1]; exact ((Below.refl _ _).alloc (Nat.le_refl _) _).alloc (by simp) _
  have hW : W1.heap[w.heap.size]? = some (.cells #[.slice a1 p.ty.length d1, .slice a2 p.fu.length d2, .slice a3 p.ta.length d3, .slice a4 p.st.length d4, .int .i64 f.pa, .slice b1 f.lo.length e1, .slice b2 f.re.length e2, .slice b3 f.ar.length e3, .slice b4 f.co.length e4] 89 (0, 0)) := by rw [← hW1, Below.heap_alloc _ _ _ (by simp)]; exact heap_new _ _ rfl
  have hI : W1.heap[w.heap.size + 1]? = some (.cells #[.int .i64 i.o, .int .i64 i.a, .int .i64 i.b] 47 (0, 0)) := by rw [← hW1]; exact heap_new _ _ (by simp)
  have i0 : W1.cell? ⟨w.heap.size + 1, 0, none⟩ = some (.int .i64 i.o) := cell_of hI rfl
  have i1 : W1.cell? ⟨w.heap.size + 1, 1, none⟩ = some (.int .i64 i.a) := cell_of hI rfl
  have i2 : W1.cell? ⟨w.heap.size + 1, 2, none⟩ = some (.int .i64 i.b) := cell_of hI rfl
  have hlW := lt_of_block hW
  have hlI := lt_of_block hI
  have HWB := hide (show ∀ W : World, Below W1.heap.size W1 W → W.heap[w.heap.size]? = some (.cells #[.slice a1 p.ty.length d1, .slice a2 p.fu.length d2, .slice a3 p.ta.length d3, .slice a4 p.st.length d4, .int .i64 f.pa, .slice b1 f.lo.length e1, .slice b2 f.re.length e2, .slice b3 f.ar.length e3, .slice b4 f.co.length e4] 89 (0, 0)) from fun W h => (h.block _ hlW).trans hW)
  have HIB := hide (show ∀ W : World, Below W1.heap.size W1 W → W.heap[w.heap.size + 1]? = some (.cells #[.int .i64 i.o, .int .i64 i.a, .int .i64 i.b] 47 (0, 0)) from fun W h => (h.block _ hlI).trans hI)
  have HB := hide hb
  have HY := hide (show ∀ W : World, Below W1.heap.size W1 W → WyAt B W (.slice a1 p.ty.length d1) (.slice a2 p.fu.length d2) (.slice a3 p.ta.length d3) (.slice a4 p.st.length d4) (.slice b1 f.lo.length e1) (.slice b2 f.re.length e2) (.slice b3 f.ar.length e3) (.slice b4 f.co.length e4) p f from fun W h => (Y.below hb).below h)
  have HP := hide (show ∀ W : World, Below W1.heap.size W1 W → PileAt X W E b s from fun W h => P.keep (Kp.of_below (bel_tr hb h)))
  have HX := hide (show ∀ W : World, Below W1.heap.size W1 W → ∀ j, X j → B ≤ j ∧ j < W.heap.size from fun W h j hj => ⟨(hX j hj).1, Nat.lt_of_lt_of_le (hX j hj).2 (bel_tr hb h).size⟩)
  have HXN := hide (show ∀ W : World, Below W1.heap.size W1 W → ¬ X W.heap.size from fun W h hx => Nat.lt_irrefl _ (Nat.lt_of_lt_of_le (hX _ hx).2 (bel_tr hb h).size))
  have HWO := hide (show ∀ (W : World) (n : Nat), Below W1.heap.size W1 W → n ≤ s.length → Calls Tryd.prog 54 #[pp b, .int .i64 (n : Int)] W (BhO X E (s.take (s.length - n)) W) from fun W n h hn => without_any (HP.out W h) hn (fun j hj => (HX.out W h j hj).2) (by omega))
  have HWI := hide (show ∀ (W : World) (b' : Nat) (l' : List Int) (v : Value) (ks : List Int), Below W1.heap.size W1 W → PileAt X W E b' l' → IsAt X W v ks → ks.length ≤ 4096 → l'.length ≤ s.length → Calls Tryd.prog 53 #[pp b', v] W (BhO X E (l' ++ ks) W) from fun W b' l' v ks h hp hi hk hl => with_any hp hi (fun j hj => (HX.out W h j hj).2) (by omega))
  have HW1 := hide (show ∀ (W : World) (b' : Nat) (l' : List Int) (k : Int), Below W1.heap.size W1 W → PileAt X W E b' l' → l'.length ≤ s.length → Calls Tryd.prog 53 #[pp b', .slice (some ⟨W.heap.size, 0, none⟩) 1 1] (W.alloc (.cells #[.int .i64 k] 3)) (BhO X E (l' ++ [k]) W) from fun W b' l' k h hp hl => with1 hp (fun j hj => (HX.out W h j hj).2) (by omega) k _)
  have HTP := hide (show ∀ W : World, Below W1.heap.size W1 W → 0 < s.length → Calls Tryd.prog 55 #[pp b] W fun e W' => e = .returned (.int .i64 (s.getLast?.getD 0)) ∧ Below W.heap.size W W' from fun W h h0 => top_any (HP.out W h) h0 (by omega))
  have HTK := hide (show ∀ n : Nat, (s.take (s.length - n)).length ≤ s.length from fun n => List.length_take_le' _ _)
  have HSL := hide hs
  have HPOS := hide (show 0 < s.length by omega)
  have HLEN := hide hlen
  clear hlen
  clear Y P hX hs hb hW hI
  rw [ho] at i0 hW1 HIB ⊢
  clear ho
  go_enter Tryd.func32, Tryd.ntmps32
  go_wp2_with fail
  refine (HWO.out W1 1 (Below.refl _ _) HLEN.out).mono ?_
  rintro e w9 ⟨b9, rfl, hp9, hb9⟩
  have HB9 := hide (show Below W1.heap.size W1 w9 from bel_tr (Below.refl _ _) hb9)
  have HP9 := hide hp9
  clear hb9 hp9
  go_wp2
  go_ret
  exact ⟨b9, rfl, HP9.out, bel_tr HB.out HB9.out⟩

set_option maxRecDepth 100000 in
set_option maxHeartbeats 1000000 in
theorem bh_15 (Y : WyAt B w (.slice a1 p.ty.length d1) (.slice a2 p.fu.length d2) (.slice a3 p.ta.length d3) (.slice a4 p.st.length d4) (.slice b1 f.lo.length e1) (.slice b2 f.re.length e2) (.slice b3 f.ar.length e3) (.slice b4 f.co.length e4) p f) (i : In3) (P : PileAt X w E b s) (hX : ∀ j, X j → B ≤ j ∧ j < w.heap.size) (hs : s.length ≤ 1000000000000) (ho : i.o = 15) (hlen : 2 ≤ s.length) : Calls Tryd.prog 32 #[.agg #[.slice a1 p.ty.length d1, .slice a2 p.fu.length d2, .slice a3 p.ta.length d3, .slice a4 p.st.length d4, .int .i64 f.pa, .slice b1 f.lo.length e1, .slice b2 f.re.length e2, .slice b3 f.ar.length e3, .slice b4 f.co.length e4], .agg #[.int .i64 i.o, .int .i64 i.a, .int .i64 i.b], pp b] w (BhO X E (s.take (s.length - 2)) w) := by
  obtain ⟨W1, hW1⟩ : ∃ W1, (w.alloc (.cells #[.slice a1 p.ty.length d1, .slice a2 p.fu.length d2, .slice a3 p.ta.length d3, .slice a4 p.st.length d4, .int .i64 f.pa, .slice b1 f.lo.length e1, .slice b2 f.re.length e2, .slice b3 f.ar.length e3, .slice b4 f.co.length e4] 89)).alloc (.cells #[.int .i64 i.o, .int .i64 i.a, .int .i64 i.b] 47) = W1 := ⟨_, rfl⟩
  have hb : Below w.heap.size w W1 := by rw [← hW1]; exact ((Below.refl _ _).alloc (Nat.le_refl _) _).alloc (by simp) _
  have hW : W1.heap[w.heap.size]? = some (.cells #[.slice a1 p.ty.length d1, .slice a2 p.fu.length d2, .slice a3 p.ta.length d3, .slice a4 p.st.length d4, .int .i64 f.pa, .slice b1 f.lo.length e1, .slice b2 f.re.length e2, .slice b3 f.ar.length e3, .slice b4 f.co.length e4] 89 (0, 0)) := by rw [← hW1, Below.heap_alloc _ _ _ (by simp)]; exact heap_new _ _ rfl
  have hI : W1.heap[w.heap.size + 1]? = some (.cells #[.int .i64 i.o, .int .i64 i.a, .int .i64 i.b] 47 (0, 0)) := by rw [← hW1]; exact heap_new _ _ (by simp)
  have i0 : W1.cell? ⟨w.heap.size + 1, 0, none⟩ = some (.int .i64 i.o) := cell_of hI rfl
  have i1 : W1.cell? ⟨w.heap.size + 1, 1, none⟩ = some (.int .i64 i.a) := cell_of hI rfl
  have i2 : W1.cell? ⟨w.heap.size + 1, 2, none⟩ = some (.int .i64 i.b) := cell_of hI rfl
  have hlW := lt_of_block hW
  have hlI := lt_of_block hI
  have HWB := hide (show ∀ W : World, Below W1.heap.size W1 W → W.heap[w.heap.size]? = some (.cells #[.slice a1 p.ty.length d1, .slice a2 p.fu.length d2, .slice a3 p.ta.length d3, .slice a4 p.st.length d4, .int .i64 f.pa, .slice b1 f.lo.length e1, .slice b2 f.re.length e2, .slice b3 f.ar.length e3, .slice b4 f.co.length e4] 89 (0, 0)) from fun W h => (h.block _ hlW).trans hW)
  have HIB := hide (show ∀ W : World, Below W1.heap.size W1 W → W.heap[w.heap.size + 1]? = some (.cells #[.int .i64 i.o, .int .i64 i.a, .int .i64 i.b] 47 (0, 0)) from fun W h => (h.block _ hlI).trans hI)
  have HB := hide hb
  have HY := hide (show ∀ W : World, Below W1.heap.size W1 W → WyAt B W (.slice a1 p.ty.length d1) (.slice a2 p.fu.length d2) (.slice a3 p.ta.length d3) (.slice a4 p.st.length d4) (.slice b1 f.lo.length e1) (.slice b2 f.re.length e2) (.slice b3 f.ar.length e3) (.slice b4 f.co.length e4) p f from fun W h => (Y.below hb).below h)
  have HP := hide (show ∀ W : World, Below W1.heap.size W1 W → PileAt X W E b s from fun W h => P.keep (Kp.of_below (bel_tr hb h)))
  have HX := hide (show ∀ W : World, Below W1.heap.size W1 W → ∀ j, X j → B ≤ j ∧ j < W.heap.size from fun W h j hj => ⟨(hX j hj).1, Nat.lt_of_lt_of_le (hX j hj).2 (bel_tr hb h).size⟩)
  have HXN := hide (show ∀ W : World, Below W1.heap.size W1 W → ¬ X W.heap.size from fun W h hx => Nat.lt_irrefl _ (Nat.lt_of_lt_of_le (hX _ hx).2 (bel_tr hb h).size))
  have HWO := hide (show ∀ (W : World) (n : Nat), Below W1.heap.size W1 W → n ≤ s.length → Calls Tryd.prog 54 #[pp b, .int .i64 (n : Int)] W (BhO X E (s.take (s.length - n)) W) from fun W n h hn => without_any (HP.out W h) hn (fun j hj => (HX.out W h j hj).2) (by omega))
  have HWI := hide (show ∀ (W : World) (b' : Nat) (l' : List Int) (v : Value) (ks : List Int), Below W1.heap.size W1 W → PileAt X W E b' l' → IsAt X W v ks → ks.length ≤ 4096 → l'.length ≤ s.length → Calls Tryd.prog 53 #[pp b', v] W (BhO X E (l' ++ ks) W) from fun W b' l' v ks h hp hi hk hl => with_any hp hi (fun j hj => (HX.out W h j hj).2) (by omega))
  have HW1 := hide (show ∀ (W : World) (b' : Nat) (l' : List Int) (k : Int), Below W1.heap.size W1 W → PileAt X W E b' l' → l'.length ≤ s.length → Calls Tryd.prog 53 #[pp b', .slice (some ⟨W.heap.size, 0, none⟩) 1 1] (W.alloc (.cells #[.int .i64 k] 3)) (BhO X E (l' ++ [k]) W) from fun W b' l' k h hp hl => with1 hp (fun j hj => (HX.out W h j hj).2) (by omega) k _)
  have HTP := hide (show ∀ W : World, Below W1.heap.size W1 W → 0 < s.length → Calls Tryd.prog 55 #[pp b] W fun e W' => e = .returned (.int .i64 (s.getLast?.getD 0)) ∧ Below W.heap.size W W' from fun W h h0 => top_any (HP.out W h) h0 (by omega))
  have HTK := hide (show ∀ n : Nat, (s.take (s.length - n)).length ≤ s.length from fun n => List.length_take_le' _ _)
  have HSL := hide hs
  have HPOS := hide (show 0 < s.length by omega)
  have HLEN := hide hlen
  clear hlen
  clear Y P hX hs hb hW hI
  rw [ho] at i0 hW1 HIB ⊢
  clear ho
  go_enter Tryd.func32, Tryd.ntmps32
  go_wp2_with fail
  refine (HWO.out W1 2 (Below.refl _ _) HLEN.out).mono ?_
  rintro e w9 ⟨b9, rfl, hp9, hb9⟩
  have HB9 := hide (show Below W1.heap.size W1 w9 from bel_tr (Below.refl _ _) hb9)
  have HP9 := hide hp9
  clear hb9 hp9
  go_wp2
  go_ret
  exact ⟨b9, rfl, HP9.out, bel_tr HB.out HB9.out⟩

set_option maxRecDepth 100000 in
set_option maxHeartbeats 1000000 in
theorem bh_8 (Y : WyAt B w (.slice a1 p.ty.length d1) (.slice a2 p.fu.length d2) (.slice a3 p.ta.length d3) (.slice a4 p.st.length d4) (.slice b1 f.lo.length e1) (.slice b2 f.re.length e2) (.slice b3 f.ar.length e3) (.slice b4 f.co.length e4) p f) (i : In3) (P : PileAt X w E b s) (hX : ∀ j, X j → B ≤ j ∧ j < w.heap.size) (hs : s.length ≤ 1000000000000) (ho : i.o = 8) (hlen : 2 ≤ s.length) : Calls Tryd.prog 32 #[.agg #[.slice a1 p.ty.length d1, .slice a2 p.fu.length d2, .slice a3 p.ta.length d3, .slice a4 p.st.length d4, .int .i64 f.pa, .slice b1 f.lo.length e1, .slice b2 f.re.length e2, .slice b3 f.ar.length e3, .slice b4 f.co.length e4], .agg #[.int .i64 i.o, .int .i64 i.a, .int .i64 i.b], pp b] w (BhO X E (s.take (s.length - 2) ++ [0]) w) := by
  obtain ⟨W1, hW1⟩ : ∃ W1, (w.alloc (.cells #[.slice a1 p.ty.length d1, .slice a2 p.fu.length d2, .slice a3 p.ta.length d3, .slice a4 p.st.length d4, .int .i64 f.pa, .slice b1 f.lo.length e1, .slice b2 f.re.length e2, .slice b3 f.ar.length e3, .slice b4 f.co.length e4] 89)).alloc (.cells #[.int .i64 i.o, .int .i64 i.a, .int .i64 i.b] 47) = W1 := ⟨_, rfl⟩
  have hb : Below w.heap.size w W1 := by rw [← hW1]; exact ((Below.refl _ _).alloc (Nat.le_refl _) _).alloc (by simp) _
  have hW : W1.heap[w.heap.size]? = some (.cells #[.slice a1 p.ty.length d1, .slice a2 p.fu.length d2, .slice a3 p.ta.length d3, .slice a4 p.st.length d4, .int .i64 f.pa, .slice b1 f.lo.length e1, .slice b2 f.re.length e2, .slice b3 f.ar.length e3, .slice b4 f.co.length e4] 89 (0, 0)) := by rw [← hW1, Below.heap_alloc _ _ _ (by simp)]; exact heap_new _ _ rfl
  have hI : W1.heap[w.heap.size + 1]? = some (.cells #[.int .i64 i.o, .int .i64 i.a, .int .i64 i.b] 47 (0, 0)) := by rw [← hW1]; exact heap_new _ _ (by simp)
  have i0 : W1.cell? ⟨w.heap.size + 1, 0, none⟩ = some (.int .i64 i.o) := cell_of hI rfl
  have i1 : W1.cell? ⟨w.heap.size + 1, 1, none⟩ = some (.int .i64 i.a) := cell_of hI rfl
  have i2 : W1.cell? ⟨w.heap.size + 1, 2, none⟩ = some (.int .i64 i.b) := cell_of hI rfl
  have hlW := lt_of_block hW
  have hlI := lt_of_block hI
  have HWB := hide (show ∀ W : World, Below W1.heap.size W1 W → W.heap[w.heap.size]? = some (.cells #[.slice a1 p.ty.length d1, .slice a2 p.fu.length d2, .slice a3 p.ta.length d3, .slice a4 p.st.length d4, .int .i64 f.pa, .slice b1 f.lo.length e1, .slice b2 f.re.length e2, .slice b3 f.ar.length e3, .slice b4 f.co.length e4] 89 (0, 0)) from fun W h => (h.block _ hlW).trans hW)
  have HIB := hide (show ∀ W : World, Below W1.heap.size W1 W → W.heap[w.heap.size + 1]? = some (.cells #[.int .i64 i.o, .int .i64 i.a, .int .i64 i.b] 47 (0, 0)) from fun W h => (h.block _ hlI).trans hI)
  have HB := hide hb
  have HY := hide (show ∀ W : World, Below W1.heap.size W1 W → WyAt B W (.slice a1 p.ty.length d1) (.slice a2 p.fu.length d2) (.slice a3 p.ta.length d3) (.slice a4 p.st.length d4) (.slice b1 f.lo.length e1) (.slice b2 f.re.length e2) (.slice b3 f.ar.length e3) (.slice b4 f.co.length e4) p f from fun W h => (Y.below hb).below h)
  have HP := hide (show ∀ W : World, Below W1.heap.size W1 W → PileAt X W E b s from fun W h => P.keep (Kp.of_below (bel_tr hb h)))
  have HX := hide (show ∀ W : World, Below W1.heap.size W1 W → ∀ j, X j → B ≤ j ∧ j < W.heap.size from fun W h j hj => ⟨(hX j hj).1, Nat.lt_of_lt_of_le (hX j hj).2 (bel_tr hb h).size⟩)
  have HXN := hide (show ∀ W : World, Below W1.heap.size W1 W → ¬ X W.heap.size from fun W h hx => Nat.lt_irrefl _ (Nat.lt_of_lt_of_le (hX _ hx).2 (bel_tr hb h).size))
  have HWO := hide (show ∀ (W : World) (n : Nat), Below W1.heap.size W1 W → n ≤ s.length → Calls Tryd.prog 54 #[pp b, .int .i64 (n : Int)] W (BhO X E (s.take (s.length - n)) W) from fun W n h hn => without_any (HP.out W h) hn (fun j hj => (HX.out W h j hj).2) (by omega))
  have HWI := hide (show ∀ (W : World) (b' : Nat) (l' : List Int) (v : Value) (ks : List Int), Below W1.heap.size W1 W → PileAt X W E b' l' → IsAt X W v ks → ks.length ≤ 4096 → l'.length ≤ s.length → Calls Tryd.prog 53 #[pp b', v] W (BhO X E (l' ++ ks) W) from fun W b' l' v ks h hp hi hk hl => with_any hp hi (fun j hj => (HX.out W h j hj).2) (by omega))
  have HW1 := hide (show ∀ (W : World) (b' : Nat) (l' : List Int) (k : Int), Below W1.heap.size W1 W → PileAt X W E b' l' → l'.length ≤ s.length → Calls Tryd.prog 53 #[pp b', .slice (some ⟨W.heap.size, 0, none⟩) 1 1] (W.alloc (.cells #[.int .i64 k] 3)) (BhO X E (l' ++ [k]) W) from fun W b' l' k h hp hl => with1 hp (fun j hj => (HX.out W h j hj).2) (by omega) k _)
  have HTP := hide (show ∀ W : World, Below W1.heap.size W1 W → 0 < s.length → Calls Tryd.prog 55 #[pp b] W fun e W' => e = .returned (.int .i64 (s.getLast?.getD 0)) ∧ Below W.heap.size W W' from fun W h h0 => top_any (HP.out W h) h0 (by omega))
  have HTK := hide (show ∀ n : Nat, (s.take (s.length - n)).length ≤ s.length from fun n => List.length_take_le' _ _)
  have HSL := hide hs
  have HPOS := hide (show 0 < s.length by omega)
  have HLEN := hide hlen
  clear hlen
  clear Y P hX hs hb hW hI
  rw [ho] at i0 hW1 HIB ⊢
  clear ho
  go_enter Tryd.func32, Tryd.ntmps32
  go_wp2_with fail
  refine (HWO.out W1 2 (Below.refl _ _) HLEN.out).mono ?_
  rintro e w3 ⟨b3, rfl, hp3, hb3⟩
  have HB3 := hide (show Below W1.heap.size W1 w3 from bel_tr (Below.refl _ _) hb3)
  have HP3 := hide hp3
  clear hb3 hp3
  go_wp2_with fail
  refine (HW1.out w3 b3 (s.take (s.length - 2)) 0 HB3.out HP3.out (HTK.out _)).mono ?_
  rintro e w9 ⟨b9, rfl, hp9, hb9⟩
  have HB9 := hide (show Below W1.heap.size W1 w9 from bel_tr HB3.out hb9)
  have HP9 := hide hp9
  clear hb9 hp9
  go_wp2
  go_ret
  exact ⟨b9, rfl, HP9.out, bel_tr HB.out HB9.out⟩

set_option maxRecDepth 100000 in
set_option maxHeartbeats 1000000 in
theorem bh_18 (Y : WyAt B w (.slice a1 p.ty.length d1) (.slice a2 p.fu.length d2) (.slice a3 p.ta.length d3) (.slice a4 p.st.length d4) (.slice b1 f.lo.length e1) (.slice b2 f.re.length e2) (.slice b3 f.ar.length e3) (.slice b4 f.co.length e4) p f) (i : In3) (P : PileAt X w E b s) (hX : ∀ j, X j → B ≤ j ∧ j < w.heap.size) (hs : s.length ≤ 1000000000000) (ho : i.o = 18) (hlen : 1 ≤ s.length) : Calls Tryd.prog 32 #[.agg #[.slice a1 p.ty.length d1, .slice a2 p.fu.length d2, .slice a3 p.ta.length d3, .slice a4 p.st.length d4, .int .i64 f.pa, .slice b1 f.lo.length e1, .slice b2 f.re.length e2, .slice b3 f.ar.length e3, .slice b4 f.co.length e4], .agg #[.int .i64 i.o, .int .i64 i.a, .int .i64 i.b], pp b] w (BhO X E (s.take (s.length - 1) ++ [0]) w) := by
  obtain ⟨W1, hW1⟩ : ∃ W1, (w.alloc (.cells #[.slice a1 p.ty.length d1, .slice a2 p.fu.length d2, .slice a3 p.ta.length d3, .slice a4 p.st.length d4, .int .i64 f.pa, .slice b1 f.lo.length e1, .slice b2 f.re.length e2, .slice b3 f.ar.length e3, .slice b4 f.co.length e4] 89)).alloc (.cells #[.int .i64 i.o, .int .i64 i.a, .int .i64 i.b] 47) = W1 := ⟨_, rfl⟩
  have hb : Below w.heap.size w W1 := by rw [← hW1]; exact ((Below.refl _ _).alloc (Nat.le_refl _) _).alloc (by simp) _
  have hW : W1.heap[w.heap.size]? = some (.cells #[.slice a1 p.ty.length d1, .slice a2 p.fu.length d2, .slice a3 p.ta.length d3, .slice a4 p.st.length d4, .int .i64 f.pa, .slice b1 f.lo.length e1, .slice b2 f.re.length e2, .slice b3 f.ar.length e3, .slice b4 f.co.length e4] 89 (0, 0)) := by rw [← hW1, Below.heap_alloc _ _ _ (by simp)]; exact heap_new _ _ rfl
  have hI : W1.heap[w.heap.size + 1]? = some (.cells #[.int .i64 i.o, .int .i64 i.a, .int .i64 i.b] 47 (0, 0)) := by rw [← hW1]; exact heap_new _ _ (by simp)
  have i0 : W1.cell? ⟨w.heap.size + 1, 0, none⟩ = some (.int .i64 i.o) := cell_of hI rfl
  have i1 : W1.cell? ⟨w.heap.size + 1, 1, none⟩ = some (.int .i64 i.a) := cell_of hI rfl
  have i2 : W1.cell? ⟨w.heap.size + 1, 2, none⟩ = some (.int .i64 i.b) := cell_of hI rfl
  have hlW := lt_of_block hW
  have hlI := lt_of_block hI
  have HWB := hide (show ∀ W : World, Below W1.heap.size W1 W → W.heap[w.heap.size]? = some (.cells #[.slice a1 p.ty.length d1, .slice a2 p.fu.length d2, .slice a3 p.ta.length d3, .slice a4 p.st.length d4, .int .i64 f.pa, .slice b1 f.lo.length e1, .slice b2 f.re.length e2, .slice b3 f.ar.length e3, .slice b4 f.co.length e4] 89 (0, 0)) from fun W h => (h.block _ hlW).trans hW)
  have HIB := hide (show ∀ W : World, Below W1.heap.size W1 W → W.heap[w.heap.size + 1]? = some (.cells #[.int .i64 i.o, .int .i64 i.a, .int .i64 i.b] 47 (0, 0)) from fun W h => (h.block _ hlI).trans hI)
  have HB := hide hb
  have HY := hide (show ∀ W : World, Below W1.heap.size W1 W → WyAt B W (.slice a1 p.ty.length d1) (.slice a2 p.fu.length d2) (.slice a3 p.ta.length d3) (.slice a4 p.st.length d4) (.slice b1 f.lo.length e1) (.slice b2 f.re.length e2) (.slice b3 f.ar.length e3) (.slice b4 f.co.length e4) p f from fun W h => (Y.below hb).below h)
  have HP := hide (show ∀ W : World, Below W1.heap.size W1 W → PileAt X W E b s from fun W h => P.keep (Kp.of_below (bel_tr hb h)))
  have HX := hide (show ∀ W : World, Below W1.heap.size W1 W → ∀ j, X j → B ≤ j ∧ j < W.heap.size from fun W h j hj => ⟨(hX j hj).1, Nat.lt_of_lt_of_le (hX j hj).2 (bel_tr hb h).size⟩)
  have HXN := hide (show ∀ W : World, Below W1.heap.size W1 W → ¬ X W.heap.size from fun W h hx => Nat.lt_irrefl _ (Nat.lt_of_lt_of_le (hX _ hx).2 (bel_tr hb h).size))
  have HWO := hide (show ∀ (W : World) (n : Nat), Below W1.heap.size W1 W → n ≤ s.length → Calls Tryd.prog 54 #[pp b, .int .i64 (n : Int)] W (BhO X E (s.take (s.length - n)) W) from fun W n h hn => without_any (HP.out W h) hn (fun j hj => (HX.out W h j hj).2) (by omega))
  have HWI := hide (show ∀ (W : World) (b' : Nat) (l' : List Int) (v : Value) (ks : List Int), Below W1.heap.size W1 W → PileAt X W E b' l' → IsAt X W v ks → ks.length ≤ 4096 → l'.length ≤ s.length → Calls Tryd.prog 53 #[pp b', v] W (BhO X E (l' ++ ks) W) from fun W b' l' v ks h hp hi hk hl => with_any hp hi (fun j hj => (HX.out W h j hj).2) (by omega))
  have HW1 := hide (show ∀ (W : World) (b' : Nat) (l' : List Int) (k : Int), Below W1.heap.size W1 W → PileAt X W E b' l' → l'.length ≤ s.length → Calls Tryd.prog 53 #[pp b', .slice (some ⟨W.heap.size, 0, none⟩) 1 1] (W.alloc (.cells #[.int .i64 k] 3)) (BhO X E (l' ++ [k]) W) from fun W b' l' k h hp hl => with1 hp (fun j hj => (HX.out W h j hj).2) (by omega) k _)
  have HTP := hide (show ∀ W : World, Below W1.heap.size W1 W → 0 < s.length → Calls Tryd.prog 55 #[pp b] W fun e W' => e = .returned (.int .i64 (s.getLast?.getD 0)) ∧ Below W.heap.size W W' from fun W h h0 => top_any (HP.out W h) h0 (by omega))
  have HTK := hide (show ∀ n : Nat, (s.take (s.length - n)).length ≤ s.length from fun n => List.length_take_le' _ _)
  have HSL := hide hs
  have HPOS := hide (show 0 < s.length by omega)
  have HLEN := hide hlen
  clear hlen
  clear Y P hX hs hb hW hI
  rw [ho] at i0 hW1 HIB ⊢
  clear ho
  go_enter Tryd.func32, Tryd.ntmps32
  go_wp2_with fail
  refine (HWO.out W1 1 (Below.refl _ _) HLEN.out).mono ?_
  rintro e w3 ⟨b3, rfl, hp3, hb3⟩
  have HB3 := hide (show Below W1.heap.size W1 w3 from bel_tr (Below.refl _ _) hb3)
  have HP3 := hide hp3
  clear hb3 hp3
  go_wp2_with fail
  refine (HW1.out w3 b3 (s.take (s.length - 1)) 0 HB3.out HP3.out (HTK.out _)).mono ?_
  rintro e w9 ⟨b9, rfl, hp9, hb9⟩
  have HB9 := hide (show Below W1.heap.size W1 w9 from bel_tr HB3.out hb9)
  have HP9 := hide hp9
  clear hb9 hp9
  go_wp2
  go_ret
  exact ⟨b9, rfl, HP9.out, bel_tr HB.out HB9.out⟩

set_option maxRecDepth 100000 in
set_option maxHeartbeats 1000000 in
theorem bh_20 (Y : WyAt B w (.slice a1 p.ty.length d1) (.slice a2 p.fu.length d2) (.slice a3 p.ta.length d3) (.slice a4 p.st.length d4) (.slice b1 f.lo.length e1) (.slice b2 f.re.length e2) (.slice b3 f.ar.length e3) (.slice b4 f.co.length e4) p f) (i : In3) (P : PileAt X w E b s) (hX : ∀ j, X j → B ≤ j ∧ j < w.heap.size) (hs : s.length ≤ 1000000000000) (ho : i.o = 20) (hlen : 1 ≤ s.length) : Calls Tryd.prog 32 #[.agg #[.slice a1 p.ty.length d1, .slice a2 p.fu.length d2, .slice a3 p.ta.length d3, .slice a4 p.st.length d4, .int .i64 f.pa, .slice b1 f.lo.length e1, .slice b2 f.re.length e2, .slice b3 f.ar.length e3, .slice b4 f.co.length e4], .agg #[.int .i64 i.o, .int .i64 i.a, .int .i64 i.b], pp b] w (BhO X E (s.take (s.length - 1) ++ [0]) w) := by
  obtain ⟨W1, hW1⟩ : ∃ W1, (w.alloc (.cells #[.slice a1 p.ty.length d1, .slice a2 p.fu.length d2, .slice a3 p.ta.length d3, .slice a4 p.st.length d4, .int .i64 f.pa, .slice b1 f.lo.length e1, .slice b2 f.re.length e2, .slice b3 f.ar.length e3, .slice b4 f.co.length e4] 89)).alloc (.cells #[.int .i64 i.o, .int .i64 i.a, .int .i64 i.b] 47) = W1 := ⟨_, rfl⟩
  have hb : Below w.heap.size w W1 := by rw [← hW1]; exact ((Below.refl _ _).alloc (Nat.le_refl _) _).alloc (by simp) _
  have hW : W1.heap[w.heap.size]? = some (.cells #[.slice a1 p.ty.length d1, .slice a2 p.fu.length d2, .slice a3 p.ta.length d3, .slice a4 p.st.length d4, .int .i64 f.pa, .slice b1 f.lo.length e1, .slice b2 f.re.length e2, .slice b3 f.ar.length e3, .slice b4 f.co.length e4] 89 (0, 0)) := by rw [← hW1, Below.heap_alloc _ _ _ (by simp)]; exact heap_new _ _ rfl
  have hI : W1.heap[w.heap.size + 1]? = some (.cells #[.int .i64 i.o, .int .i64 i.a, .int .i64 i.b] 47 (0, 0)) := by rw [← hW1]; exact heap_new _ _ (by simp)
  have i0 : W1.cell? ⟨w.heap.size + 1, 0, none⟩ = some (.int .i64 i.o) := cell_of hI rfl
  have i1 : W1.cell? ⟨w.heap.size + 1, 1, none⟩ = some (.int .i64 i.a) := cell_of hI rfl
  have i2 : W1.cell? ⟨w.heap.size + 1, 2, none⟩ = some (.int .i64 i.b) := cell_of hI rfl
  have hlW := lt_of_block hW
  have hlI := lt_of_block hI
  have HWB := hide (show ∀ W : World, Below W1.heap.size W1 W → W.heap[w.heap.size]? = some (.cells #[.slice a1 p.ty.length d1, .slice a2 p.fu.length d2, .slice a3 p.ta.length d3, .slice a4 p.st.length d4, .int .i64 f.pa, .slice b1 f.lo.length e1, .slice b2 f.re.length e2, .slice b3 f.ar.length e3, .slice b4 f.co.length e4] 89 (0, 0)) from fun W h => (h.block _ hlW).trans hW)
  have HIB := hide (show ∀ W : World, Below W1.heap.size W1 W → W.heap[w.heap.size + 1]? = some (.cells #[.int .i64 i.o, .int .i64 i.a, .int .i64 i.b] 47 (0, 0)) from fun W h => (h.block _ hlI).trans hI)
  have HB := hide hb
  have HY := hide (show ∀ W : World, Below W1.heap.size W1 W → WyAt B W (.slice a1 p.ty.length d1) (.slice a2 p.fu.length d2) (.slice a3 p.ta.length d3) (.slice a4 p.st.length d4) (.slice b1 f.lo.length e1) (.slice b2 f.re.length e2) (.slice b3 f.ar.length e3) (.slice b4 f.co.length e4) p f from fun W h => (Y.below hb).below h)
  have HP := hide (show ∀ W : World, Below W1.heap.size W1 W → PileAt X W E b s from fun W h => P.keep (Kp.of_below (bel_tr hb h)))
  have HX := hide (show ∀ W : World, Below W1.heap.size W1 W → ∀ j, X j → B ≤ j ∧ j < W.heap.size from fun W h j hj => ⟨(hX j hj).1, Nat.lt_of_lt_of_le (hX j hj).2 (bel_tr hb h).size⟩)
  have HXN := hide (show ∀ W : World, Below W1.heap.size W1 W → ¬ X W.heap.size from fun W h hx => Nat.lt_irrefl _ (Nat.lt_of_lt_of_le (hX _ hx).2 (bel_tr hb h).size))
  have HWO := hide (show ∀ (W : World) (n : Nat), Below W1.heap.size W1 W → n ≤ s.length → Calls Tryd.prog 54 #[pp b, .int .i64 (n : Int)] W (BhO X E (s.take (s.length - n)) W) from fun W n h hn => without_any (HP.out W h) hn (fun j hj => (HX.out W h j hj).2) (by omega))
  have HWI := hide (show ∀ (W : World) (b' : Nat) (l' : List Int) (v : Value) (ks : List Int), Below W1.heap.size W1 W → PileAt X W E b' l' → IsAt X W v ks → ks.length ≤ 4096 → l'.length ≤ s.length → Calls Tryd.prog 53 #[pp b', v] W (BhO X E (l' ++ ks) W) from fun W b' l' v ks h hp hi hk hl => with_any hp hi (fun j hj => (HX.out W h j hj).2) (by omega))
  have HW1 := hide (show ∀ (W : World) (b' : Nat) (l' : List Int) (k : Int), Below W1.heap.size W1 W → PileAt X W E b' l' → l'.length ≤ s.length → Calls Tryd.prog 53 #[pp b', .slice (some ⟨W.heap.size, 0, none⟩) 1 1] (W.alloc (.cells #[.int .i64 k] 3)) (BhO X E (l' ++ [k]) W) from fun W b' l' k h hp hl => with1 hp (fun j hj => (HX.out W h j hj).2) (by omega) k _)
  have HTP := hide (show ∀ W : World, Below W1.heap.size W1 W → 0 < s.length → Calls Tryd.prog 55 #[pp b] W fun e W' => e = .returned (.int .i64 (s.getLast?.getD 0)) ∧ Below W.heap.size W W' from fun W h h0 => top_any (HP.out W h) h0 (by omega))
  have HTK := hide (show ∀ n : Nat, (s.take (s.length - n)).length ≤ s.length from fun n => List.length_take_le' _ _)
  have HSL := hide hs
  have HPOS := hide (show 0 < s.length by omega)
  have HLEN := hide hlen
  clear hlen
  clear Y P hX hs hb hW hI
  rw [ho] at i0 hW1 HIB ⊢
  clear ho
  go_enter Tryd.func32, Tryd.ntmps32
  go_wp2_with fail
  refine (HWO.out W1 1 (Below.refl _ _) HLEN.out).mono ?_
  rintro e w3 ⟨b3, rfl, hp3, hb3⟩
  have HB3 := hide (show Below W1.heap.size W1 w3 from bel_tr (Below.refl _ _) hb3)
  have HP3 := hide hp3
  clear hb3 hp3
  go_wp2_with fail
  refine (HW1.out w3 b3 (s.take (s.length - 1)) 0 HB3.out HP3.out (HTK.out _)).mono ?_
  rintro e w9 ⟨b9, rfl, hp9, hb9⟩
  have HB9 := hide (show Below W1.heap.size W1 w9 from bel_tr HB3.out hb9)
  have HP9 := hide hp9
  clear hb9 hp9
  go_wp2
  go_ret
  exact ⟨b9, rfl, HP9.out, bel_tr HB.out HB9.out⟩

set_option maxRecDepth 100000 in
set_option maxHeartbeats 1000000 in
theorem bh_19 (Y : WyAt B w (.slice a1 p.ty.length d1) (.slice a2 p.fu.length d2) (.slice a3 p.ta.length d3) (.slice a4 p.st.length d4) (.slice b1 f.lo.length e1) (.slice b2 f.re.length e2) (.slice b3 f.ar.length e3) (.slice b4 f.co.length e4) p f) (i : In3) (P : PileAt X w E b s) (hX : ∀ j, X j → B ≤ j ∧ j < w.heap.size) (hs : s.length ≤ 1000000000000) (ho : i.o = 19) (hlen : 1 ≤ s.length) : Calls Tryd.prog 32 #[.agg #[.slice a1 p.ty.length d1, .slice a2 p.fu.length d2, .slice a3 p.ta.length d3, .slice a4 p.st.length d4, .int .i64 f.pa, .slice b1 f.lo.length e1, .slice b2 f.re.length e2, .slice b3 f.ar.length e3, .slice b4 f.co.length e4], .agg #[.int .i64 i.o, .int .i64 i.a, .int .i64 i.b], pp b] w (BhO X E (s.take (s.length - 1) ++ [1]) w) := by
  obtain ⟨W1, hW1⟩ : ∃ W1, (w.alloc (.cells #[.slice a1 p.ty.length d1, .slice a2 p.fu.length d2, .slice a3 p.ta.length d3, .slice a4 p.st.length d4, .int .i64 f.pa, .slice b1 f.lo.length e1, .slice b2 f.re.length e2, .slice b3 f.ar.length e3, .slice b4 f.co.length e4] 89)).alloc (.cells #[.int .i64 i.o, .int .i64 i.a, .int .i64 i.b] 47) = W1 := ⟨_, rfl⟩
  have hb : Below w.heap.size w W1 := by rw [← hW1]; exact ((Below.refl _ _).alloc (Nat.le_refl _) _).alloc (by simp) _
  have hW : W1.heap[w.heap.size]? = some (.cells #[.slice a1 p.ty.length d1, .slice a2 p.fu.length d2, .slice a3 p.ta.length d3, .slice a4 p.st.length d4, .int .i64 f.pa, .slice b1 f.lo.length e1, .slice b2 f.re.length e2, .slice b3 f.ar.length e3, .slice b4 f.co.length e4] 89 (0, 0)) := by rw [← hW1, Below.heap_alloc _ _ _ (by simp)]; exact heap_new _ _ rfl
  have hI : W1.heap[w.heap.size + 1]? = some (.cells #[.int .i64 i.o, .int .i64 i.a, .int .i64 i.b] 47 (0, 0)) := by rw [← hW1]; exact heap_new _ _ (by simp)
  have i0 : W1.cell? ⟨w.heap.size + 1, 0, none⟩ = some (.int .i64 i.o) := cell_of hI rfl
  have i1 : W1.cell? ⟨w.heap.size + 1, 1, none⟩ = some (.int .i64 i.a) := cell_of hI rfl
  have i2 : W1.cell? ⟨w.heap.size + 1, 2, none⟩ = some (.int .i64 i.b) := cell_of hI rfl
  have hlW := lt_of_block hW
  have hlI := lt_of_block hI
  have HWB := hide (show ∀ W : World, Below W1.heap.size W1 W → W.heap[w.heap.size]? = some (.cells #[.slice a1 p.ty.length d1, .slice a2 p.fu.length d2, .slice a3 p.ta.length d3, .slice a4 p.st.length d4, .int .i64 f.pa, .slice b1 f.lo.length e1, .slice b2 f.re.length e2, .slice b3 f.ar.length e3, .slice b4 f.co.length e4] 89 (0, 0)) from fun W h => (h.block _ hlW).trans hW)
  have HIB := hide (show ∀ W : World, Below W1.heap.size W1 W → W.heap[w.heap.size + 1]? = some (.cells #[.int .i64 i.o, .int .i64 i.a, .int .i64 i.b] 47 (0, 0)) from fun W h => (h.block _ hlI).trans hI)
  have HB := hide hb
  have HY := hide (show ∀ W : World, Below W1.heap.size W1 W → WyAt B W (.slice a1 p.ty.length d1) (.slice a2 p.fu.length d2) (.slice a3 p.ta.length d3) (.slice a4 p.st.length d4) (.slice b1 f.lo.length e1) (.slice b2 f.re.length e2) (.slice b3 f.ar.length e3) (.slice b4 f.co.length e4) p f from fun W h => (Y.below hb).below h)
  have HP := hide (show ∀ W : World, Below W1.heap.size W1 W → PileAt X W E b s from fun W h => P.keep (Kp.of_below (bel_tr hb h)))
  have HX := hide (show ∀ W : World, Below W1.heap.size W1 W → ∀ j, X j → B ≤ j ∧ j < W.heap.size from fun W h j hj => ⟨(hX j hj).1, Nat.lt_of_lt_of_le (hX j hj).2 (bel_tr hb h).size⟩)
  have HXN := hide (show ∀ W : World, Below W1.heap.size W1 W → ¬ X W.heap.size from fun W h hx => Nat.lt_irrefl _ (Nat.lt_of_lt_of_le (hX _ hx).2 (bel_tr hb h).size))
  have HWO := hide (show ∀ (W : World) (n : Nat), Below W1.heap.size W1 W → n ≤ s.length → Calls Tryd.prog 54 #[pp b, .int .i64 (n : Int)] W (BhO X E (s.take (s.length - n)) W) from fun W n h hn => without_any (HP.out W h) hn (fun j hj => (HX.out W h j hj).2) (by omega))
  have HWI := hide (show ∀ (W : World) (b' : Nat) (l' : List Int) (v : Value) (ks : List Int), Below W1.heap.size W1 W → PileAt X W E b' l' → IsAt X W v ks → ks.length ≤ 4096 → l'.length ≤ s.length → Calls Tryd.prog 53 #[pp b', v] W (BhO X E (l' ++ ks) W) from fun W b' l' v ks h hp hi hk hl => with_any hp hi (fun j hj => (HX.out W h j hj).2) (by omega))
  have HW1 := hide (show ∀ (W : World) (b' : Nat) (l' : List Int) (k : Int), Below W1.heap.size W1 W → PileAt X W E b' l' → l'.length ≤ s.length → Calls Tryd.prog 53 #[pp b', .slice (some ⟨W.heap.size, 0, none⟩) 1 1] (W.alloc (.cells #[.int .i64 k] 3)) (BhO X E (l' ++ [k]) W) from fun W b' l' k h hp hl => with1 hp (fun j hj => (HX.out W h j hj).2) (by omega) k _)
  have HTP := hide (show ∀ W : World, Below W1.heap.size W1 W → 0 < s.length → Calls Tryd.prog 55 #[pp b] W fun e W' => e = .returned (.int .i64 (s.getLast?.getD 0)) ∧ Below W.heap.size W W' from fun W h h0 => top_any (HP.out W h) h0 (by omega))
  have HTK := hide (show ∀ n : Nat, (s.take (s.length - n)).length ≤ s.length from fun n => List.length_take_le' _ _)
  have HSL := hide hs
  have HPOS := hide (show 0 < s.length by omega)
  have HLEN := hide hlen
  clear hlen
  clear Y P hX hs hb hW hI
  rw [ho] at i0 hW1 HIB ⊢
  clear ho
  go_enter Tryd.func32, Tryd.ntmps32
  go_wp2_with fail
  refine (HWO.out W1 1 (Below.refl _ _) HLEN.out).mono ?_
  rintro e w3 ⟨b3, rfl, hp3, hb3⟩
  have HB3 := hide (show Below W1.heap.size W1 w3 from bel_tr (Below.refl _ _) hb3)
  have HP3 := hide hp3
  clear hb3 hp3
  go_wp2_with fail
  refine (HW1.out w3 b3 (s.take (s.length - 1)) 1 HB3.out HP3.out (HTK.out _)).mono ?_
  rintro e w9 ⟨b9, rfl, hp9, hb9⟩
  have HB9 := hide (show Below W1.heap.size W1 w9 from bel_tr HB3.out hb9)
  have HP9 := hide hp9
  clear hb9 hp9
  go_wp2
  go_ret
  exact ⟨b9, rfl, HP9.out, bel_tr HB.out HB9.out⟩

set_option maxRecDepth 100000 in
set_option maxHeartbeats 1000000 in
theorem bh_0 (Y : WyAt B w (.slice a1 p.ty.length d1) (.slice a2 p.fu.length d2) (.slice a3 p.ta.length d3) (.slice a4 p.st.length d4) (.slice b1 f.lo.length e1) (.slice b2 f.re.length e2) (.slice b3 f.ar.length e3) (.slice b4 f.co.length e4) p f) (i : In3) (P : PileAt X w E b s) (hX : ∀ j, X j → B ≤ j ∧ j < w.heap.size) (hs : s.length ≤ 1000000000000) (ho : i.o ≠ 1 ∧ i.o ≠ 2 ∧ i.o ≠ 3 ∧ i.o ≠ 4 ∧ i.o ≠ 5 ∧ i.o ≠ 10 ∧ i.o ≠ 25 ∧ i.o ≠ 26 ∧ i.o ≠ 6 ∧ i.o ≠ 7 ∧ i.o ≠ 8 ∧ i.o ≠ 11 ∧ i.o ≠ 12 ∧ i.o ≠ 13 ∧ i.o ≠ 14 ∧ i.o ≠ 15 ∧ i.o ≠ 16 ∧ i.o ≠ 17 ∧ i.o ≠ 18 ∧ i.o ≠ 20 ∧ i.o ≠ 19 ∧ i.o ≠ 21 ∧ i.o ≠ 22 ∧ i.o ≠ 23 ∧ i.o ≠ 29) : Calls Tryd.prog 32 #[.agg #[.slice a1 p.ty.length d1, .slice a2 p.fu.length d2, .slice a3 p.ta.length d3, .slice a4 p.st.length d4, .int .i64 f.pa, .slice b1 f.lo.length e1, .slice b2 f.re.length e2, .slice b3 f.ar.length e3, .slice b4 f.co.length e4], .agg #[.int .i64 i.o, .int .i64 i.a, .int .i64 i.b], pp b] w (BhO X E (s) w) := by
  obtain ⟨W1, hW1⟩ : ∃ W1, (w.alloc (.cells #[.slice a1 p.ty.length d1, .slice a2 p.fu.length d2, .slice a3 p.ta.length d3, .slice a4 p.st.length d4, .int .i64 f.pa, .slice b1 f.lo.length e1, .slice b2 f.re.length e2, .slice b3 f.ar.length e3, .slice b4 f.co.length e4] 89)).alloc (.cells #[.int .i64 i.o, .int .i64 i.a, .int .i64 i.b] 47) = W1 := ⟨_, rfl⟩
  have hb : Below w.heap.size w W1 := by rw [← hW1]; exact ((Below.refl _ _).alloc (Nat.le_refl _) _).alloc (by simp) _
  have hW : W1.heap[w.heap.size]? = some (.cells #[.slice a1 p.ty.length d1, .slice a2 p.fu.length d2, .slice a3 p.ta.length d3, .slice a4 p.st.length d4, .int .i64 f.pa, .slice b1 f.lo.length e1, .slice b2 f.re.length e2, .slice b3 f.ar.length e3, .slice b4 f.co.length e4] 89 (0, 0)) := by rw [← hW1, Below.heap_alloc _ _ _ (by simp)]; exact heap_new _ _ rfl
  have hI : W1.heap[w.heap.size + 1]? = some (.cells #[.int .i64 i.o, .int .i64 i.a, .int .i64 i.b] 47 (0, 0)) := by rw [← hW1]; exact heap_new _ _ (by simp)
  have i0 : W1.cell? ⟨w.heap.size + 1, 0, none⟩ = some (.int .i64 i.o) := cell_of hI rfl
  have i1 : W1.cell? ⟨w.heap.size + 1, 1, none⟩ = some (.int .i64 i.a) := cell_of hI rfl
  have i2 : W1.cell? ⟨w.heap.size + 1, 2, none⟩ = some (.int .i64 i.b) := cell_of hI rfl
  have hlW := lt_of_block hW
  have hlI := lt_of_block hI
  have HWB := hide (show ∀ W : World, Below W1.heap.size W1 W → W.heap[w.heap.size]? = some (.cells #[.slice a1 p.ty.length d1, .slice a2 p.fu.length d2, .slice a3 p.ta.length d3, .slice a4 p.st.length d4, .int .i64 f.pa, .slice b1 f.lo.length e1, .slice b2 f.re.length e2, .slice b3 f.ar.length e3, .slice b4 f.co.length e4] 89 (0, 0)) from fun W h => (h.block _ hlW).trans hW)
  have HIB := hide (show ∀ W : World, Below W1.heap.size W1 W → W.heap[w.heap.size + 1]? = some (.cells #[.int .i64 i.o, .int .i64 i.a, .int .i64 i.b] 47 (0, 0)) from fun W h => (h.block _ hlI).trans hI)
  have HB := hide hb
  have HY := hide (show ∀ W : World, Below W1.heap.size W1 W → WyAt B W (.slice a1 p.ty.length d1) (.slice a2 p.fu.length d2) (.slice a3 p.ta.length d3) (.slice a4 p.st.length d4) (.slice b1 f.lo.length e1) (.slice b2 f.re.length e2) (.slice b3 f.ar.length e3) (.slice b4 f.co.length e4) p f from fun W h => (Y.below hb).below h)
  have HP := hide (show ∀ W : World, Below W1.heap.size W1 W → PileAt X W E b s from fun W h => P.keep (Kp.of_below (bel_tr hb h)))
  have HX := hide (show ∀ W : World, Below W1.heap.size W1 W → ∀ j, X j → B ≤ j ∧ j < W.heap.size from fun W h j hj => ⟨(hX j hj).1, Nat.lt_of_lt_of_le (hX j hj).2 (bel_tr hb h).size⟩)
  have HXN := hide (show ∀ W : World, Below W1.heap.size W1 W → ¬ X W.heap.size from fun W h hx => Nat.lt_irrefl _ (Nat.lt_of_lt_of_le (hX _ hx).2 (bel_tr hb h).size))
  have HWO := hide (show ∀ (W : World) (n : Nat), Below W1.heap.size W1 W → n ≤ s.length → Calls Tryd.prog 54 #[pp b, .int .i64 (n : Int)] W (BhO X E (s.take (s.length - n)) W) from fun W n h hn => without_any (HP.out W h) hn (fun j hj => (HX.out W h j hj).2) (by omega))
  have HWI := hide (show ∀ (W : World) (b' : Nat) (l' : List Int) (v : Value) (ks : List Int), Below W1.heap.size W1 W → PileAt X W E b' l' → IsAt X W v ks → ks.length ≤ 4096 → l'.length ≤ s.length → Calls Tryd.prog 53 #[pp b', v] W (BhO X E (l' ++ ks) W) from fun W b' l' v ks h hp hi hk hl => with_any hp hi (fun j hj => (HX.out W h j hj).2) (by omega))
  have HW1 := hide (show ∀ (W : World) (b' : Nat) (l' : List Int) (k : Int), Below W1.heap.size W1 W → PileAt X W E b' l' → l'.length ≤ s.length → Calls Tryd.prog 53 #[pp b', .slice (some ⟨W.heap.size, 0, none⟩) 1 1] (W.alloc (.cells #[.int .i64 k] 3)) (BhO X E (l' ++ [k]) W) from fun W b' l' k h hp hl => with1 hp (fun j hj => (HX.out W h j hj).2) (by omega) k _)
  have HTP := hide (show ∀ W : World, Below W1.heap.size W1 W → 0 < s.length → Calls Tryd.prog 55 #[pp b] W fun e W' => e = .returned (.int .i64 (s.getLast?.getD 0)) ∧ Below W.heap.size W W' from fun W h h0 => top_any (HP.out W h) h0 (by omega))
  have HTK := hide (show ∀ n : Nat, (s.take (s.length - n)).length ≤ s.length from fun n => List.length_take_le' _ _)
  have HSL := hide hs
  clear Y P hX hs hb hW hI
  have q1 : (i.o == 1) = false := by simp; omega
  have q2 : (i.o == 2) = false := by simp; omega
  have q3 : (i.o == 3) = false := by simp; omega
  have q4 : (i.o == 4) = false := by simp; omega
  have q5 : (i.o == 5) = false := by simp; omega
  have q10 : (i.o == 10) = false := by simp; omega
  have q25 : (i.o == 25) = false := by simp; omega
  have q26 : (i.o == 26) = false := by simp; omega
  have q6 : (i.o == 6) = false := by simp; omega
  have q7 : (i.o == 7) = false := by simp; omega
  have q8 : (i.o == 8) = false := by simp; omega
  have q11 : (i.o == 11) = false := by simp; omega
  have q12 : (i.o == 12) = false := by simp; omega
  have q13 : (i.o == 13) = false := by simp; omega
  have q14 : (i.o == 14) = false := by simp; omega
  have q15 : (i.o == 15) = false := by simp; omega
  have q16 : (i.o == 16) = false := by simp; omega
  have q17 : (i.o == 17) = false := by simp; omega
  have q18 : (i.o == 18) = false := by simp; omega
  have q20 : (i.o == 20) = false := by simp; omega
  have q19 : (i.o == 19) = false := by simp; omega
  have q21 : (i.o == 21) = false := by simp; omega
  have q22 : (i.o == 22) = false := by simp; omega
  have q23 : (i.o == 23) = false := by simp; omega
  have q29 : (i.o == 29) = false := by simp; omega
  clear ho
  go_enter Tryd.func32, Tryd.ntmps32
  go_wp2
  go_ret
  exact ⟨b, rfl, HP.out _ (Below.refl _ _), HB.out⟩

end
end Go.Proofs.YtkdojpnihinpbaaDoor

namespace Go.Proofs.YtkdojpnihinpbaaDoor
open Go.RowKit
section
variable {B E b : Nat} {X : Nat → Prop} {w : World} {a1 a2 a3 a4 b1 b2 b3 b4 : Option Addr} {d1 d2 d3 d4 e1 e2 e3 e4 : Nat} {p : Pg} {f : Fd} {s : List Int}
set_option maxRecDepth 100000 in
set_option maxHeartbeats 1000000 in
theorem bh_12 (Y : WyAt B w (.slice a1 p.ty.length d1) (.slice a2 p.fu.length d2) (.slice a3 p.ta.length d3) (.slice a4 p.st.length d4) (.slice b1 f.lo.length e1) (.slice b2 f.re.length e2) (.slice b3 f.ar.length e3) (.slice b4 f.co.length e4) p f) (i : In3) (P : PileAt X w E b s) (hX : ∀ j, X j → B ≤ j ∧ j < w.heap.size) (hs : s.length ≤ 1000000000000) (ho : i.o = 12) (hlen : 1 ≤ s.length) {t : Nat} (hia : i.a = (t : Int)) (ht : t ≤ 1024) : Calls Tryd.prog 32 #[.agg #[.slice a1 p.ty.length d1, .slice a2 p.fu.length d2, .slice a3 p.ta.length d3, .slice a4 p.st.length d4, .int .i64 f.pa, .slice b1 f.lo.length e1, .slice b2 f.re.length e2, .slice b3 f.ar.length e3, .slice b4 f.co.length e4], .agg #[.int .i64 i.o, .int .i64 i.a, .int .i64 i.b], pp b] w (BhO X E (s.take (s.length - 1) ++ [3 + 2 * (t : Int)]) w) := by
  obtain ⟨W1, hW1⟩ : ∃ W1, (w.alloc (.cells #[.slice a1 p.ty.length d1, .slice a2 p.fu.length d2, .slice a3 p.ta.length d3, .slice a4 p.st.length d4, .int .i64 f.pa, .slice b1 f.lo.length e1, .slice b2 f.re.length e2, .slice b3 f.ar.length e3, .slice b4 f.co.length e4] 89)).alloc (.cells #[.int .i64 i.o, .int .i64 i.a, .int .i64 i.b] 47) = W1 := ⟨_, rfl⟩
  have hb : Below w.heap.size w W1 := by rw [← hW1]; exact ((Below.refl _ _).alloc (Nat.le_refl _) _).alloc (by simp) _
  have hW : W1.heap[w.heap.size]? = some (.cells #[.slice a1 p.ty.length d1, .slice a2 p.fu.length d2, .slice a3 p.ta.length d3, .slice a4 p.st.length d4, .int .i64 f.pa, .slice b1 f.lo.length e1, .slice b2 f.re.length e2, .slice b3 f.ar.length e3, .slice b4 f.co.length e4] 89 (0, 0)) := by rw [← hW1, Below.heap_alloc _ _ _ (by simp)]; exact heap_new _ _ rfl
  have hI : W1.heap[w.heap.size + 1]? = some (.cells #[.int .i64 i.o, .int .i64 i.a, .int .i64 i.b] 47 (0, 0)) := by rw [← hW1]; exact heap_new _ _ (by simp)
  have i0 : W1.cell? ⟨w.heap.size + 1, 0, none⟩ = some (.int .i64 i.o) := cell_of hI rfl
  have i1 : W1.cell? ⟨w.heap.size + 1, 1, none⟩ = some (.int .i64 i.a) := cell_of hI rfl
  have i2 : W1.cell? ⟨w.heap.size + 1, 2, none⟩ = some (.int .i64 i.b) := cell_of hI rfl
  have hlW := lt_of_block hW
  have hlI := lt_of_block hI
  have HWB := hide (show ∀ W : World, Below W1.heap.size W1 W → W.heap[w.heap.size]? = some (.cells #[.slice a1 p.ty.length d1, .slice a2 p.fu.length d2, .slice a3 p.ta.length d3, .slice a4 p.st.length d4, .int .i64 f.pa, .slice b1 f.lo.length e1, .slice b2 f.re.length e2, .slice b3 f.ar.length e3, .slice b4 f.co.length e4] 89 (0, 0)) from fun W h => (h.block _ hlW).trans hW)
  have HIB := hide (show ∀ W : World, Below W1.heap.size W1 W → W.heap[w.heap.size + 1]? = some (.cells #[.int .i64 i.o, .int .i64 i.a, .int .i64 i.b] 47 (0, 0)) from fun W h => (h.block _ hlI).trans hI)
  have HB := hide hb
  have HY := hide (show ∀ W : World, Below W1.heap.size W1 W → WyAt B W (.slice a1 p.ty.length d1) (.slice a2 p.fu.length d2) (.slice a3 p.ta.length d3) (.slice a4 p.st.length d4) (.slice b1 f.lo.length e1) (.slice b2 f.re.length e2) (.slice b3 f.ar.length e3) (.slice b4 f.co.length e4) p f from fun W h => (Y.below hb).below h)
  have HP := hide (show ∀ W : World, Below W1.heap.size W1 W → PileAt X W E b s from fun W h => P.keep (Kp.of_below (bel_tr hb h)))
  have HX := hide (show ∀ W : World, Below W1.heap.size W1 W → ∀ j, X j → B ≤ j ∧ j < W.heap.size from fun W h j hj => ⟨(hX j hj).1, Nat.lt_of_lt_of_le (hX j hj).2 (bel_tr hb h).size⟩)
  have HXN := hide (show ∀ W : World, Below W1.heap.size W1 W → ¬ X W.heap.size from fun W h hx => Nat.lt_irrefl _ (Nat.lt_of_lt_of_le (hX _ hx).2 (bel_tr hb h).size))
  have HWO := hide (show ∀ (W : World) (n : Nat), Below W1.heap.size W1 W → n ≤ s.length → Calls Tryd.prog 54 #[pp b, .int .i64 (n : Int)] W (BhO X E (s.take (s.length - n)) W) from fun W n h hn => without_any (HP.out W h) hn (fun j hj => (HX.out W h j hj).2) (by omega))
  have HWI := hide (show ∀ (W : World) (b' : Nat) (l' : List Int) (v : Value) (ks : List Int), Below W1.heap.size W1 W → PileAt X W E b' l' → IsAt X W v ks → ks.length ≤ 4096 → l'.length ≤ s.length → Calls Tryd.prog 53 #[pp b', v] W (BhO X E (l' ++ ks) W) from fun W b' l' v ks h hp hi hk hl => with_any hp hi (fun j hj => (HX.out W h j hj).2) (by omega))
  have HW1 := hide (show ∀ (W : World) (b' : Nat) (l' : List Int) (k : Int), Below W1.heap.size W1 W → PileAt X W E b' l' → l'.length ≤ s.length → Calls Tryd.prog 53 #[pp b', .slice (some ⟨W.heap.size, 0, none⟩) 1 1] (W.alloc (.cells #[.int .i64 k] 3)) (BhO X E (l' ++ [k]) W) from fun W b' l' k h hp hl => with1 hp (fun j hj => (HX.out W h j hj).2) (by omega) k _)
  have HTP := hide (show ∀ W : World, Below W1.heap.size W1 W → 0 < s.length → Calls Tryd.prog 55 #[pp b] W fun e W' => e = .returned (.int .i64 (s.getLast?.getD 0)) ∧ Below W.heap.size W W' from fun W h h0 => top_any (HP.out W h) h0 (by omega))
  have HTK := hide (show ∀ n : Nat, (s.take (s.length - n)).length ≤ s.length from fun n => List.length_take_le' _ _)
  have HSL := hide hs
  have HPOS := hide (show 0 < s.length by omega)
  have HLEN := hide hlen
  clear hlen
  have b8 : (t : Int) ≤ 1024 := by omega
  have b9 : (0 : Int) ≤ (t : Int) := by omega
  rw [hia] at i1 hW1 HIB ⊢
  clear hia ht
  have wq : IntKind.i64.wrap (2 * (t : Int)) = 2 * (t : Int) := by go_arith
  have wr : IntKind.i64.wrap (3 + 2 * (t : Int)) = 3 + 2 * (t : Int) := by go_arith
  clear Y P hX hs hb hW hI
  rw [ho] at i0 hW1 HIB ⊢
  clear ho
  go_enter Tryd.func32, Tryd.ntmps32
  go_wp2_with fail
  refine wp_region_held_drew (S := (fun W => W.cell? ⟨w.heap.size + 1, 1, none⟩ = some (.int .i64 t))) (by kernel_rfl) i1 (fun hHeld1 => ?_)
  refine wpAnyH_take (i := 0) (oi := { dst := some 66, op := Go.Op.move (Go.Operand.tmp 2), type := 64, pos := "way.go:66", after := #[], guard := none }) (v := ?v2) rfl (by kernel_rfl) (by kernel_rfl) (by kernel_rfl) (fun _ _ _ h => h) (Or.inl ⟨by rfl, ?hy2⟩) (by assumption) ?_
  case hy2 => (intro W hSw; (try dsimp only at hSw); go_simp; try with_reducible rfl)
  try simp only [Act.put, List.setIfInBounds_toArray, List.set_cons_zero, List.set_cons_succ]
  refine wpAnyH_take (i := 2) (oi := { dst := some 68, op := Go.Op.fieldAddr 47 (Go.Operand.tmp 4) 1, type := 0, pos := "way.go:66", after := #[], guard := none }) (v := ?v3) rfl (by kernel_rfl) (by kernel_rfl) (by kernel_rfl) (fun _ _ _ h => h) (Or.inl ⟨by rfl, ?hy3⟩) (by assumption) ?_
  case hy3 => (intro W hSw; (try dsimp only at hSw); go_simp; try with_reducible rfl)
  try simp only [Act.put, List.setIfInBounds_toArray, List.set_cons_zero, List.set_cons_succ]
  refine wpAnyH_take (i := 3) (oi := { dst := some 69, op := Go.Op.load 3 (Go.Operand.tmp 68), type := 3, pos := "way.go:66", after := #[{ on := 2, ground := Go.Ground.data }], guard := none }) (v := ?v4) rfl (by kernel_rfl) (by kernel_rfl) (by kernel_rfl) (fun _ _ _ h => h) (Or.inl ⟨by rfl, ?hy4⟩) (by assumption) ?_
  case hy4 => (intro W hSw; (try dsimp only at hSw); go_simp; try with_reducible rfl)
  try simp only [Act.put, List.setIfInBounds_toArray, List.set_cons_zero, List.set_cons_succ]
  refine wpAnyH_take (i := 4) (oi := { dst := some 70, op := Go.Op.binOp Go.BinOp.mul 3 (Go.Operand.const (Go.Value.int Go.IntKind.i64 2)) (Go.Operand.tmp 69) 3, type := 3, pos := "way.go:66", after := #[{ on := 3, ground := Go.Ground.data }], guard := none }) (v := ?v5) rfl (by kernel_rfl) (by kernel_rfl) (by kernel_rfl) (fun _ _ _ h => h) (Or.inl ⟨by rfl, ?hy5⟩) (by assumption) ?_
  case hy5 => (intro W hSw; (try dsimp only at hSw); go_simp; try with_reducible rfl)
  try simp only [Act.put, List.setIfInBounds_toArray, List.set_cons_zero, List.set_cons_succ]
  refine wpAnyH_take (i := 5) (oi := { dst := some 71, op := Go.Op.binOp Go.BinOp.add 3 (Go.Operand.const (Go.Value.int Go.IntKind.i64 3)) (Go.Operand.tmp 70) 3, type := 3, pos := "way.go:66", after := #[{ on := 4, ground := Go.Ground.data }], guard := none }) (v := ?v6) rfl (by kernel_rfl) (by kernel_rfl) (by kernel_rfl) (fun _ _ _ h => h) (Or.inl ⟨by rfl, ?hy6⟩) (by assumption) ?_
  case hy6 => (intro W hSw; (try dsimp only at hSw); go_simp; try with_reducible rfl)
  try simp only [Act.put, List.setIfInBounds_toArray, List.set_cons_zero, List.set_cons_succ]
  refine wpAnyH_ready (rs := [1, 6]) (by kernel_rfl) (by simp) ?_
  refine AllReadyH.cons (o := { dst := some 67, op := Go.Op.call { callee := Go.Callee.value (Go.Operand.func 54), args := #[Go.Operand.tmp 66, Go.Operand.const (Go.Value.int Go.IntKind.i64 1)], argTypes := #[64, 3] }, type := 64, pos := "way.go:66", after := #[{ on := 0, ground := Go.Ground.data }], guard := none }) rfl (fun K hK => ?_) (AllReadyH.cons (o := { dst := some 72, op := Go.Op.buildSlice 37 1 #[(0, Go.Operand.tmp 71)], type := 37, pos := "way.go:66", after := #[{ on := 5, ground := Go.Ground.data }], guard := none }) rfl (fun K hK => ?_) AllReadyH.nil)
  · go_simp
    go_at_call 54
    refine (HWO.out _ 1 (below_drew (Below.refl _ _)) HLEN.out).mono ?_
    rintro e w3 ⟨b3, rfl, hp3, hb3⟩
    have HB3 := hide (show Below W1.heap.size W1 w3 from bel_tr (below_drew (Below.refl _ _)) hb3)
    have HP3 := hide hp3
    clear hb3 hp3
    go_wp2_with fail
    refine hK.out _ _ (cell_of (HIB.out _ HB3.out) rfl) (fun hHeld7 => ?_)
    clear hK K
    try simp only [Act.put, List.setIfInBounds_toArray, List.set_cons_zero, List.set_cons_succ]
    have HA3 := hide (show Below W1.heap.size W1 (w3.alloc (.cells #[.int .i64 (3 + 2 * (t : Int))] 3)) from HB3.out.alloc HB3.out.size _)
    refine wpAnyH_ready (rs := [6]) (by kernel_rfl) (by simp) ?_
    refine AllReadyH.cons (o := { dst := some 72, op := Go.Op.buildSlice 37 1 #[(0, Go.Operand.tmp 71)], type := 37, pos := "way.go:66", after := #[{ on := 5, ground := Go.Ground.data }], guard := none }) rfl (fun K hK => ?_) AllReadyH.nil
    go_simp
    go_wp2_with fail
    refine hK.out _ _ (cell_of (HIB.out _ HA3.out) rfl) (fun hHeld8 => ?_)
    clear hK K
    try simp only [Act.put, List.setIfInBounds_toArray, List.set_cons_zero, List.set_cons_succ]
    refine wpAnyH_ready (rs := [7]) (by kernel_rfl) (by simp) ?_
    refine AllReadyH.cons (o := { dst := some 73, op := Go.Op.call { callee := Go.Callee.value (Go.Operand.func 53), args := #[Go.Operand.tmp 67, Go.Operand.tmp 72], argTypes := #[64, 37] }, type := 64, pos := "way.go:66", after := #[{ on := 1, ground := Go.Ground.data }, { on := 6, ground := Go.Ground.data }, { on := 1, ground := Go.Ground.chain }], guard := none }) rfl (fun K hK => ?_) AllReadyH.nil
    go_simp
    go_at_call 53
    refine (HW1.out w3 b3 _ (3 + 2 * (t : Int)) HB3.out HP3.out (HTK.out _)).mono ?_
    rintro e w9 ⟨b9, rfl, hp9, hb9⟩
    have HB9 := hide (show Below W1.heap.size W1 w9 from bel_tr HB3.out hb9)
    have HP9 := hide hp9
    clear hb9 hp9
    go_wp2_with fail
    refine hK.out _ _ (cell_of (HIB.out _ HB9.out) rfl) (fun hHeld9 => ?_)
    clear hK K
    try simp only [Act.put, List.setIfInBounds_toArray, List.set_cons_zero, List.set_cons_succ]
    refine wpAnyH_take (i := 8) (oi := { dst := some 6, op := Go.Op.assign (Go.Operand.tmp 73), type := 64, pos := "way.go:66", after := #[{ on := 7, ground := Go.Ground.data }, { on := 7, ground := Go.Ground.chain }, { on := 0, ground := Go.Ground.phase }, { on := 1, ground := Go.Ground.phase }, { on := 2, ground := Go.Ground.phase }, { on := 3, ground := Go.Ground.phase }, { on := 4, ground := Go.Ground.phase }, { on := 5, ground := Go.Ground.phase }, { on := 6, ground := Go.Ground.phase }, { on := 7, ground := Go.Ground.phase }], guard := none }) (v := ?v10) rfl (by kernel_rfl) (by kernel_rfl) (by kernel_rfl) (fun _ _ _ h => h) (Or.inl ⟨by rfl, ?hy10⟩) (by assumption) ?_
    case hy10 => (intro W hSw; (try dsimp only at hSw); go_simp; try with_reducible rfl)
    try simp only [Act.put, List.setIfInBounds_toArray, List.set_cons_zero, List.set_cons_succ]
    refine wpAnyH_done (by kernel_rfl) ?_ _
    go_wp2
    go_ret
    exact ⟨b9, rfl, HP9.out, bel_tr HB.out HB9.out⟩
  · have HA2 := hide (show Below W1.heap.size W1 (W1.drew.alloc (.cells #[.int .i64 (3 + 2 * (t : Int))] 3)) from (below_drew (Below.refl W1.heap.size W1)).alloc (below_drew (Below.refl W1.heap.size W1)).size _)
    have HI2 := hide (show IsAt X (W1.drew.alloc (.cells #[.int .i64 (3 + 2 * (t : Int))] 3)) (.slice (some ⟨W1.drew.heap.size, 0, none⟩) 1 1) [(3 + 2 * (t : Int))] from isAt_new (ks := [(3 + 2 * (t : Int))]) (T := 3) (heap_new _ _ rfl) (HXN.out W1.drew (below_drew (Below.refl _ _))) (by simp))
    go_simp
    go_wp2_with fail
    refine hK.out _ _ (cell_of (HIB.out _ HA2.out) rfl) (fun hHeld11 => ?_)
    clear hK K
    try simp only [Act.put, List.setIfInBounds_toArray, List.set_cons_zero, List.set_cons_succ]
    refine wpAnyH_ready (rs := [1]) (by kernel_rfl) (by simp) ?_
    refine AllReadyH.cons (o := { dst := some 67, op := Go.Op.call { callee := Go.Callee.value (Go.Operand.func 54), args := #[Go.Operand.tmp 66, Go.Operand.const (Go.Value.int Go.IntKind.i64 1)], argTypes := #[64, 3] }, type := 64, pos := "way.go:66", after := #[{ on := 0, ground := Go.Ground.data }], guard := none }) rfl (fun K hK => ?_) AllReadyH.nil
    go_simp
    go_at_call 54
    refine (HWO.out _ 1 HA2.out HLEN.out).mono ?_
    rintro e w3 ⟨b3, rfl, hp3, hb3⟩
    have HB3 := hide (show Below W1.heap.size W1 w3 from bel_tr HA2.out hb3)
    have HP3 := hide hp3
    have HI3 := hide (HI2.out.keep (Kp.of_below hb3))
    clear hb3 hp3
    go_wp2_with fail
    refine hK.out _ _ (cell_of (HIB.out _ HB3.out) rfl) (fun hHeld12 => ?_)
    clear hK K
    try simp only [Act.put, List.setIfInBounds_toArray, List.set_cons_zero, List.set_cons_succ]
    refine wpAnyH_ready (rs := [7]) (by kernel_rfl) (by simp) ?_
    refine AllReadyH.cons (o := { dst := some 73, op := Go.Op.call { callee := Go.Callee.value (Go.Operand.func 53), args := #[Go.Operand.tmp 67, Go.Operand.tmp 72], argTypes := #[64, 37] }, type := 64, pos := "way.go:66", after := #[{ on := 1, ground := Go.Ground.data }, { on := 6, ground := Go.Ground.data }, { on := 1, ground := Go.Ground.chain }], guard := none }) rfl (fun K hK => ?_) AllReadyH.nil
    go_simp
    go_at_call 53
    refine (HWI.out w3 b3 _ _ [(3 + 2 * (t : Int))] HB3.out HP3.out HI3.out (by simp) (HTK.out _)).mono ?_
    rintro e w9 ⟨b9, rfl, hp9, hb9⟩
    have HB9 := hide (show Below W1.heap.size W1 w9 from bel_tr HB3.out hb9)
    have HP9 := hide hp9
    clear hb9 hp9
    go_wp2_with fail
    refine hK.out _ _ (cell_of (HIB.out _ HB9.out) rfl) (fun hHeld13 => ?_)
    clear hK K
    try simp only [Act.put, List.setIfInBounds_toArray, List.set_cons_zero, List.set_cons_succ]
    refine wpAnyH_take (i := 8) (oi := { dst := some 6, op := Go.Op.assign (Go.Operand.tmp 73), type := 64, pos := "way.go:66", after := #[{ on := 7, ground := Go.Ground.data }, { on := 7, ground := Go.Ground.chain }, { on := 0, ground := Go.Ground.phase }, { on := 1, ground := Go.Ground.phase }, { on := 2, ground := Go.Ground.phase }, { on := 3, ground := Go.Ground.phase }, { on := 4, ground := Go.Ground.phase }, { on := 5, ground := Go.Ground.phase }, { on := 6, ground := Go.Ground.phase }, { on := 7, ground := Go.Ground.phase }], guard := none }) (v := ?v14) rfl (by kernel_rfl) (by kernel_rfl) (by kernel_rfl) (fun _ _ _ h => h) (Or.inl ⟨by rfl, ?hy14⟩) (by assumption) ?_
    case hy14 => (intro W hSw; (try dsimp only at hSw); go_simp; try with_reducible rfl)
    try simp only [Act.put, List.setIfInBounds_toArray, List.set_cons_zero, List.set_cons_succ]
    refine wpAnyH_done (by kernel_rfl) ?_ _
    go_wp2
    go_ret
    exact ⟨b9, rfl, HP9.out, bel_tr HB.out HB9.out⟩

set_option maxRecDepth 100000 in
set_option maxHeartbeats 1000000 in
theorem bh_21 (Y : WyAt B w (.slice a1 p.ty.length d1) (.slice a2 p.fu.length d2) (.slice a3 p.ta.length d3) (.slice a4 p.st.length d4) (.slice b1 f.lo.length e1) (.slice b2 f.re.length e2) (.slice b3 f.ar.length e3) (.slice b4 f.co.length e4) p f) (i : In3) (P : PileAt X w E b s) (hX : ∀ j, X j → B ≤ j ∧ j < w.heap.size) (hs : s.length ≤ 1000000000000) (ho : i.o = 21) (hlen : 1 ≤ s.length) {t : Nat} (hia : i.a = (t : Int)) (ht : t ≤ 1024) : Calls Tryd.prog 32 #[.agg #[.slice a1 p.ty.length d1, .slice a2 p.fu.length d2, .slice a3 p.ta.length d3, .slice a4 p.st.length d4, .int .i64 f.pa, .slice b1 f.lo.length e1, .slice b2 f.re.length e2, .slice b3 f.ar.length e3, .slice b4 f.co.length e4], .agg #[.int .i64 i.o, .int .i64 i.a, .int .i64 i.b], pp b] w (BhO X E (s.take (s.length - 1) ++ [2 + 2 * (t : Int)]) w) := by
  obtain ⟨W1, hW1⟩ : ∃ W1, (w.alloc (.cells #[.slice a1 p.ty.length d1, .slice a2 p.fu.length d2, .slice a3 p.ta.length d3, .slice a4 p.st.length d4, .int .i64 f.pa, .slice b1 f.lo.length e1, .slice b2 f.re.length e2, .slice b3 f.ar.length e3, .slice b4 f.co.length e4] 89)).alloc (.cells #[.int .i64 i.o, .int .i64 i.a, .int .i64 i.b] 47) = W1 := ⟨_, rfl⟩
  have hb : Below w.heap.size w W1 := by rw [← hW1]; exact ((Below.refl _ _).alloc (Nat.le_refl _) _).alloc (by simp) _
  have hW : W1.heap[w.heap.size]? = some (.cells #[.slice a1 p.ty.length d1, .slice a2 p.fu.length d2, .slice a3 p.ta.length d3, .slice a4 p.st.length d4, .int .i64 f.pa, .slice b1 f.lo.length e1, .slice b2 f.re.length e2, .slice b3 f.ar.length e3, .slice b4 f.co.length e4] 89 (0, 0)) := by rw [← hW1, Below.heap_alloc _ _ _ (by simp)]; exact heap_new _ _ rfl
  have hI : W1.heap[w.heap.size + 1]? = some (.cells #[.int .i64 i.o, .int .i64 i.a, .int .i64 i.b] 47 (0, 0)) := by rw [← hW1]; exact heap_new _ _ (by simp)
  have i0 : W1.cell? ⟨w.heap.size + 1, 0, none⟩ = some (.int .i64 i.o) := cell_of hI rfl
  have i1 : W1.cell? ⟨w.heap.size + 1, 1, none⟩ = some (.int .i64 i.a) := cell_of hI rfl
  have i2 : W1.cell? ⟨w.heap.size + 1, 2, none⟩ = some (.int .i64 i.b) := cell_of hI rfl
  have hlW := lt_of_block hW
  have hlI := lt_of_block hI
  have HWB := hide (show ∀ W : World, Below W1.heap.size W1 W → W.heap[w.heap.size]? = some (.cells #[.slice a1 p.ty.length d1, .slice a2 p.fu.length d2, .slice a3 p.ta.length d3, .slice a4 p.st.length d4, .int .i64 f.pa, .slice b1 f.lo.length e1, .slice b2 f.re.length e2, .slice b3 f.ar.length e3, .slice b4 f.co.length e4] 89 (0, 0)) from fun W h => (h.block _ hlW).trans hW)
  have HIB := hide (show ∀ W : World, Below W1.heap.size W1 W → W.heap[w.heap.size + 1]? = some (.cells #[.int .i64 i.o, .int .i64 i.a, .int .i64 i.b] 47 (0, 0)) from fun W h => (h.block _ hlI).trans hI)
  have HB := hide hb
  have HY := hide (show ∀ W : World, Below W1.heap.size W1 W → WyAt B W (.slice a1 p.ty.length d1) (.slice a2 p.fu.length d2) (.slice a3 p.ta.length d3) (.slice a4 p.st.length d4) (.slice b1 f.lo.length e1) (.slice b2 f.re.length e2) (.slice b3 f.ar.length e3) (.slice b4 f.co.length e4) p f from fun W h => (Y.below hb).below h)
  have HP := hide (show ∀ W : World, Below W1.heap.size W1 W → PileAt X W E b s from fun W h => P.keep (Kp.of_below (bel_tr hb h)))
  have HX := hide (show ∀ W : World, Below W1.heap.size W1 W → ∀ j, X j → B ≤ j ∧ j < W.heap.size from fun W h j hj => ⟨(hX j hj).1, Nat.lt_of_lt_of_le (hX j hj).2 (bel_tr hb h).size⟩)
  have HXN := hide (show ∀ W : World, Below W1.heap.size W1 W → ¬ X W.heap.size from fun W h hx => Nat.lt_irrefl _ (Nat.lt_of_lt_of_le (hX _ hx).2 (bel_tr hb h).size))
  have HWO := hide (show ∀ (W : World) (n : Nat), Below W1.heap.size W1 W → n ≤ s.length → Calls Tryd.prog 54 #[pp b, .int .i64 (n : Int)] W (BhO X E (s.take (s.length - n)) W) from fun W n h hn => without_any (HP.out W h) hn (fun j hj => (HX.out W h j hj).2) (by omega))
  have HWI := hide (show ∀ (W : World) (b' : Nat) (l' : List Int) (v : Value) (ks : List Int), Below W1.heap.size W1 W → PileAt X W E b' l' → IsAt X W v ks → ks.length ≤ 4096 → l'.length ≤ s.length → Calls Tryd.prog 53 #[pp b', v] W (BhO X E (l' ++ ks) W) from fun W b' l' v ks h hp hi hk hl => with_any hp hi (fun j hj => (HX.out W h j hj).2) (by omega))
  have HW1 := hide (show ∀ (W : World) (b' : Nat) (l' : List Int) (k : Int), Below W1.heap.size W1 W → PileAt X W E b' l' → l'.length ≤ s.length → Calls Tryd.prog 53 #[pp b', .slice (some ⟨W.heap.size, 0, none⟩) 1 1] (W.alloc (.cells #[.int .i64 k] 3)) (BhO X E (l' ++ [k]) W) from fun W b' l' k h hp hl => with1 hp (fun j hj => (HX.out W h j hj).2) (by omega) k _)
  have HTP := hide (show ∀ W : World, Below W1.heap.size W1 W → 0 < s.length → Calls Tryd.prog 55 #[pp b] W fun e W' => e = .returned (.int .i64 (s.getLast?.getD 0)) ∧ Below W.heap.size W W' from fun W h h0 => top_any (HP.out W h) h0 (by omega))
  have HTK := hide (show ∀ n : Nat, (s.take (s.length - n)).length ≤ s.length from fun n => List.length_take_le' _ _)
  have HSL := hide hs
  have HPOS := hide (show 0 < s.length by omega)
  have HLEN := hide hlen
  clear hlen
  have b8 : (t : Int) ≤ 1024 := by omega
  have b9 : (0 : Int) ≤ (t : Int) := by omega
  rw [hia] at i1 hW1 HIB ⊢
  clear hia ht
  have wq : IntKind.i64.wrap (2 * (t : Int)) = 2 * (t : Int) := by go_arith
  have wr : IntKind.i64.wrap (2 + 2 * (t : Int)) = 2 + 2 * (t : Int) := by go_arith
  clear Y P hX hs hb hW hI
  rw [ho] at i0 hW1 HIB ⊢
  clear ho
  go_enter Tryd.func32, Tryd.ntmps32
  go_wp2_with fail
  refine wp_region_held_drew (S := (fun W => W.cell? ⟨w.heap.size + 1, 1, none⟩ = some (.int .i64 t))) (by kernel_rfl) i1 (fun hHeld15 => ?_)
  refine wpAnyH_take (i := 0) (oi := { dst := some 146, op := Go.Op.move (Go.Operand.tmp 2), type := 64, pos := "way.go:82", after := #[], guard := none }) (v := ?v16) rfl (by kernel_rfl) (by kernel_rfl) (by kernel_rfl) (fun _ _ _ h => h) (Or.inl ⟨by rfl, ?hy16⟩) (by assumption) ?_
  case hy16 => (intro W hSw; (try dsimp only at hSw); go_simp; try with_reducible rfl)
  try simp only [Act.put, List.setIfInBounds_toArray, List.set_cons_zero, List.set_cons_succ]
  refine wpAnyH_take (i := 2) (oi := { dst := some 148, op := Go.Op.fieldAddr 47 (Go.Operand.tmp 4) 1, type := 0, pos := "way.go:82", after := #[], guard := none }) (v := ?v17) rfl (by kernel_rfl) (by kernel_rfl) (by kernel_rfl) (fun _ _ _ h => h) (Or.inl ⟨by rfl, ?hy17⟩) (by assumption) ?_
  case hy17 => (intro W hSw; (try dsimp only at hSw); go_simp; try with_reducible rfl)
  try simp only [Act.put, List.setIfInBounds_toArray, List.set_cons_zero, List.set_cons_succ]
  refine wpAnyH_take (i := 3) (oi := { dst := some 149, op := Go.Op.load 3 (Go.Operand.tmp 148), type := 3, pos := "way.go:82", after := #[{ on := 2, ground := Go.Ground.data }], guard := none }) (v := ?v18) rfl (by kernel_rfl) (by kernel_rfl) (by kernel_rfl) (fun _ _ _ h => h) (Or.inl ⟨by rfl, ?hy18⟩) (by assumption) ?_
  case hy18 => (intro W hSw; (try dsimp only at hSw); go_simp; try with_reducible rfl)
  try simp only [Act.put, List.setIfInBounds_toArray, List.set_cons_zero, List.set_cons_succ]
  refine wpAnyH_take (i := 4) (oi := { dst := some 150, op := Go.Op.binOp Go.BinOp.mul 3 (Go.Operand.const (Go.Value.int Go.IntKind.i64 2)) (Go.Operand.tmp 149) 3, type := 3, pos := "way.go:82", after := #[{ on := 3, ground := Go.Ground.data }], guard := none }) (v := ?v19) rfl (by kernel_rfl) (by kernel_rfl) (by kernel_rfl) (fun _ _ _ h => h) (Or.inl ⟨by rfl, ?hy19⟩) (by assumption) ?_
  case hy19 => (intro W hSw; (try dsimp only at hSw); go_simp; try with_reducible rfl)
  try simp only [Act.put, List.setIfInBounds_toArray, List.set_cons_zero, List.set_cons_succ]
  refine wpAnyH_take (i := 5) (oi := { dst := some 151, op := Go.Op.binOp Go.BinOp.add 3 (Go.Operand.const (Go.Value.int Go.IntKind.i64 2)) (Go.Operand.tmp 150) 3, type := 3, pos := "way.go:82", after := #[{ on := 4, ground := Go.Ground.data }], guard := none }) (v := ?v20) rfl (by kernel_rfl) (by kernel_rfl) (by kernel_rfl) (fun _ _ _ h => h) (Or.inl ⟨by rfl, ?hy20⟩) (by assumption) ?_
  case hy20 => (intro W hSw; (try dsimp only at hSw); go_simp; try with_reducible rfl)
  try simp only [Act.put, List.setIfInBounds_toArray, List.set_cons_zero, List.set_cons_succ]
  refine wpAnyH_ready (rs := [1, 6]) (by kernel_rfl) (by simp) ?_
  refine AllReadyH.cons (o := { dst := some 147, op := Go.Op.call { callee := Go.Callee.value (Go.Operand.func 54), args := #[Go.Operand.tmp 146, Go.Operand.const (Go.Value.int Go.IntKind.i64 1)], argTypes := #[64, 3] }, type := 64, pos := "way.go:82", after := #[{ on := 0, ground := Go.Ground.data }], guard := none }) rfl (fun K hK => ?_) (AllReadyH.cons (o := { dst := some 152, op := Go.Op.buildSlice 37 1 #[(0, Go.Operand.tmp 151)], type := 37, pos := "way.go:82", after := #[{ on := 5, ground := Go.Ground.data }], guard := none }) rfl (fun K hK => ?_) AllReadyH.nil)
  · go_simp
    go_at_call 54
    refine (HWO.out _ 1 (below_drew (Below.refl _ _)) HLEN.out).mono ?_
    rintro e w3 ⟨b3, rfl, hp3, hb3⟩
    have HB3 := hide (show Below W1.heap.size W1 w3 from bel_tr (below_drew (Below.refl _ _)) hb3)
    have HP3 := hide hp3
    clear hb3 hp3
    go_wp2_with fail
    refine hK.out _ _ (cell_of (HIB.out _ HB3.out) rfl) (fun hHeld21 => ?_)
    clear hK K
    try simp only [Act.put, List.setIfInBounds_toArray, List.set_cons_zero, List.set_cons_succ]
    have HA3 := hide (show Below W1.heap.size W1 (w3.alloc (.cells #[.int .i64 (2 + 2 * (t : Int))] 3)) from HB3.out.alloc HB3.out.size _)
    refine wpAnyH_ready (rs := [6]) (by kernel_rfl) (by simp) ?_
    refine AllReadyH.cons (o := { dst := some 152, op := Go.Op.buildSlice 37 1 #[(0, Go.Operand.tmp 151)], type := 37, pos := "way.go:82", after := #[{ on := 5, ground := Go.Ground.data }], guard := none }) rfl (fun K hK => ?_) AllReadyH.nil
    go_simp
    go_wp2_with fail
    refine hK.out _ _ (cell_of (HIB.out _ HA3.out) rfl) (fun hHeld22 => ?_)
    clear hK K
    try simp only [Act.put, List.setIfInBounds_toArray, List.set_cons_zero, List.set_cons_succ]
    refine wpAnyH_ready (rs := [7]) (by kernel_rfl) (by simp) ?_
    refine AllReadyH.cons (o := { dst := some 153, op := Go.Op.call { callee := Go.Callee.value (Go.Operand.func 53), args := #[Go.Operand.tmp 147, Go.Operand.tmp 152], argTypes := #[64, 37] }, type := 64, pos := "way.go:82", after := #[{ on := 1, ground := Go.Ground.data }, { on := 6, ground := Go.Ground.data }, { on := 1, ground := Go.Ground.chain }], guard := none }) rfl (fun K hK => ?_) AllReadyH.nil
    go_simp
    go_at_call 53
    refine (HW1.out w3 b3 _ (2 + 2 * (t : Int)) HB3.out HP3.out (HTK.out _)).mono ?_
    rintro e w9 ⟨b9, rfl, hp9, hb9⟩
    have HB9 := hide (show Below W1.heap.size W1 w9 from bel_tr HB3.out hb9)
    have HP9 := hide hp9
    clear hb9 hp9
    go_wp2_with fail
    refine hK.out _ _ (cell_of (HIB.out _ HB9.out) rfl) (fun hHeld23 => ?_)
    clear hK K
    try simp only [Act.put, List.setIfInBounds_toArray, List.set_cons_zero, List.set_cons_succ]
    refine wpAnyH_take (i := 8) (oi := { dst := some 6, op := Go.Op.assign (Go.Operand.tmp 153), type := 64, pos := "way.go:82", after := #[{ on := 7, ground := Go.Ground.data }, { on := 7, ground := Go.Ground.chain }, { on := 0, ground := Go.Ground.phase }, { on := 1, ground := Go.Ground.phase }, { on := 2, ground := Go.Ground.phase }, { on := 3, ground := Go.Ground.phase }, { on := 4, ground := Go.Ground.phase }, { on := 5, ground := Go.Ground.phase }, { on := 6, ground := Go.Ground.phase }, { on := 7, ground := Go.Ground.phase }], guard := none }) (v := ?v24) rfl (by kernel_rfl) (by kernel_rfl) (by kernel_rfl) (fun _ _ _ h => h) (Or.inl ⟨by rfl, ?hy24⟩) (by assumption) ?_
    case hy24 => (intro W hSw; (try dsimp only at hSw); go_simp; try with_reducible rfl)
    try simp only [Act.put, List.setIfInBounds_toArray, List.set_cons_zero, List.set_cons_succ]
    refine wpAnyH_done (by kernel_rfl) ?_ _
    go_wp2
    go_ret
    exact ⟨b9, rfl, HP9.out, bel_tr HB.out HB9.out⟩
  · have HA2 := hide (show Below W1.heap.size W1 (W1.drew.alloc (.cells #[.int .i64 (2 + 2 * (t : Int))] 3)) from (below_drew (Below.refl W1.heap.size W1)).alloc (below_drew (Below.refl W1.heap.size W1)).size _)
    have HI2 := hide (show IsAt X (W1.drew.alloc (.cells #[.int .i64 (2 + 2 * (t : Int))] 3)) (.slice (some ⟨W1.drew.heap.size, 0, none⟩) 1 1) [(2 + 2 * (t : Int))] from isAt_new (ks := [(2 + 2 * (t : Int))]) (T := 3) (heap_new _ _ rfl) (HXN.out W1.drew (below_drew (Below.refl _ _))) (by simp))
    go_simp
    go_wp2_with fail
    refine hK.out _ _ (cell_of (HIB.out _ HA2.out) rfl) (fun hHeld25 => ?_)
    clear hK K
    try simp only [Act.put, List.setIfInBounds_toArray, List.set_cons_zero, List.set_cons_succ]
    refine wpAnyH_ready (rs := [1]) (by kernel_rfl) (by simp) ?_
    refine AllReadyH.cons (o := { dst := some 147, op := Go.Op.call { callee := Go.Callee.value (Go.Operand.func 54), args := #[Go.Operand.tmp 146, Go.Operand.const (Go.Value.int Go.IntKind.i64 1)], argTypes := #[64, 3] }, type := 64, pos := "way.go:82", after := #[{ on := 0, ground := Go.Ground.data }], guard := none }) rfl (fun K hK => ?_) AllReadyH.nil
    go_simp
    go_at_call 54
    refine (HWO.out _ 1 HA2.out HLEN.out).mono ?_
    rintro e w3 ⟨b3, rfl, hp3, hb3⟩
    have HB3 := hide (show Below W1.heap.size W1 w3 from bel_tr HA2.out hb3)
    have HP3 := hide hp3
    have HI3 := hide (HI2.out.keep (Kp.of_below hb3))
    clear hb3 hp3
    go_wp2_with fail
    refine hK.out _ _ (cell_of (HIB.out _ HB3.out) rfl) (fun hHeld26 => ?_)
    clear hK K
    try simp only [Act.put, List.setIfInBounds_toArray, List.set_cons_zero, List.set_cons_succ]
    refine wpAnyH_ready (rs := [7]) (by kernel_rfl) (by simp) ?_
    refine AllReadyH.cons (o := { dst := some 153, op := Go.Op.call { callee := Go.Callee.value (Go.Operand.func 53), args := #[Go.Operand.tmp 147, Go.Operand.tmp 152], argTypes := #[64, 37] }, type := 64, pos := "way.go:82", after := #[{ on := 1, ground := Go.Ground.data }, { on := 6, ground := Go.Ground.data }, { on := 1, ground := Go.Ground.chain }], guard := none }) rfl (fun K hK => ?_) AllReadyH.nil
    go_simp
    go_at_call 53
    refine (HWI.out w3 b3 _ _ [(2 + 2 * (t : Int))] HB3.out HP3.out HI3.out (by simp) (HTK.out _)).mono ?_
    rintro e w9 ⟨b9, rfl, hp9, hb9⟩
    have HB9 := hide (show Below W1.heap.size W1 w9 from bel_tr HB3.out hb9)
    have HP9 := hide hp9
    clear hb9 hp9
    go_wp2_with fail
    refine hK.out _ _ (cell_of (HIB.out _ HB9.out) rfl) (fun hHeld27 => ?_)
    clear hK K
    try simp only [Act.put, List.setIfInBounds_toArray, List.set_cons_zero, List.set_cons_succ]
    refine wpAnyH_take (i := 8) (oi := { dst := some 6, op := Go.Op.assign (Go.Operand.tmp 153), type := 64, pos := "way.go:82", after := #[{ on := 7, ground := Go.Ground.data }, { on := 7, ground := Go.Ground.chain }, { on := 0, ground := Go.Ground.phase }, { on := 1, ground := Go.Ground.phase }, { on := 2, ground := Go.Ground.phase }, { on := 3, ground := Go.Ground.phase }, { on := 4, ground := Go.Ground.phase }, { on := 5, ground := Go.Ground.phase }, { on := 6, ground := Go.Ground.phase }, { on := 7, ground := Go.Ground.phase }], guard := none }) (v := ?v28) rfl (by kernel_rfl) (by kernel_rfl) (by kernel_rfl) (fun _ _ _ h => h) (Or.inl ⟨by rfl, ?hy28⟩) (by assumption) ?_
    case hy28 => (intro W hSw; (try dsimp only at hSw); go_simp; try with_reducible rfl)
    try simp only [Act.put, List.setIfInBounds_toArray, List.set_cons_zero, List.set_cons_succ]
    refine wpAnyH_done (by kernel_rfl) ?_ _
    go_wp2
    go_ret
    exact ⟨b9, rfl, HP9.out, bel_tr HB.out HB9.out⟩

end
end Go.Proofs.YtkdojpnihinpbaaDoor

namespace Go.Proofs.YtkdojpnihinpbaaDoor
open Go.RowKit
section
variable {B E b : Nat} {X : Nat → Prop} {w : World} {a1 a2 a3 a4 b1 b2 b3 b4 : Option Addr} {d1 d2 d3 d4 e1 e2 e3 e4 : Nat} {p : Pg} {f : Fd} {s : List Int}
set_option maxRecDepth 100000 in
set_option maxHeartbeats 1000000 in
theorem bh_14 (Y : WyAt B w (.slice a1 p.ty.length d1) (.slice a2 p.fu.length d2) (.slice a3 p.ta.length d3) (.slice a4 p.st.length d4) (.slice b1 f.lo.length e1) (.slice b2 f.re.length e2) (.slice b3 f.ar.length e3) (.slice b4 f.co.length e4) p f) (i : In3) (P : PileAt X w E b s) (hX : ∀ j, X j → B ≤ j ∧ j < w.heap.size) (hs : s.length ≤ 1000000000000) (ho : i.o = 14) (hlen : 1 ≤ s.length) (hn : p.ty.length ≤ 1024) (hk : isKB p.ty.length (s.getLast?.getD 0) = true) {t m : Nat} (htt : (bareK (s.getLast?.getD 0) - 2) / 2 = (t : Int)) (h2 : 2 ≤ bareK (s.getLast?.getD 0)) {fs : List Int} (hfs : p.ty[t]? = some fs) (ha : i.a = (m : Int)) {y : Int} (hy : fs[m]? = some y) : Calls Tryd.prog 32 #[.agg #[.slice a1 p.ty.length d1, .slice a2 p.fu.length d2, .slice a3 p.ta.length d3, .slice a4 p.st.length d4, .int .i64 f.pa, .slice b1 f.lo.length e1, .slice b2 f.re.length e2, .slice b3 f.ar.length e3, .slice b4 f.co.length e4], .agg #[.int .i64 i.o, .int .i64 i.a, .int .i64 i.b], pp b] w (BhO X E (s.take (s.length - 1) ++ [y]) w) := by
  obtain ⟨W1, hW1⟩ : ∃ W1, (w.alloc (.cells #[.slice a1 p.ty.length d1, .slice a2 p.fu.length d2, .slice a3 p.ta.length d3, .slice a4 p.st.length d4, .int .i64 f.pa, .slice b1 f.lo.length e1, .slice b2 f.re.length e2, .slice b3 f.ar.length e3, .slice b4 f.co.length e4] 89)).alloc (.cells #[.int .i64 i.o, .int .i64 i.a, .int .i64 i.b] 47) = W1 := ⟨_, rfl⟩
  have hb : Below w.heap.size w W1 := by rw [← hW1]; exact ((Below.refl _ _).alloc (Nat.le_refl _) _).alloc (by simp) _
  have hW : W1.heap[w.heap.size]? = some (.cells #[.slice a1 p.ty.length d1, .slice a2 p.fu.length d2, .slice a3 p.ta.length d3, .slice a4 p.st.length d4, .int .i64 f.pa, .slice b1 f.lo.length e1, .slice b2 f.re.length e2, .slice b3 f.ar.length e3, .slice b4 f.co.length e4] 89 (0, 0)) := by rw [← hW1, Below.heap_alloc _ _ _ (by simp)]; exact heap_new _ _ rfl
  have hI : W1.heap[w.heap.size + 1]? = some (.cells #[.int .i64 i.o, .int .i64 i.a, .int .i64 i.b] 47 (0, 0)) := by rw [← hW1]; exact heap_new _ _ (by simp)
  have i0 : W1.cell? ⟨w.heap.size + 1, 0, none⟩ = some (.int .i64 i.o) := cell_of hI rfl
  have i1 : W1.cell? ⟨w.heap.size + 1, 1, none⟩ = some (.int .i64 i.a) := cell_of hI rfl
  have i2 : W1.cell? ⟨w.heap.size + 1, 2, none⟩ = some (.int .i64 i.b) := cell_of hI rfl
  have hlW := lt_of_block hW
  have hlI := lt_of_block hI
  have HWB := hide (show ∀ W : World, Below W1.heap.size W1 W → W.heap[w.heap.size]? = some (.cells #[.slice a1 p.ty.length d1, .slice a2 p.fu.length d2, .slice a3 p.ta.length d3, .slice a4 p.st.length d4, .int .i64 f.pa, .slice b1 f.lo.length e1, .slice b2 f.re.length e2, .slice b3 f.ar.length e3, .slice b4 f.co.length e4] 89 (0, 0)) from fun W h => (h.block _ hlW).trans hW)
  have HIB := hide (show ∀ W : World, Below W1.heap.size W1 W → W.heap[w.heap.size + 1]? = some (.cells #[.int .i64 i.o, .int .i64 i.a, .int .i64 i.b] 47 (0, 0)) from fun W h => (h.block _ hlI).trans hI)
  have HB := hide hb
  have HY := hide (show ∀ W : World, Below W1.heap.size W1 W → WyAt B W (.slice a1 p.ty.length d1) (.slice a2 p.fu.length d2) (.slice a3 p.ta.length d3) (.slice a4 p.st.length d4) (.slice b1 f.lo.length e1) (.slice b2 f.re.length e2) (.slice b3 f.ar.length e3) (.slice b4 f.co.length e4) p f from fun W h => (Y.below hb).below h)
  have HP := hide (show ∀ W : World, Below W1.heap.size W1 W → PileAt X W E b s from fun W h => P.keep (Kp.of_below (bel_tr hb h)))
  have HX := hide (show ∀ W : World, Below W1.heap.size W1 W → ∀ j, X j → B ≤ j ∧ j < W.heap.size from fun W h j hj => ⟨(hX j hj).1, Nat.lt_of_lt_of_le (hX j hj).2 (bel_tr hb h).size⟩)
  have HXN := hide (show ∀ W : World, Below W1.heap.size W1 W → ¬ X W.heap.size from fun W h hx => Nat.lt_irrefl _ (Nat.lt_of_lt_of_le (hX _ hx).2 (bel_tr hb h).size))
  have HWO := hide (show ∀ (W : World) (n : Nat), Below W1.heap.size W1 W → n ≤ s.length → Calls Tryd.prog 54 #[pp b, .int .i64 (n : Int)] W (BhO X E (s.take (s.length - n)) W) from fun W n h hn => without_any (HP.out W h) hn (fun j hj => (HX.out W h j hj).2) (by omega))
  have HWI := hide (show ∀ (W : World) (b' : Nat) (l' : List Int) (v : Value) (ks : List Int), Below W1.heap.size W1 W → PileAt X W E b' l' → IsAt X W v ks → ks.length ≤ 4096 → l'.length ≤ s.length → Calls Tryd.prog 53 #[pp b', v] W (BhO X E (l' ++ ks) W) from fun W b' l' v ks h hp hi hk hl => with_any hp hi (fun j hj => (HX.out W h j hj).2) (by omega))
  have HW1 := hide (show ∀ (W : World) (b' : Nat) (l' : List Int) (k : Int), Below W1.heap.size W1 W → PileAt X W E b' l' → l'.length ≤ s.length → Calls Tryd.prog 53 #[pp b', .slice (some ⟨W.heap.size, 0, none⟩) 1 1] (W.alloc (.cells #[.int .i64 k] 3)) (BhO X E (l' ++ [k]) W) from fun W b' l' k h hp hl => with1 hp (fun j hj => (HX.out W h j hj).2) (by omega) k _)
  have HTP := hide (show ∀ W : World, Below W1.heap.size W1 W → 0 < s.length → Calls Tryd.prog 55 #[pp b] W fun e W' => e = .returned (.int .i64 (s.getLast?.getD 0)) ∧ Below W.heap.size W W' from fun W h h0 => top_any (HP.out W h) h0 (by omega))
  have HTK := hide (show ∀ n : Nat, (s.take (s.length - n)).length ≤ s.length from fun n => List.length_take_le' _ _)
  have HSL := hide hs
  have HPOS := hide (show 0 < s.length by omega)
  have HLEN := hide hlen
  clear hlen
  have HFI := hide (show ∀ W : World, Below W1.heap.size W1 W → Calls Tryd.prog 56 #[.agg #[.slice a1 p.ty.length d1, .slice a2 p.fu.length d2, .slice a3 p.ta.length d3, .slice a4 p.st.length d4, .int .i64 f.pa, .slice b1 f.lo.length e1, .slice b2 f.re.length e2, .slice b3 f.ar.length e3, .slice b4 f.co.length e4], .int .i64 (s.getLast?.getD 0)] W fun e W' => ∃ u, e = .returned u ∧ SlAt 1 IntP B W' u fs ∧ Below W.heap.size W W' from fun W h => fields_any (HY.out W h) hn hk htt h2 hfs f.pa)
  have hfl : m < fs.length := get_lt hy
  have HHB := hide (HY.out W1 (Below.refl _ _)).hB
  have HYY := hide hy
  rw [ha] at i1 hW1 HIB ⊢
  have HS0 := hide (show ∀ W : World, Below W1.heap.size W1 W → (fun W => W.cell? ⟨w.heap.size, 0, none⟩ = some (.slice a1 p.ty.length d1) ∧ W.cell? ⟨w.heap.size, 1, none⟩ = some (.slice a2 p.fu.length d2) ∧ W.cell? ⟨w.heap.size, 2, none⟩ = some (.slice a3 p.ta.length d3) ∧ W.cell? ⟨w.heap.size, 3, none⟩ = some (.slice a4 p.st.length d4) ∧ W.cell? ⟨w.heap.size, 4, none⟩ = some (.int .i64 f.pa) ∧ W.cell? ⟨w.heap.size, 5, none⟩ = some (.slice b1 f.lo.length e1) ∧ W.cell? ⟨w.heap.size, 6, none⟩ = some (.slice b2 f.re.length e2) ∧ W.cell? ⟨w.heap.size, 7, none⟩ = some (.slice b3 f.ar.length e3) ∧ W.cell? ⟨w.heap.size, 8, none⟩ = some (.slice b4 f.co.length e4) ∧ W.cell? ⟨w.heap.size + 1, 1, none⟩ = some (.int .i64 m)) W from fun W h => by
    have h1 := HWB.out W h
    have h3 := HIB.out W h
    exact ⟨cell_of h1 rfl, cell_of h1 rfl, cell_of h1 rfl, cell_of h1 rfl, cell_of h1 rfl, cell_of h1 rfl, cell_of h1 rfl, cell_of h1 rfl, cell_of h1 rfl, cell_of h3 rfl⟩)
  clear ha hn hk htt h2 hfs hy
  clear Y P hX hs hb hW hI
  rw [ho] at i0 hW1 HIB ⊢
  clear ho
  go_enter Tryd.func32, Tryd.ntmps32
  generalize hlast : s.getLast?.getD 0 = lst at *
  clear hlast
  go_wp2_with fail
  refine wp_region_held_drew (S := (fun W => W.cell? ⟨w.heap.size, 0, none⟩ = some (.slice a1 p.ty.length d1) ∧ W.cell? ⟨w.heap.size, 1, none⟩ = some (.slice a2 p.fu.length d2) ∧ W.cell? ⟨w.heap.size, 2, none⟩ = some (.slice a3 p.ta.length d3) ∧ W.cell? ⟨w.heap.size, 3, none⟩ = some (.slice a4 p.st.length d4) ∧ W.cell? ⟨w.heap.size, 4, none⟩ = some (.int .i64 f.pa) ∧ W.cell? ⟨w.heap.size, 5, none⟩ = some (.slice b1 f.lo.length e1) ∧ W.cell? ⟨w.heap.size, 6, none⟩ = some (.slice b2 f.re.length e2) ∧ W.cell? ⟨w.heap.size, 7, none⟩ = some (.slice b3 f.ar.length e3) ∧ W.cell? ⟨w.heap.size, 8, none⟩ = some (.slice b4 f.co.length e4) ∧ W.cell? ⟨w.heap.size + 1, 1, none⟩ = some (.int .i64 m))) (by kernel_rfl) (HS0.out _ (below_drew (Below.refl _ _))) (fun hHeld1 => ?_)
  refine wpAnyH_take (i := 0) (oi := { dst := some 90, op := Go.Op.move (Go.Operand.tmp 2), type := 64, pos := "way.go:70", after := #[], guard := none }) (v := ?v2) rfl (by kernel_rfl) (by kernel_rfl) (by kernel_rfl) (fun _ _ _ h => h) (Or.inl ⟨by rfl, ?hy2⟩) (by assumption) ?_
  case hy2 => (intro W hSw; (try dsimp only at hSw); go_simp; try with_reducible rfl)
  try simp only [Act.put, List.setIfInBounds_toArray, List.set_cons_zero, List.set_cons_succ]
  refine wpAnyH_take (i := 2) (oi := { dst := some 92, op := Go.Op.load 89 (Go.Operand.tmp 3), type := 89, pos := "way.go:70", after := #[], guard := none }) (v := ?v3) rfl (by kernel_rfl) (by kernel_rfl) (by kernel_rfl) (fun _ _ _ h => h) (Or.inl ⟨by rfl, ?hy3⟩) (by assumption) ?_
  case hy3 => (intro W hSw; (try dsimp only at hSw); go_simp; try with_reducible rfl)
  try simp only [Act.put, List.setIfInBounds_toArray, List.set_cons_zero, List.set_cons_succ]
  refine wpAnyH_take (i := 3) (oi := { dst := some 93, op := Go.Op.move (Go.Operand.tmp 2), type := 64, pos := "way.go:70", after := #[], guard := none }) (v := ?v4) rfl (by kernel_rfl) (by kernel_rfl) (by kernel_rfl) (fun _ _ _ h => h) (Or.inl ⟨by rfl, ?hy4⟩) (by assumption) ?_
  case hy4 => (intro W hSw; (try dsimp only at hSw); go_simp; try with_reducible rfl)
  try simp only [Act.put, List.setIfInBounds_toArray, List.set_cons_zero, List.set_cons_succ]
  refine wpAnyH_take (i := 6) (oi := { dst := some 96, op := Go.Op.fieldAddr 47 (Go.Operand.tmp 4) 1, type := 0, pos := "way.go:70", after := #[], guard := none }) (v := ?v5) rfl (by kernel_rfl) (by kernel_rfl) (by kernel_rfl) (fun _ _ _ h => h) (Or.inl ⟨by rfl, ?hy5⟩) (by assumption) ?_
  case hy5 => (intro W hSw; (try dsimp only at hSw); go_simp; try with_reducible rfl)
  try simp only [Act.put, List.setIfInBounds_toArray, List.set_cons_zero, List.set_cons_succ]
  refine wpAnyH_take (i := 7) (oi := { dst := some 97, op := Go.Op.load 3 (Go.Operand.tmp 96), type := 3, pos := "way.go:70", after := #[{ on := 6, ground := Go.Ground.data }], guard := none }) (v := ?v6) rfl (by kernel_rfl) (by kernel_rfl) (by kernel_rfl) (fun _ _ _ h => h) (Or.inl ⟨by rfl, ?hy6⟩) (by assumption) ?_
  case hy6 => (intro W hSw; (try dsimp only at hSw); go_simp; try with_reducible rfl)
  try simp only [Act.put, List.setIfInBounds_toArray, List.set_cons_zero, List.set_cons_succ]
  refine wpAnyH_ready (rs := [1]) (by kernel_rfl) (by simp) ?_
  refine AllReadyH.cons (o := { dst := some 91, op := Go.Op.call { callee := Go.Callee.value (Go.Operand.func 54), args := #[Go.Operand.tmp 90, Go.Operand.const (Go.Value.int Go.IntKind.i64 1)], argTypes := #[64, 3] }, type := 64, pos := "way.go:70", after := #[{ on := 0, ground := Go.Ground.data }], guard := none }) rfl (fun K hK => ?_) AllReadyH.nil
  go_simp
  go_at_call 54
  refine (HWO.out _ 1 (below_drew (Below.refl _ _)) HLEN.out).mono ?_
  rintro e w3 ⟨b3, rfl, hp3, hb3⟩
  have HB3 := hide (show Below W1.heap.size W1 w3 from bel_tr (below_drew (Below.refl _ _)) hb3)
  have HP3 := hide hp3
  clear hb3 hp3
  go_wp2_with fail
  refine hK.out _ _ (HS0.out _ HB3.out) (fun hHeld7 => ?_)
  clear hK K
  try simp only [Act.put, List.setIfInBounds_toArray, List.set_cons_zero, List.set_cons_succ]
  refine wpAnyH_ready (rs := [4]) (by kernel_rfl) (by simp) ?_
  refine AllReadyH.cons (o := { dst := some 94, op := Go.Op.call { callee := Go.Callee.value (Go.Operand.func 55), args := #[Go.Operand.tmp 93], argTypes := #[64] }, type := 3, pos := "way.go:70", after := #[{ on := 3, ground := Go.Ground.data }, { on := 1, ground := Go.Ground.chain }], guard := none }) rfl (fun K hK => ?_) AllReadyH.nil
  go_simp
  go_at_call 55
  refine (HTP.out _ HB3.out HPOS.out).mono ?_
  rintro e w4 ⟨rfl, hb4⟩
  have HB4 := hide (bel_tr HB3.out hb4)
  have HP4 := hide (HP3.out.keep (Kp.of_below hb4))
  clear hb4
  go_wp2_with fail
  refine hK.out _ _ (HS0.out _ HB4.out) (fun hHeld8 => ?_)
  clear hK K
  try simp only [Act.put, List.setIfInBounds_toArray, List.set_cons_zero, List.set_cons_succ]
  refine wpAnyH_ready (rs := [5]) (by kernel_rfl) (by simp) ?_
  refine AllReadyH.cons (o := { dst := some 95, op := Go.Op.call { callee := Go.Callee.value (Go.Operand.func 56), args := #[Go.Operand.tmp 92, Go.Operand.tmp 94], argTypes := #[89, 3] }, type := 37, pos := "way.go:70", after := #[{ on := 2, ground := Go.Ground.data }, { on := 4, ground := Go.Ground.data }, { on := 4, ground := Go.Ground.chain }], guard := none }) rfl (fun K hK => ?_) AllReadyH.nil
  go_simp
  go_at_call 56
  refine (HFI.out _ HB4.out).mono ?_
  rintro e w5 ⟨u, rfl, hu, hb5⟩
  have HB5 := hide (bel_tr HB4.out hb5)
  have HP5 := hide (HP4.out.keep (Kp.of_below hb5))
  obtain ⟨ao, cap, rfl, _, hel⟩ := hu
  obtain ⟨g, q, rfl, hg, hcg, _⟩ := ints_at hel HYY.out
  have HG := hide hg
  have HCG := hide hcg
  have dd : decide (m < fs.length) = true := (by simpa using hfl)
  clear hb5 hel hg hcg
  go_wp2_with fail
  refine hK.out _ _ (HS0.out _ HB5.out) (fun hHeld9 => ?_)
  clear hK K
  try simp only [Act.put, List.setIfInBounds_toArray, List.set_cons_zero, List.set_cons_succ]
  refine wpAnyH_take (i := 8) (oi := { dst := some 98, op := Go.Op.indexAddr 37 (Go.Operand.tmp 95) (Go.Operand.tmp 97), type := 0, pos := "way.go:70", after := #[{ on := 5, ground := Go.Ground.data }, { on := 7, ground := Go.Ground.data }], guard := none }) (v := ?v10) rfl (by kernel_rfl) (by kernel_rfl) (by kernel_rfl) (fun _ _ _ h => h) (Or.inl ⟨by rfl, ?hy10⟩) (by assumption) ?_
  case hy10 => (intro W hSw; (try dsimp only at hSw); go_simp; try with_reducible rfl)
  try simp only [Act.put, List.setIfInBounds_toArray, List.set_cons_zero, List.set_cons_succ]
  have HS1 := hide (show ∀ W : World, Below w5.heap.size w5 W → W.cell? ⟨g, q + m, none⟩ = some (.int .i64 y) from fun W h => (h.cell (p := ⟨g, q + m, none⟩) (Nat.lt_of_lt_of_le HG.out (Nat.le_trans HHB.out HB5.out.size))).trans HCG.out)
  have k9 := HS1.out w5 (Below.refl _ _)
  have hgw : g < w5.heap.size := Nat.lt_of_lt_of_le HG.out (Nat.le_trans HHB.out HB5.out.size)
  refine wpAnyH_ready (rs := [9]) (by kernel_rfl) (by simp) ?_
  refine AllReadyH.cons (o := { dst := some 99, op := Go.Op.load 3 (Go.Operand.tmp 98), type := 3, pos := "way.go:70", after := #[{ on := 8, ground := Go.Ground.data }], guard := none }) rfl (fun K hK => ?_) AllReadyH.nil
  go_simp
  go_wp2_with fail
  refine hK.out _ _ (HS0.out _ HB5.out) (fun hHeld11 => ?_)
  clear hK K
  try simp only [Act.put, List.setIfInBounds_toArray, List.set_cons_zero, List.set_cons_succ]
  have HA5 := hide (show Below W1.heap.size W1 (w5.alloc (.cells #[.int .i64 y] 3)) from HB5.out.alloc HB5.out.size _)
  refine wpAnyH_ready (rs := [10]) (by kernel_rfl) (by simp) ?_
  refine AllReadyH.cons (o := { dst := some 100, op := Go.Op.buildSlice 37 1 #[(0, Go.Operand.tmp 99)], type := 37, pos := "way.go:70", after := #[{ on := 9, ground := Go.Ground.data }], guard := none }) rfl (fun K hK => ?_) AllReadyH.nil
  go_simp
  go_wp2_with fail
  refine hK.out _ _ (HS0.out _ HA5.out) (fun hHeld12 => ?_)
  clear hK K
  try simp only [Act.put, List.setIfInBounds_toArray, List.set_cons_zero, List.set_cons_succ]
  refine wpAnyH_ready (rs := [11]) (by kernel_rfl) (by simp) ?_
  refine AllReadyH.cons (o := { dst := some 101, op := Go.Op.call { callee := Go.Callee.value (Go.Operand.func 53), args := #[Go.Operand.tmp 91, Go.Operand.tmp 100], argTypes := #[64, 37] }, type := 64, pos := "way.go:70", after := #[{ on := 1, ground := Go.Ground.data }, { on := 10, ground := Go.Ground.data }, { on := 5, ground := Go.Ground.chain }], guard := none }) rfl (fun K hK => ?_) AllReadyH.nil
  go_simp
  go_at_call 53
  refine (HW1.out w5 b3 _ y HB5.out HP5.out (HTK.out _)).mono ?_
  rintro e w9 ⟨b9, rfl, hp9, hb9⟩
  have HB9 := hide (show Below W1.heap.size W1 w9 from bel_tr HB5.out hb9)
  have HP9 := hide hp9
  clear hb9 hp9
  go_wp2_with fail
  refine hK.out _ _ (HS0.out _ HB9.out) (fun hHeld13 => ?_)
  clear hK K
  try simp only [Act.put, List.setIfInBounds_toArray, List.set_cons_zero, List.set_cons_succ]
  refine wpAnyH_take (i := 12) (oi := { dst := some 6, op := Go.Op.assign (Go.Operand.tmp 101), type := 64, pos := "way.go:70", after := #[{ on := 11, ground := Go.Ground.data }, { on := 11, ground := Go.Ground.chain }, { on := 0, ground := Go.Ground.phase }, { on := 1, ground := Go.Ground.phase }, { on := 2, ground := Go.Ground.phase }, { on := 3, ground := Go.Ground.phase }, { on := 4, ground := Go.Ground.phase }, { on := 5, ground := Go.Ground.phase }, { on := 6, ground := Go.Ground.phase }, { on := 7, ground := Go.Ground.phase }, { on := 8, ground := Go.Ground.phase }, { on := 9, ground := Go.Ground.phase }, { on := 10, ground := Go.Ground.phase }, { on := 11, ground := Go.Ground.phase }], guard := none }) (v := ?v14) rfl (by kernel_rfl) (by kernel_rfl) (by kernel_rfl) (fun _ _ _ h => h) (Or.inl ⟨by rfl, ?hy14⟩) (by assumption) ?_
  case hy14 => (intro W hSw; (try dsimp only at hSw); go_simp; try with_reducible rfl)
  try simp only [Act.put, List.setIfInBounds_toArray, List.set_cons_zero, List.set_cons_succ]
  refine wpAnyH_done (by kernel_rfl) ?_ _
  go_wp2
  go_ret
  exact ⟨b9, rfl, HP9.out, bel_tr HB.out HB9.out⟩

set_option maxRecDepth 100000 in
set_option maxHeartbeats 1000000 in
theorem bh_16 (Y : WyAt B w (.slice a1 p.ty.length d1) (.slice a2 p.fu.length d2) (.slice a3 p.ta.length d3) (.slice a4 p.st.length d4) (.slice b1 f.lo.length e1) (.slice b2 f.re.length e2) (.slice b3 f.ar.length e3) (.slice b4 f.co.length e4) p f) (i : In3) (P : PileAt X w E b s) (hX : ∀ j, X j → B ≤ j ∧ j < w.heap.size) (hs : s.length ≤ 1000000000000) (ho : i.o = 16) (hlen : 1 ≤ s.length) (hn : p.ty.length ≤ 1024) (hk : isKB p.ty.length (s.getLast?.getD 0) = true) {t : Nat} (hib : i.b = (t : Int)) (ht : t ≤ 1024) : Calls Tryd.prog 32 #[.agg #[.slice a1 p.ty.length d1, .slice a2 p.fu.length d2, .slice a3 p.ta.length d3, .slice a4 p.st.length d4, .int .i64 f.pa, .slice b1 f.lo.length e1, .slice b2 f.re.length e2, .slice b3 f.ar.length e3, .slice b4 f.co.length e4], .agg #[.int .i64 i.o, .int .i64 i.a, .int .i64 i.b], pp b] w (BhO X E (s.take (s.length - 1) ++ [locK (s.getLast?.getD 0) + 2 + 2 * (t : Int)]) w) := by
  obtain ⟨W1, hW1⟩ : ∃ W1, (w.alloc (.cells #[.slice a1 p.ty.length d1, .slice a2 p.fu.length d2, .slice a3 p.ta.length d3, .slice a4 p.st.length d4, .int .i64 f.pa, .slice b1 f.lo.length e1, .slice b2 f.re.length e2, .slice b3 f.ar.length e3, .slice b4 f.co.length e4] 89)).alloc (.cells #[.int .i64 i.o, .int .i64 i.a, .int .i64 i.b] 47) = W1 := ⟨_, rfl⟩
  have hb : Below w.heap.size w W1 := by rw [← hW1]; exact ((Below.refl _ _).alloc (Nat.le_refl _) _).alloc (by simp) _
  have hW : W1.heap[w.heap.size]? = some (.cells #[.slice a1 p.ty.length d1, .slice a2 p.fu.length d2, .slice a3 p.ta.length d3, .slice a4 p.st.length d4, .int .i64 f.pa, .slice b1 f.lo.length e1, .slice b2 f.re.length e2, .slice b3 f.ar.length e3, .slice b4 f.co.length e4] 89 (0, 0)) := by rw [← hW1, Below.heap_alloc _ _ _ (by simp)]; exact heap_new _ _ rfl
  have hI : W1.heap[w.heap.size + 1]? = some (.cells #[.int .i64 i.o, .int .i64 i.a, .int .i64 i.b] 47 (0, 0)) := by rw [← hW1]; exact heap_new _ _ (by simp)
  have i0 : W1.cell? ⟨w.heap.size + 1, 0, none⟩ = some (.int .i64 i.o) := cell_of hI rfl
  have i1 : W1.cell? ⟨w.heap.size + 1, 1, none⟩ = some (.int .i64 i.a) := cell_of hI rfl
  have i2 : W1.cell? ⟨w.heap.size + 1, 2, none⟩ = some (.int .i64 i.b) := cell_of hI rfl
  have hlW := lt_of_block hW
  have hlI := lt_of_block hI
  have HWB := hide (show ∀ W : World, Below W1.heap.size W1 W → W.heap[w.heap.size]? = some (.cells #[.slice a1 p.ty.length d1, .slice a2 p.fu.length d2, .slice a3 p.ta.length d3, .slice a4 p.st.length d4, .int .i64 f.pa, .slice b1 f.lo.length e1, .slice b2 f.re.length e2, .slice b3 f.ar.length e3, .slice b4 f.co.length e4] 89 (0, 0)) from fun W h => (h.block _ hlW).trans hW)
  have HIB := hide (show ∀ W : World, Below W1.heap.size W1 W → W.heap[w.heap.size + 1]? = some (.cells #[.int .i64 i.o, .int .i64 i.a, .int .i64 i.b] 47 (0, 0)) from fun W h => (h.block _ hlI).trans hI)
  have HB := hide hb
  have HY := hide (show ∀ W : World, Below W1.heap.size W1 W → WyAt B W (.slice a1 p.ty.length d1) (.slice a2 p.fu.length d2) (.slice a3 p.ta.length d3) (.slice a4 p.st.length d4) (.slice b1 f.lo.length e1) (.slice b2 f.re.length e2) (.slice b3 f.ar.length e3) (.slice b4 f.co.length e4) p f from fun W h => (Y.below hb).below h)
  have HP := hide (show ∀ W : World, Below W1.heap.size W1 W → PileAt X W E b s from fun W h => P.keep (Kp.of_below (bel_tr hb h)))
  have HX := hide (show ∀ W : World, Below W1.heap.size W1 W → ∀ j, X j → B ≤ j ∧ j < W.heap.size from fun W h j hj => ⟨(hX j hj).1, Nat.lt_of_lt_of_le (hX j hj).2 (bel_tr hb h).size⟩)
  have HXN := hide (show ∀ W : World, Below W1.heap.size W1 W → ¬ X W.heap.size from fun W h hx => Nat.lt_irrefl _ (Nat.lt_of_lt_of_le (hX _ hx).2 (bel_tr hb h).size))
  have HWO := hide (show ∀ (W : World) (n : Nat), Below W1.heap.size W1 W → n ≤ s.length → Calls Tryd.prog 54 #[pp b, .int .i64 (n : Int)] W (BhO X E (s.take (s.length - n)) W) from fun W n h hn => without_any (HP.out W h) hn (fun j hj => (HX.out W h j hj).2) (by omega))
  have HWI := hide (show ∀ (W : World) (b' : Nat) (l' : List Int) (v : Value) (ks : List Int), Below W1.heap.size W1 W → PileAt X W E b' l' → IsAt X W v ks → ks.length ≤ 4096 → l'.length ≤ s.length → Calls Tryd.prog 53 #[pp b', v] W (BhO X E (l' ++ ks) W) from fun W b' l' v ks h hp hi hk hl => with_any hp hi (fun j hj => (HX.out W h j hj).2) (by omega))
  have HW1 := hide (show ∀ (W : World) (b' : Nat) (l' : List Int) (k : Int), Below W1.heap.size W1 W → PileAt X W E b' l' → l'.length ≤ s.length → Calls Tryd.prog 53 #[pp b', .slice (some ⟨W.heap.size, 0, none⟩) 1 1] (W.alloc (.cells #[.int .i64 k] 3)) (BhO X E (l' ++ [k]) W) from fun W b' l' k h hp hl => with1 hp (fun j hj => (HX.out W h j hj).2) (by omega) k _)
  have HTP := hide (show ∀ W : World, Below W1.heap.size W1 W → 0 < s.length → Calls Tryd.prog 55 #[pp b] W fun e W' => e = .returned (.int .i64 (s.getLast?.getD 0)) ∧ Below W.heap.size W W' from fun W h h0 => top_any (HP.out W h) h0 (by omega))
  have HTK := hide (show ∀ n : Nat, (s.take (s.length - n)).length ≤ s.length from fun n => List.length_take_le' _ _)
  have HSL := hide hs
  have HPOS := hide (show 0 < s.length by omega)
  have HLEN := hide hlen
  clear hlen
  have hlow : bits .and .i64 (s.getLast?.getD 0) 1048576 = locK (s.getLast?.getD 0) := (bits_bare hn hk).2
  have hlk : locK (s.getLast?.getD 0) = 0 ∨ locK (s.getLast?.getD 0) = 1048576 := by unfold locK; split <;> simp
  clear hn hk
  have b8 : (t : Int) ≤ 1024 := by omega
  have b9 : (0 : Int) ≤ (t : Int) := by omega
  rw [hib] at i2 hW1 HIB ⊢
  clear hib ht
  clear Y P hX hs hb hW hI
  rw [ho] at i0 hW1 HIB ⊢
  clear ho
  go_enter Tryd.func32, Tryd.ntmps32
  generalize hlast : s.getLast?.getD 0 = lst at *
  clear hlast
  generalize locK lst = lk at *
  have b10 : lk ≤ 1048576 := by omega
  have b11 : 0 ≤ lk := by omega
  clear hlk
  have wq : IntKind.i64.wrap (2 * (t : Int)) = 2 * (t : Int) := by go_arith
  have wr : IntKind.i64.wrap (lk + 2) = lk + 2 := by go_arith
  have ws : IntKind.i64.wrap (lk + 2 + 2 * (t : Int)) = lk + 2 + 2 * (t : Int) := by go_arith
  go_wp2_with fail
  refine wp_region_held_drew (S := (fun W => W.cell? ⟨w.heap.size + 1, 2, none⟩ = some (.int .i64 t))) (by kernel_rfl) i2 (fun hHeld15 => ?_)
  refine wpAnyH_take (i := 0) (oi := { dst := some 108, op := Go.Op.move (Go.Operand.tmp 2), type := 64, pos := "way.go:74", after := #[], guard := none }) (v := ?v16) rfl (by kernel_rfl) (by kernel_rfl) (by kernel_rfl) (fun _ _ _ h => h) (Or.inl ⟨by rfl, ?hy16⟩) (by assumption) ?_
  case hy16 => (intro W hSw; (try dsimp only at hSw); go_simp; try with_reducible rfl)
  try simp only [Act.put, List.setIfInBounds_toArray, List.set_cons_zero, List.set_cons_succ]
  refine wpAnyH_take (i := 2) (oi := { dst := some 110, op := Go.Op.move (Go.Operand.tmp 2), type := 64, pos := "way.go:74", after := #[], guard := none }) (v := ?v17) rfl (by kernel_rfl) (by kernel_rfl) (by kernel_rfl) (fun _ _ _ h => h) (Or.inl ⟨by rfl, ?hy17⟩) (by assumption) ?_
  case hy17 => (intro W hSw; (try dsimp only at hSw); go_simp; try with_reducible rfl)
  try simp only [Act.put, List.setIfInBounds_toArray, List.set_cons_zero, List.set_cons_succ]
  refine wpAnyH_take (i := 6) (oi := { dst := some 114, op := Go.Op.fieldAddr 47 (Go.Operand.tmp 4) 2, type := 0, pos := "way.go:74", after := #[], guard := none }) (v := ?v18) rfl (by kernel_rfl) (by kernel_rfl) (by kernel_rfl) (fun _ _ _ h => h) (Or.inl ⟨by rfl, ?hy18⟩) (by assumption) ?_
  case hy18 => (intro W hSw; (try dsimp only at hSw); go_simp; try with_reducible rfl)
  try simp only [Act.put, List.setIfInBounds_toArray, List.set_cons_zero, List.set_cons_succ]
  refine wpAnyH_take (i := 7) (oi := { dst := some 115, op := Go.Op.load 3 (Go.Operand.tmp 114), type := 3, pos := "way.go:74", after := #[{ on := 6, ground := Go.Ground.data }], guard := none }) (v := ?v19) rfl (by kernel_rfl) (by kernel_rfl) (by kernel_rfl) (fun _ _ _ h => h) (Or.inl ⟨by rfl, ?hy19⟩) (by assumption) ?_
  case hy19 => (intro W hSw; (try dsimp only at hSw); go_simp; try with_reducible rfl)
  try simp only [Act.put, List.setIfInBounds_toArray, List.set_cons_zero, List.set_cons_succ]
  refine wpAnyH_take (i := 8) (oi := { dst := some 116, op := Go.Op.binOp Go.BinOp.mul 3 (Go.Operand.const (Go.Value.int Go.IntKind.i64 2)) (Go.Operand.tmp 115) 3, type := 3, pos := "way.go:74", after := #[{ on := 7, ground := Go.Ground.data }], guard := none }) (v := ?v20) rfl (by kernel_rfl) (by kernel_rfl) (by kernel_rfl) (fun _ _ _ h => h) (Or.inl ⟨by rfl, ?hy20⟩) (by assumption) ?_
  case hy20 => (intro W hSw; (try dsimp only at hSw); go_simp; try with_reducible rfl)
  try simp only [Act.put, List.setIfInBounds_toArray, List.set_cons_zero, List.set_cons_succ]
  refine wpAnyH_ready (rs := [1]) (by kernel_rfl) (by simp) ?_
  refine AllReadyH.cons (o := { dst := some 109, op := Go.Op.call { callee := Go.Callee.value (Go.Operand.func 54), args := #[Go.Operand.tmp 108, Go.Operand.const (Go.Value.int Go.IntKind.i64 1)], argTypes := #[64, 3] }, type := 64, pos := "way.go:74", after := #[{ on := 0, ground := Go.Ground.data }], guard := none }) rfl (fun K hK => ?_) AllReadyH.nil
  go_simp
  go_at_call 54
  refine (HWO.out _ 1 (below_drew (Below.refl _ _)) HLEN.out).mono ?_
  rintro e w3 ⟨b3, rfl, hp3, hb3⟩
  have HB3 := hide (show Below W1.heap.size W1 w3 from bel_tr (below_drew (Below.refl _ _)) hb3)
  have HP3 := hide hp3
  clear hb3 hp3
  go_wp2_with fail
  refine hK.out _ _ (cell_of (HIB.out _ HB3.out) rfl) (fun hHeld21 => ?_)
  clear hK K
  try simp only [Act.put, List.setIfInBounds_toArray, List.set_cons_zero, List.set_cons_succ]
  refine wpAnyH_ready (rs := [3]) (by kernel_rfl) (by simp) ?_
  refine AllReadyH.cons (o := { dst := some 111, op := Go.Op.call { callee := Go.Callee.value (Go.Operand.func 55), args := #[Go.Operand.tmp 110], argTypes := #[64] }, type := 3, pos := "way.go:74", after := #[{ on := 2, ground := Go.Ground.data }, { on := 1, ground := Go.Ground.chain }], guard := none }) rfl (fun K hK => ?_) AllReadyH.nil
  go_simp
  go_at_call 55
  refine (HTP.out _ HB3.out HPOS.out).mono ?_
  rintro e w4 ⟨rfl, hb4⟩
  have HB4 := hide (bel_tr HB3.out hb4)
  have HP4 := hide (HP3.out.keep (Kp.of_below hb4))
  clear hb4
  go_wp2_with fail
  refine hK.out _ _ (cell_of (HIB.out _ HB4.out) rfl) (fun hHeld22 => ?_)
  clear hK K
  try simp only [Act.put, List.setIfInBounds_toArray, List.set_cons_zero, List.set_cons_succ]
  refine wpAnyH_take (i := 4) (oi := { dst := some 112, op := Go.Op.binOp Go.BinOp.and 3 (Go.Operand.tmp 111) (Go.Operand.const (Go.Value.int Go.IntKind.i64 1048576)) 3, type := 3, pos := "way.go:74", after := #[{ on := 3, ground := Go.Ground.data }], guard := none }) (v := ?v23) rfl (by kernel_rfl) (by kernel_rfl) (by kernel_rfl) (fun _ _ _ h => h) (Or.inl ⟨by rfl, ?hy23⟩) (by assumption) ?_
  case hy23 => (intro W hSw; (try dsimp only at hSw); go_simp; try with_reducible rfl)
  try simp only [Act.put, List.setIfInBounds_toArray, List.set_cons_zero, List.set_cons_succ]
  refine wpAnyH_take (i := 5) (oi := { dst := some 113, op := Go.Op.binOp Go.BinOp.add 3 (Go.Operand.tmp 112) (Go.Operand.const (Go.Value.int Go.IntKind.i64 2)) 3, type := 3, pos := "way.go:74", after := #[{ on := 4, ground := Go.Ground.data }], guard := none }) (v := ?v24) rfl (by kernel_rfl) (by kernel_rfl) (by kernel_rfl) (fun _ _ _ h => h) (Or.inl ⟨by rfl, ?hy24⟩) (by assumption) ?_
  case hy24 => (intro W hSw; (try dsimp only at hSw); go_simp; try with_reducible rfl)
  try simp only [Act.put, List.setIfInBounds_toArray, List.set_cons_zero, List.set_cons_succ]
  refine wpAnyH_take (i := 9) (oi := { dst := some 117, op := Go.Op.binOp Go.BinOp.add 3 (Go.Operand.tmp 113) (Go.Operand.tmp 116) 3, type := 3, pos := "way.go:74", after := #[{ on := 5, ground := Go.Ground.data }, { on := 8, ground := Go.Ground.data }], guard := none }) (v := ?v25) rfl (by kernel_rfl) (by kernel_rfl) (by kernel_rfl) (fun _ _ _ h => h) (Or.inl ⟨by rfl, ?hy25⟩) (by assumption) ?_
  case hy25 => (intro W hSw; (try dsimp only at hSw); go_simp; try with_reducible rfl)
  try simp only [Act.put, List.setIfInBounds_toArray, List.set_cons_zero, List.set_cons_succ]
  have HA4 := hide (show Below W1.heap.size W1 (w4.alloc (.cells #[.int .i64 (lk + 2 + 2 * (t : Int))] 3)) from HB4.out.alloc HB4.out.size _)
  refine wpAnyH_ready (rs := [10]) (by kernel_rfl) (by simp) ?_
  refine AllReadyH.cons (o := { dst := some 118, op := Go.Op.buildSlice 37 1 #[(0, Go.Operand.tmp 117)], type := 37, pos := "way.go:74", after := #[{ on := 9, ground := Go.Ground.data }], guard := none }) rfl (fun K hK => ?_) AllReadyH.nil
  go_simp
  go_wp2_with fail
  refine hK.out _ _ (cell_of (HIB.out _ HA4.out) rfl) (fun hHeld26 => ?_)
  clear hK K
  try simp only [Act.put, List.setIfInBounds_toArray, List.set_cons_zero, List.set_cons_succ]
  refine wpAnyH_ready (rs := [11]) (by kernel_rfl) (by simp) ?_
  refine AllReadyH.cons (o := { dst := some 119, op := Go.Op.call { callee := Go.Callee.value (Go.Operand.func 53), args := #[Go.Operand.tmp 109, Go.Operand.tmp 118], argTypes := #[64, 37] }, type := 64, pos := "way.go:74", after := #[{ on := 1, ground := Go.Ground.data }, { on := 10, ground := Go.Ground.data }, { on := 3, ground := Go.Ground.chain }], guard := none }) rfl (fun K hK => ?_) AllReadyH.nil
  go_simp
  go_at_call 53
  refine (HW1.out w4 b3 _ (lk + 2 + 2 * (t : Int)) HB4.out HP4.out (HTK.out _)).mono ?_
  rintro e w9 ⟨b9, rfl, hp9, hb9⟩
  have HB9 := hide (show Below W1.heap.size W1 w9 from bel_tr HB4.out hb9)
  have HP9 := hide hp9
  clear hb9 hp9
  go_wp2_with fail
  refine hK.out _ _ (cell_of (HIB.out _ HB9.out) rfl) (fun hHeld27 => ?_)
  clear hK K
  try simp only [Act.put, List.setIfInBounds_toArray, List.set_cons_zero, List.set_cons_succ]
  refine wpAnyH_take (i := 12) (oi := { dst := some 6, op := Go.Op.assign (Go.Operand.tmp 119), type := 64, pos := "way.go:74", after := #[{ on := 11, ground := Go.Ground.data }, { on := 11, ground := Go.Ground.chain }, { on := 0, ground := Go.Ground.phase }, { on := 1, ground := Go.Ground.phase }, { on := 2, ground := Go.Ground.phase }, { on := 3, ground := Go.Ground.phase }, { on := 4, ground := Go.Ground.phase }, { on := 5, ground := Go.Ground.phase }, { on := 6, ground := Go.Ground.phase }, { on := 7, ground := Go.Ground.phase }, { on := 8, ground := Go.Ground.phase }, { on := 9, ground := Go.Ground.phase }, { on := 10, ground := Go.Ground.phase }, { on := 11, ground := Go.Ground.phase }], guard := none }) (v := ?v28) rfl (by kernel_rfl) (by kernel_rfl) (by kernel_rfl) (fun _ _ _ h => h) (Or.inl ⟨by rfl, ?hy28⟩) (by assumption) ?_
  case hy28 => (intro W hSw; (try dsimp only at hSw); go_simp; try with_reducible rfl)
  try simp only [Act.put, List.setIfInBounds_toArray, List.set_cons_zero, List.set_cons_succ]
  refine wpAnyH_done (by kernel_rfl) ?_ _
  go_wp2
  go_ret
  exact ⟨b9, rfl, HP9.out, bel_tr HB.out HB9.out⟩

end
end Go.Proofs.YtkdojpnihinpbaaDoor
