/- behind, by its cases. -/
import Derived.Test.YtkdojpnihinpbaaDoorMpBJs
import Derived.Test.YtkdojpnihinpbaaDoorVfX
import Derived.Test.YtkdojpnihinpbaaDoorVfG
import Derived.Test.YtkdojpnihinpbaaDoorCdSLJs
import Derived.Test.YtkdojpnihinpbaaDoorVfFo
import Derived.Test.YtkdojpnihinpbaaDoorMpP
import Derived.Test.YtkdojpnihinpbaaDoorVfSl
import Derived.Deep.CutRange
namespace Go.Proofs.YtkdojpnihinpbaaDoor
open Go.RowKit
section
variable {B E b : Nat} {X : Nat → Prop} {w : World} {a1 a2 a3 a4 b1 b2 b3 b4 : Option Addr} {d1 d2 d3 d4 e1 e2 e3 e4 : Nat} {p : Pg} {f : Fd} {s : List Int}
set_option maxRecDepth 100000 in
set_option maxHeartbeats 1000000 in
theorem bh_17 (Y : WyAt B w (.slice a1 p.ty.length d1) (.slice a2 p.fu.length d2) (.slice a3 p.ta.length d3) (.slice a4 p.st.length d4) (.slice b1 f.lo.length e1) (.slice b2 f.re.length e2) (.slice b3 f.ar.length e3) (.slice b4 f.co.length e4) p f) (i : In3) (P : PileAt X w E b s) (hX : ∀ j, X j → B ≤ j ∧ j < w.heap.size) (hs : s.length ≤ 1000000000000) (ho : i.o = 17) (hlen : 2 ≤ s.length) {low : Int} (hl1 : (s.take (s.length - 1)).getLast?.getD 0 = low) (hl2 : 0 ≤ low ∧ low ≤ 2000000) : Calls Tryd.prog 32 #[.agg #[.slice a1 p.ty.length d1, .slice a2 p.fu.length d2, .slice a3 p.ta.length d3, .slice a4 p.st.length d4, .int .i64 f.pa, .slice b1 f.lo.length e1, .slice b2 f.re.length e2, .slice b3 f.ar.length e3, .slice b4 f.co.length e4], .agg #[.int .i64 i.o, .int .i64 i.a, .int .i64 i.b], pp b] w (BhO X E (s.take (s.length - 2) ++ [low - 3 + 2]) w) := by
  obtain ⟨W1, hW1⟩ : ∃ W1, (w.alloc (.cells #[.slice a1 p.ty.length d1, .slice a2 p.fu.length d2, .slice a3 p.ta.length d3, .slice a4 p.st.length d4, .int .i64 f.pa, .slice b1 f.lo.length e1, .slice b2 f.re.length e2, .slice b3 f.ar.length e3, .slice b4 f.co.length e4] 89)).alloc (.cells #[.int .i64 i.o, .int .i64 i.a, .int .i64 i.b] 47) = W1 := ⟨_, rfl⟩
  have hb : Below w.heap.size w W1 := by rw [← hW1]; exact ((Below.refl _ _).alloc (Nat.le_refl _) _).alloc (by simp) _
  have hW : W1.heap[w.heap.size]? = some (.cells #[.slice a1 p.ty.length d1, .slice a2 p.fu.length d2, .slice a3 p.ta.length d3, .slice a4 p.st.length d4, .int .i64 f.pa, .slice b1 f.lo.length e1, .slice b2 f.re.length e2, .slice b3 f.ar.length e3, .slice b4 f.co.length e4] 89 (0, 0)) := by rw [← hW1, Below.heap_alloc _ _ _ (by simp)]; exact heap_new _ _ rfl
  have hI : W1.heap[w.heap.size + 1]? = some (.cells #[.int .i64 i.o, .int .i64 i.a, .int .i64 i.b] 47 (0, 0)) := by rw [← hW1]; exact heap_new _ _ (by simp)
  have i0 : W1.cell? ⟨w.heap.size + 1, 0, none⟩ = some (.int .i64 i.o) := cell_of hI rfl
  have i1 : W1.cell? ⟨w.heap.size + 1, 1, none⟩ = some (.int .i64 i.a) := cell_of hI rfl
  have i2 : W1.cell? ⟨w.heap.size + 1, 2, none⟩ = some (.int .i64 i.b) := cell_of hI rfl
  have hlW := lt_of_block hW
  have hlI := lt_of_block hI
  have HWB := hide (show ∀ W : World, Below W1.heap.size W1 W → W.heap[w.heap.size]? = some (.cells #[.slice a1 p.ty.length d1, .slice a2 p.fu.length d2, .slice a3 p.ta.length d3, .slice a4 p.st.length d4, .int .i64 f.pa, .slice b1 f.lo.length e1, .slice b2 f.re.length e2, .slice b3 f.ar.length e3, .slice b4 f.co.length e4] 89 (0, 0)) from fun W h => (h.block _ hlW).trans hW)
  have HIB := hide (show ∀ W : World, Below W1.heap.size W1 W → W.heap[w.heap.size + 1]? = some (.cells #[.int .i64 i.o, .int .i64 i.a, .int .i64 i.b] 47 (0, 0)) from fun W h => (h.block _ hlI).trans hI)
  have HB := hide hb
  have HY := hide (show ∀ W : World, Below W1.heap.size W1 W → WyAt B W (.slice a1 p.ty.length d1) (.slice a2 p.fu.length d2) (.slice a3 p.ta.length d3) (.slice a4 p.st.length d4) (.slice b1 f.lo.length e1) (.slice b2 f.re.length e2) (.slice b3 f.ar.length e3) (.slice b4 f.co.length e4) p f from fun W h => (Y.below hb).below h)
  have HP := hide (show ∀ W : World, Below W1.heap.size W1 W → PileAt X W E b s from fun W h => P.keep (Kp.of_below (bel_tr hb h)))
  have HX := hide (show ∀ W : World, Below W1.heap.size W1 W → ∀ j, X j → B ≤ j ∧ j < W.heap.size from fun W h j hj => ⟨(hX j hj).1, Nat.lt_of_lt_of_le (hX j hj).2 (bel_tr hb h).size⟩)
  have HXN := hide (show ∀ W : World, Below W1.heap.size W1 W → ¬ X W.heap.size from fun W h hx => Nat.lt_irrefl _ (Nat.lt_of_lt_of_le (hX _ hx).2 (bel_tr hb h).size))
  have HWO := hide (show ∀ (W : World) (n : Nat), Below W1.heap.size W1 W → n ≤ s.length → Calls Tryd.prog 54 #[pp b, .int .i64 (n : Int)] W (BhO X E (s.take (s.length - n)) W) from fun W n h hn => without_any (HP.out W h) hn (fun j hj => (HX.out W h j hj).2) (by omega))
  have HWI := hide (show ∀ (W : World) (b' : Nat) (l' : List Int) (v : Value) (ks : List Int), Below W1.heap.size W1 W → PileAt X W E b' l' → IsAt X W v ks → ks.length ≤ 4096 → l'.length ≤ s.length → Calls Tryd.prog 53 #[pp b', v] W (BhO X E (l' ++ ks) W) from fun W b' l' v ks h hp hi hk hl => with_any hp hi (fun j hj => (HX.out W h j hj).2) (by omega))
  have HW1 := hide (show ∀ (W : World) (b' : Nat) (l' : List Int) (k : Int), Below W1.heap.size W1 W → PileAt X W E b' l' → l'.length ≤ s.length → Calls Tryd.prog 53 #[pp b', .slice (some ⟨W.heap.size, 0, none⟩) 1 1] (W.alloc (.cells #[.int .i64 k] 3)) (BhO X E (l' ++ [k]) W) from fun W b' l' k h hp hl => with1 hp (fun j hj => (HX.out W h j hj).2) (by omega) k _)
  have HTP := hide (show ∀ W : World, Below W1.heap.size W1 W → 0 < s.length → Calls Tryd.prog 55 #[pp b] W fun e W' => e = .returned (.int .i64 (s.getLast?.getD 0)) ∧ Below W.heap.size W W' from fun W h h0 => top_any (HP.out W h) h0 (by omega))
  have HTK := hide (show ∀ n : Nat, (s.take (s.length - n)).length ≤ s.length from fun n => List.length_take_le' _ _)
  have HSL := hide hs
  have HPOS := hide (show 0 < s.length by omega)
  have HLEN := hide hlen
  clear hlen
  have HLE1 := hide (show 1 ≤ s.length by have := HLEN.out; omega)
  have HT1 := hide (show ∀ (W : World) (b' : Nat), PileAt X W E b' (s.take (s.length - 1)) → Calls Tryd.prog 55 #[pp b'] W fun e W' => e = .returned (.int .i64 low) ∧ Below W.heap.size W W' from fun W b' hp => by
    have := HPOS.out
    have h1 := HLEN.out
    have := top_any hp (by rw [List.length_take]; omega) (by have := HSL.out; rw [List.length_take]; omega)
    rw [hl1] at this
    exact this)
  obtain ⟨q1, q2⟩ := hl2
  clear hl1
  clear Y P hX hs hb hW hI
  rw [ho] at i0 hW1 HIB ⊢
  clear ho
  go_enter Tryd.func32, Tryd.ntmps32
  go_wp2_with fail
  refine (HWO.out W1 2 (Below.refl _ _) HLEN.out).mono ?_
  rintro e w3 ⟨b3, rfl, hp3, hb3⟩
  have HB3 := hide (show Below W1.heap.size W1 w3 from bel_tr (Below.refl _ _) hb3)
  have HP3 := hide hp3
  clear hb3 hp3
  go_wp2_with fail
  refine (HWO.out w3 1 HB3.out HLE1.out).mono ?_
  rintro e w4 ⟨b4, rfl, hp4, hb4⟩
  have HB4 := hide (show Below W1.heap.size W1 w4 from bel_tr HB3.out hb4)
  have HP34 := hide (HP3.out.keep (Kp.of_below hb4))
  have HT2 := hide (HT1.out w4 b4 hp4)
  clear hb4 hp4
  go_wp2_with fail
  refine HT2.out.mono ?_
  rintro e w5 ⟨rfl, hb5⟩
  have HB5 := hide (show Below W1.heap.size W1 w5 from bel_tr HB4.out hb5)
  have HP35 := hide (HP34.out.keep (Kp.of_below hb5))
  clear hb5
  go_wp2_with fail
  refine (HW1.out w5 b3 (s.take (s.length - 2)) (low - 3 + 2) HB5.out HP35.out (HTK.out _)).mono ?_
  rintro e w9 ⟨b9, rfl, hp9, hb9⟩
  have HB9 := hide (show Below W1.heap.size W1 w9 from bel_tr HB5.out hb9)
  have HP9 := hide hp9
  clear hb9 hp9
  go_wp2
  go_ret
  exact ⟨b9, rfl, HP9.out, bel_tr HB.out HB9.out⟩

set_option maxRecDepth 100000 in
set_option maxHeartbeats 1000000 in
theorem bh_22 (Y : WyAt B w (.slice a1 p.ty.length d1) (.slice a2 p.fu.length d2) (.slice a3 p.ta.length d3) (.slice a4 p.st.length d4) (.slice b1 f.lo.length e1) (.slice b2 f.re.length e2) (.slice b3 f.ar.length e3) (.slice b4 f.co.length e4) p f) (i : In3) (P : PileAt X w E b s) (hX : ∀ j, X j → B ≤ j ∧ j < w.heap.size) (hs : s.length ≤ 1000000000000) (ho : i.o = 22) {m qq : Nat} {g : Fd} (ha : i.a = (m : Int)) (hx : p.fu[m]? = some g) (hqa : g.pa = (qq : Int)) (hql : qq ≤ s.length) (hgr : g.re.length ≤ 4096) : Calls Tryd.prog 32 #[.agg #[.slice a1 p.ty.length d1, .slice a2 p.fu.length d2, .slice a3 p.ta.length d3, .slice a4 p.st.length d4, .int .i64 f.pa, .slice b1 f.lo.length e1, .slice b2 f.re.length e2, .slice b3 f.ar.length e3, .slice b4 f.co.length e4], .agg #[.int .i64 i.o, .int .i64 i.a, .int .i64 i.b], pp b] w (BhO X E (s.take (s.length - qq) ++ g.re) w) := by
  obtain ⟨W1, hW1⟩ : ∃ W1, (w.alloc (.cells #[.slice a1 p.ty.length d1, .slice a2 p.fu.length d2, .slice a3 p.ta.length d3, .slice a4 p.st.length d4, .int .i64 f.pa, .slice b1 f.lo.length e1, .slice b2 f.re.length e2, .slice b3 f.ar.length e3, .slice b4 f.co.length e4] 89)).alloc (.cells #[.int .i64 i.o, .int .i64 i.a, .int .i64 i.b] 47) = W1 := ⟨_, rfl⟩
  have hb : Below w.heap.size w W1 := by rw [← hW1]; exact ((Below.refl _ _).alloc (Nat.le_refl _) _).alloc (by simp) _
  have hW : W1.heap[w.heap.size]? = some (.cells #[.slice a1 p.ty.length d1, .slice a2 p.fu.length d2, .slice a3 p.ta.length d3, .slice a4 p.st.length d4, .int .i64 f.pa, .slice b1 f.lo.length e1, .slice b2 f.re.length e2, .slice b3 f.ar.length e3, .slice b4 f.co.length e4] 89 (0, 0)) := by rw [← hW1, Below.heap_alloc _ _ _ (by simp)]; exact heap_new _ _ rfl
  have hI : W1.heap[w.heap.size + 1]? = some (.cells #[.int .i64 i.o, .int .i64 i.a, .int .i64 i.b] 47 (0, 0)) := by rw [← hW1]; exact heap_new _ _ (by simp)
  have i0 : W1.cell? ⟨w.heap.size + 1, 0, none⟩ = some (.int .i64 i.o) := cell_of hI rfl
  have i1 : W1.cell? ⟨w.heap.size + 1, 1, none⟩ = some (.int .i64 i.a) := cell_of hI rfl
  have i2 : W1.cell? ⟨w.heap.size + 1, 2, none⟩ = some (.int .i64 i.b) := cell_of hI rfl
  have hlW := lt_of_block hW
  have hlI := lt_of_block hI
  have HWB := hide (show ∀ W : World, Below W1.heap.size W1 W → W.heap[w.heap.size]? = some (.cells #[.slice a1 p.ty.length d1, .slice a2 p.fu.length d2, .slice a3 p.ta.length d3, .slice a4 p.st.length d4, .int .i64 f.pa, .slice b1 f.lo.length e1, .slice b2 f.re.length e2, .slice b3 f.ar.length e3, .slice b4 f.co.length e4] 89 (0, 0)) from fun W h => (h.block _ hlW).trans hW)
  have HIB := hide (show ∀ W : World, Below W1.heap.size W1 W → W.heap[w.heap.size + 1]? = some (.cells #[.int .i64 i.o, .int .i64 i.a, .int .i64 i.b] 47 (0, 0)) from fun W h => (h.block _ hlI).trans hI)
  have HB := hide hb
  have HY := hide (show ∀ W : World, Below W1.heap.size W1 W → WyAt B W (.slice a1 p.ty.length d1) (.slice a2 p.fu.length d2) (.slice a3 p.ta.length d3) (.slice a4 p.st.length d4) (.slice b1 f.lo.length e1) (.slice b2 f.re.length e2) (.slice b3 f.ar.length e3) (.slice b4 f.co.length e4) p f from fun W h => (Y.below hb).below h)
  have HP := hide (show ∀ W : World, Below W1.heap.size W1 W → PileAt X W E b s from fun W h => P.keep (Kp.of_below (bel_tr hb h)))
  have HX := hide (show ∀ W : World, Below W1.heap.size W1 W → ∀ j, X j → B ≤ j ∧ j < W.heap.size from fun W h j hj => ⟨(hX j hj).1, Nat.lt_of_lt_of_le (hX j hj).2 (bel_tr hb h).size⟩)
  have HXN := hide (show ∀ W : World, Below W1.heap.size W1 W → ¬ X W.heap.size from fun W h hx => Nat.lt_irrefl _ (Nat.lt_of_lt_of_le (hX _ hx).2 (bel_tr hb h).size))
  have HWO := hide (show ∀ (W : World) (n : Nat), Below W1.heap.size W1 W → n ≤ s.length → Calls Tryd.prog 54 #[pp b, .int .i64 (n : Int)] W (BhO X E (s.take (s.length - n)) W) from fun W n h hn => without_any (HP.out W h) hn (fun j hj => (HX.out W h j hj).2) (by omega))
  have HWI := hide (show ∀ (W : World) (b' : Nat) (l' : List Int) (v : Value) (ks : List Int), Below W1.heap.size W1 W → PileAt X W E b' l' → IsAt X W v ks → ks.length ≤ 4096 → l'.length ≤ s.length → Calls Tryd.prog 53 #[pp b', v] W (BhO X E (l' ++ ks) W) from fun W b' l' v ks h hp hi hk hl => with_any hp hi (fun j hj => (HX.out W h j hj).2) (by omega))
  have HW1 := hide (show ∀ (W : World) (b' : Nat) (l' : List Int) (k : Int), Below W1.heap.size W1 W → PileAt X W E b' l' → l'.length ≤ s.length → Calls Tryd.prog 53 #[pp b', .slice (some ⟨W.heap.size, 0, none⟩) 1 1] (W.alloc (.cells #[.int .i64 k] 3)) (BhO X E (l' ++ [k]) W) from fun W b' l' k h hp hl => with1 hp (fun j hj => (HX.out W h j hj).2) (by omega) k _)
  have HTP := hide (show ∀ W : World, Below W1.heap.size W1 W → 0 < s.length → Calls Tryd.prog 55 #[pp b] W fun e W' => e = .returned (.int .i64 (s.getLast?.getD 0)) ∧ Below W.heap.size W W' from fun W h h0 => top_any (HP.out W h) h0 (by omega))
  have HTK := hide (show ∀ n : Nat, (s.take (s.length - n)).length ≤ s.length from fun n => List.length_take_le' _ _)
  have HSL := hide hs
  obtain ⟨gg, oo, c, n, y1, y2, y3, y4, hv, hnn, hlt, hg, ⟨c0, c1, c2, c3, c4⟩, r1, r2, r3, r4⟩ := fd_at (HY.out W1 (Below.refl _ _)).pg.fu hx
  cases hv
  have k1 : W1.cell? ⟨w.heap.size, 1, none⟩ = some (.slice (some ⟨gg, oo, none⟩) p.fu.length d2) := cell_of hW rfl
  have hgw : gg < W1.heap.size := Nat.lt_of_lt_of_le hg (HY.out W1 (Below.refl _ _)).hB
  have dd : decide (m < p.fu.length) = true := by simpa using hlt
  have HCA := hide (show ∀ (W : World) (b' : Nat) (l' : List Int), Below W1.heap.size W1 W → PileAt X W E b' l' → l'.length ≤ s.length → qq ≤ l'.length → Calls Tryd.prog 57 #[.agg #[.int .i64 g.pa, y1, y2, y3, y4], pp b'] W (BhO X E (l'.take (l'.length - qq) ++ g.re) W) from fun W b' l' h hp hl hq => called_any hp (HX.out W h) (HY.out W h).hB (by omega) hqa hq (ints_keep (Nat.le_refl _) (fun j hj => h.block j (Nat.lt_of_lt_of_le hj (HY.out W1 (Below.refl _ _)).hB)) r1) (ints_keep (Nat.le_refl _) (fun j hj => h.block j (Nat.lt_of_lt_of_le hj (HY.out W1 (Below.refl _ _)).hB)) r2) (ints_keep (Nat.le_refl _) (fun j hj => h.block j (Nat.lt_of_lt_of_le hj (HY.out W1 (Below.refl _ _)).hB)) r3) (ins_keep (Nat.le_refl _) (fun j hj => h.block j (Nat.lt_of_lt_of_le hj (HY.out W1 (Below.refl _ _)).hB)) r4) hgr)
  have HQL := hide hql
  rw [ha] at i1 hW1 HIB ⊢
  clear ha hx hqa hql hgr r1 r2 r3 r4 hg
  clear Y P hX hs hb hW hI
  rw [ho] at i0 hW1 HIB ⊢
  clear ho
  go_enter Tryd.func32, Tryd.ntmps32
  go_wp2_with fail
  refine (HCA.out W1 b s (Below.refl _ _) (HP.out W1 (Below.refl _ _)) (Nat.le_refl _) HQL.out).mono ?_
  rintro e w9 ⟨b9, rfl, hp9, hb9⟩
  have HB9 := hide hb9
  have HP9 := hide hp9
  clear hb9 hp9
  go_wp2
  go_ret
  exact ⟨b9, rfl, HP9.out, bel_tr HB.out HB9.out⟩

set_option maxRecDepth 100000 in
set_option maxHeartbeats 1000000 in
theorem bh_23 (Y : WyAt B w (.slice a1 p.ty.length d1) (.slice a2 p.fu.length d2) (.slice a3 p.ta.length d3) (.slice a4 p.st.length d4) (.slice b1 f.lo.length e1) (.slice b2 f.re.length e2) (.slice b3 f.ar.length e3) (.slice b4 f.co.length e4) p f) (i : In3) (P : PileAt X w E b s) (hX : ∀ j, X j → B ≤ j ∧ j < w.heap.size) (hs : s.length ≤ 1000000000000) (ho : i.o = 23) (hlen : 1 ≤ s.length) {t m0 qq : Nat} {tb : List Int} {g : Fd} (ha : i.a = (t : Int)) (ht : p.ta[t]? = some tb) (h0 : tb[0]? = some (m0 : Int)) (hx : p.fu[m0]? = some g) (hqa : g.pa = (qq : Int)) (hql : qq + 1 ≤ s.length) (hgr : g.re.length ≤ 4096) : Calls Tryd.prog 32 #[.agg #[.slice a1 p.ty.length d1, .slice a2 p.fu.length d2, .slice a3 p.ta.length d3, .slice a4 p.st.length d4, .int .i64 f.pa, .slice b1 f.lo.length e1, .slice b2 f.re.length e2, .slice b3 f.ar.length e3, .slice b4 f.co.length e4], .agg #[.int .i64 i.o, .int .i64 i.a, .int .i64 i.b], pp b] w (BhO X E ((s.take (s.length - 1)).take ((s.take (s.length - 1)).length - qq) ++ g.re) w) := by
  obtain ⟨W1, hW1⟩ : ∃ W1, (w.alloc (.cells #[.slice a1 p.ty.length d1, .slice a2 p.fu.length d2, .slice a3 p.ta.length d3, .slice a4 p.st.length d4, .int .i64 f.pa, .slice b1 f.lo.length e1, .slice b2 f.re.length e2, .slice b3 f.ar.length e3, .slice b4 f.co.length e4] 89)).alloc (.cells #[.int .i64 i.o, .int .i64 i.a, .int .i64 i.b] 47) = W1 := ⟨_, rfl⟩
  have hb : Below w.heap.size w W1 := by rw [← hW1]; exact ((Below.refl _ _).alloc (Nat.le_refl _) _).alloc (by simp) _
  have hW : W1.heap[w.heap.size]? = some (.cells #[.slice a1 p.ty.length d1, .slice a2 p.fu.length d2, .slice a3 p.ta.length d3, .slice a4 p.st.length d4, .int .i64 f.pa, .slice b1 f.lo.length e1, .slice b2 f.re.length e2, .slice b3 f.ar.length e3, .slice b4 f.co.length e4] 89 (0, 0)) := by rw [← hW1, Below.heap_alloc _ _ _ (by simp)]; exact heap_new _ _ rfl
  have hI : W1.heap[w.heap.size + 1]? = some (.cells #[.int .i64 i.o, .int .i64 i.a, .int .i64 i.b] 47 (0, 0)) := by rw [← hW1]; exact heap_new _ _ (by simp)
  have i0 : W1.cell? ⟨w.heap.size + 1, 0, none⟩ = some (.int .i64 i.o) := cell_of hI rfl
  have i1 : W1.cell? ⟨w.heap.size + 1, 1, none⟩ = some (.int .i64 i.a) := cell_of hI rfl
  have i2 : W1.cell? ⟨w.heap.size + 1, 2, none⟩ = some (.int .i64 i.b) := cell_of hI rfl
  have hlW := lt_of_block hW
  have hlI := lt_of_block hI
  have HWB := hide (show ∀ W : World, Below W1.heap.size W1 W → W.heap[w.heap.size]? = some (.cells #[.slice a1 p.ty.length d1, .slice a2 p.fu.length d2, .slice a3 p.ta.length d3, .slice a4 p.st.length d4, .int .i64 f.pa, .slice b1 f.lo.length e1, .slice b2 f.re.length e2, .slice b3 f.ar.length e3, .slice b4 f.co.length e4] 89 (0, 0)) from fun W h => (h.block _ hlW).trans hW)
  have HIB := hide (show ∀ W : World, Below W1.heap.size W1 W → W.heap[w.heap.size + 1]? = some (.cells #[.int .i64 i.o, .int .i64 i.a, .int .i64 i.b] 47 (0, 0)) from fun W h => (h.block _ hlI).trans hI)
  have HB := hide hb
  have HY := hide (show ∀ W : World, Below W1.heap.size W1 W → WyAt B W (.slice a1 p.ty.length d1) (.slice a2 p.fu.length d2) (.slice a3 p.ta.length d3) (.slice a4 p.st.length d4) (.slice b1 f.lo.length e1) (.slice b2 f.re.length e2) (.slice b3 f.ar.length e3) (.slice b4 f.co.length e4) p f from fun W h => (Y.below hb).below h)
  have HP := hide (show ∀ W : World, Below W1.heap.size W1 W → PileAt X W E b s from fun W h => P.keep (Kp.of_below (bel_tr hb h)))
  have HX := hide (show ∀ W : World, Below W1.heap.size W1 W → ∀ j, X j → B ≤ j ∧ j < W.heap.size from fun W h j hj => ⟨(hX j hj).1, Nat.lt_of_lt_of_le (hX j hj).2 (bel_tr hb h).size⟩)
  have HXN := hide (show ∀ W : World, Below W1.heap.size W1 W → ¬ X W.heap.size from fun W h hx => Nat.lt_irrefl _ (Nat.lt_of_lt_of_le (hX _ hx).2 (bel_tr hb h).size))
  have HWO := hide (show ∀ (W : World) (n : Nat), Below W1.heap.size W1 W → n ≤ s.length → Calls Tryd.prog 54 #[pp b, .int .i64 (n : Int)] W (BhO X E (s.take (s.length - n)) W) from fun W n h hn => without_any (HP.out W h) hn (fun j hj => (HX.out W h j hj).2) (by omega))
  have HWI := hide (show ∀ (W : World) (b' : Nat) (l' : List Int) (v : Value) (ks : List Int), Below W1.heap.size W1 W → PileAt X W E b' l' → IsAt X W v ks → ks.length ≤ 4096 → l'.length ≤ s.length → Calls Tryd.prog 53 #[pp b', v] W (BhO X E (l' ++ ks) W) from fun W b' l' v ks h hp hi hk hl => with_any hp hi (fun j hj => (HX.out W h j hj).2) (by omega))
  have HW1 := hide (show ∀ (W : World) (b' : Nat) (l' : List Int) (k : Int), Below W1.heap.size W1 W → PileAt X W E b' l' → l'.length ≤ s.length → Calls Tryd.prog 53 #[pp b', .slice (some ⟨W.heap.size, 0, none⟩) 1 1] (W.alloc (.cells #[.int .i64 k] 3)) (BhO X E (l' ++ [k]) W) from fun W b' l' k h hp hl => with1 hp (fun j hj => (HX.out W h j hj).2) (by omega) k _)
  have HTP := hide (show ∀ W : World, Below W1.heap.size W1 W → 0 < s.length → Calls Tryd.prog 55 #[pp b] W fun e W' => e = .returned (.int .i64 (s.getLast?.getD 0)) ∧ Below W.heap.size W W' from fun W h h0 => top_any (HP.out W h) h0 (by omega))
  have HTK := hide (show ∀ n : Nat, (s.take (s.length - n)).length ≤ s.length from fun n => List.length_take_le' _ _)
  have HSL := hide hs
  have HPOS := hide (show 0 < s.length by omega)
  have HLEN := hide hlen
  clear hlen
  obtain ⟨gg, oo, c, n, y1, y2, y3, y4, hv, hnn, hlt, hg, ⟨c0, c1, c2, c3, c4⟩, r1, r2, r3, r4⟩ := fd_at (HY.out W1 (Below.refl _ _)).pg.fu hx
  cases hv
  obtain ⟨gt, ot, ct, nt, u, hv2, hnt, hlt2, hgt, hct, hlu⟩ := lst_at (HY.out W1 (Below.refl _ _)).pg.ta ht
  cases hv2
  obtain ⟨ai, ci, rfl, _, hel⟩ := hlu
  obtain ⟨gi, oi, rfl, hgi, hci, _⟩ := ints_at hel h0
  rw [Nat.add_zero] at hci
  have hgw : gg < W1.heap.size := Nat.lt_of_lt_of_le hg (HY.out W1 (Below.refl _ _)).hB
  have hgtw : gt < W1.heap.size := Nat.lt_of_lt_of_le hgt (HY.out W1 (Below.refl _ _)).hB
  have hgiw : gi < W1.heap.size := Nat.lt_of_lt_of_le hgi (HY.out W1 (Below.refl _ _)).hB
  have dd : decide (m0 < p.fu.length) = true := by simpa using hlt
  have dt : decide (t < p.ta.length) = true := by simpa using hlt2
  have di : decide (0 < tb.length) = true := by simpa using get_lt h0
  have dl := get_lt h0
  have HCA := hide (show ∀ (W : World) (b' : Nat) (l' : List Int), Below W1.heap.size W1 W → PileAt X W E b' l' → l'.length ≤ s.length → qq ≤ l'.length → Calls Tryd.prog 57 #[.agg #[.int .i64 g.pa, y1, y2, y3, y4], pp b'] W (BhO X E (l'.take (l'.length - qq) ++ g.re) W) from fun W b' l' h hp hl hq => called_any hp (HX.out W h) (HY.out W h).hB (by omega) hqa hq (ints_keep (Nat.le_refl _) (fun j hj => h.block j (Nat.lt_of_lt_of_le hj (HY.out W1 (Below.refl _ _)).hB)) r1) (ints_keep (Nat.le_refl _) (fun j hj => h.block j (Nat.lt_of_lt_of_le hj (HY.out W1 (Below.refl _ _)).hB)) r2) (ints_keep (Nat.le_refl _) (fun j hj => h.block j (Nat.lt_of_lt_of_le hj (HY.out W1 (Below.refl _ _)).hB)) r3) (ins_keep (Nat.le_refl _) (fun j hj => h.block j (Nat.lt_of_lt_of_le hj (HY.out W1 (Below.refl _ _)).hB)) r4) hgr)
  have HQL := hide (show qq ≤ (s.take (s.length - 1)).length by rw [List.length_take]; omega)
  rw [ha] at i1 hW1 HIB ⊢
  have HS0 := hide (show ∀ W : World, Below W1.heap.size W1 W → (fun W => W.cell? ⟨w.heap.size, 1, none⟩ = some (.slice (some ⟨gg, oo, none⟩) p.fu.length d2) ∧ W.cell? ⟨w.heap.size, 2, none⟩ = some (.slice (some ⟨gt, ot, none⟩) p.ta.length d3) ∧ W.cell? ⟨w.heap.size + 1, 1, none⟩ = some (.int .i64 t) ∧ W.cell? ⟨gt, ot + t, none⟩ = some (.slice (some ⟨gi, oi, none⟩) tb.length ci) ∧ W.cell? ⟨gi, oi, none⟩ = some (.int .i64 m0) ∧ W.cell? ⟨gg, oo + m0 * 5, none⟩ = some (.int .i64 g.pa) ∧ W.cell? ⟨gg, oo + m0 * 5 + 1, none⟩ = some y1 ∧ W.cell? ⟨gg, oo + m0 * 5 + 2, none⟩ = some y2 ∧ W.cell? ⟨gg, oo + m0 * 5 + 3, none⟩ = some y3 ∧ W.cell? ⟨gg, oo + m0 * 5 + 4, none⟩ = some y4) W from fun W h => by
    have h1 := HWB.out W h
    exact ⟨cell_of h1 rfl, cell_of h1 rfl, cell_of (HIB.out W h) rfl, (h.cell (p := ⟨gt, ot + t, none⟩) hgtw).trans hct, (h.cell (p := ⟨gi, oi, none⟩) hgiw).trans hci, (h.cell (p := ⟨gg, oo + m0 * 5, none⟩) hgw).trans c0, (h.cell (p := ⟨gg, oo + m0 * 5 + 1, none⟩) hgw).trans c1, (h.cell (p := ⟨gg, oo + m0 * 5 + 2, none⟩) hgw).trans c2, (h.cell (p := ⟨gg, oo + m0 * 5 + 3, none⟩) hgw).trans c3, (h.cell (p := ⟨gg, oo + m0 * 5 + 4, none⟩) hgw).trans c4⟩)
  clear ha hx hqa hql hgr r1 r2 r3 r4 hg ht h0 hel hgt hgi hct hci
  clear Y P hX hs hb hW hI
  rw [ho] at i0 hW1 HIB ⊢
  clear ho
  go_enter Tryd.func32, Tryd.ntmps32
  go_wp2_with fail
  refine wp_region_held_drew (S := (fun W => W.cell? ⟨w.heap.size, 1, none⟩ = some (.slice (some ⟨gg, oo, none⟩) p.fu.length d2) ∧ W.cell? ⟨w.heap.size, 2, none⟩ = some (.slice (some ⟨gt, ot, none⟩) p.ta.length d3) ∧ W.cell? ⟨w.heap.size + 1, 1, none⟩ = some (.int .i64 t) ∧ W.cell? ⟨gt, ot + t, none⟩ = some (.slice (some ⟨gi, oi, none⟩) tb.length ci) ∧ W.cell? ⟨gi, oi, none⟩ = some (.int .i64 m0) ∧ W.cell? ⟨gg, oo + m0 * 5, none⟩ = some (.int .i64 g.pa) ∧ W.cell? ⟨gg, oo + m0 * 5 + 1, none⟩ = some y1 ∧ W.cell? ⟨gg, oo + m0 * 5 + 2, none⟩ = some y2 ∧ W.cell? ⟨gg, oo + m0 * 5 + 3, none⟩ = some y3 ∧ W.cell? ⟨gg, oo + m0 * 5 + 4, none⟩ = some y4)) (by kernel_rfl) (HS0.out _ (below_drew (Below.refl _ _))) (fun hHeld1 => ?_)
  refine wpAnyH_take (i := 0) (oi := { dst := some 167, op := Go.Op.fieldAddr 89 (Go.Operand.tmp 3) 0, type := 0, pos := "way.go:86", after := #[], guard := none }) (v := ?v2) rfl (by kernel_rfl) (by kernel_rfl) (by kernel_rfl) (fun _ _ _ h => h) (Or.inl ⟨by rfl, ?hy2⟩) (by assumption) ?_
  case hy2 => (intro W hSw; (try dsimp only at hSw); go_simp; try with_reducible rfl)
  try simp only [Act.put, List.setIfInBounds_toArray, List.set_cons_zero, List.set_cons_succ]
  refine wpAnyH_take (i := 1) (oi := { dst := some 168, op := Go.Op.fieldAddr 27 (Go.Operand.tmp 167) 1, type := 0, pos := "way.go:86", after := #[{ on := 0, ground := Go.Ground.data }], guard := none }) (v := ?v3) rfl (by kernel_rfl) (by kernel_rfl) (by kernel_rfl) (fun _ _ _ h => h) (Or.inl ⟨by rfl, ?hy3⟩) (by assumption) ?_
  case hy3 => (intro W hSw; (try dsimp only at hSw); go_simp; try with_reducible rfl)
  try simp only [Act.put, List.setIfInBounds_toArray, List.set_cons_zero, List.set_cons_succ]
  refine wpAnyH_take (i := 2) (oi := { dst := some 169, op := Go.Op.load 23 (Go.Operand.tmp 168), type := 23, pos := "way.go:86", after := #[{ on := 1, ground := Go.Ground.data }], guard := none }) (v := ?v4) rfl (by kernel_rfl) (by kernel_rfl) (by kernel_rfl) (fun _ _ _ h => h) (Or.inl ⟨by rfl, ?hy4⟩) (by assumption) ?_
  case hy4 => (intro W hSw; (try dsimp only at hSw); go_simp; try with_reducible rfl)
  try simp only [Act.put, List.setIfInBounds_toArray, List.set_cons_zero, List.set_cons_succ]
  refine wpAnyH_take (i := 3) (oi := { dst := some 170, op := Go.Op.fieldAddr 89 (Go.Operand.tmp 3) 0, type := 0, pos := "way.go:86", after := #[], guard := none }) (v := ?v5) rfl (by kernel_rfl) (by kernel_rfl) (by kernel_rfl) (fun _ _ _ h => h) (Or.inl ⟨by rfl, ?hy5⟩) (by assumption) ?_
  case hy5 => (intro W hSw; (try dsimp only at hSw); go_simp; try with_reducible rfl)
  try simp only [Act.put, List.setIfInBounds_toArray, List.set_cons_zero, List.set_cons_succ]
  refine wpAnyH_take (i := 4) (oi := { dst := some 171, op := Go.Op.fieldAddr 27 (Go.Operand.tmp 170) 2, type := 0, pos := "way.go:86", after := #[{ on := 3, ground := Go.Ground.data }], guard := none }) (v := ?v6) rfl (by kernel_rfl) (by kernel_rfl) (by kernel_rfl) (fun _ _ _ h => h) (Or.inl ⟨by rfl, ?hy6⟩) (by assumption) ?_
  case hy6 => (intro W hSw; (try dsimp only at hSw); go_simp; try with_reducible rfl)
  try simp only [Act.put, List.setIfInBounds_toArray, List.set_cons_zero, List.set_cons_succ]
  refine wpAnyH_take (i := 5) (oi := { dst := some 172, op := Go.Op.load 24 (Go.Operand.tmp 171), type := 24, pos := "way.go:86", after := #[{ on := 4, ground := Go.Ground.data }], guard := none }) (v := ?v7) rfl (by kernel_rfl) (by kernel_rfl) (by kernel_rfl) (fun _ _ _ h => h) (Or.inl ⟨by rfl, ?hy7⟩) (by assumption) ?_
  case hy7 => (intro W hSw; (try dsimp only at hSw); go_simp; try with_reducible rfl)
  try simp only [Act.put, List.setIfInBounds_toArray, List.set_cons_zero, List.set_cons_succ]
  refine wpAnyH_take (i := 6) (oi := { dst := some 173, op := Go.Op.fieldAddr 47 (Go.Operand.tmp 4) 1, type := 0, pos := "way.go:86", after := #[], guard := none }) (v := ?v8) rfl (by kernel_rfl) (by kernel_rfl) (by kernel_rfl) (fun _ _ _ h => h) (Or.inl ⟨by rfl, ?hy8⟩) (by assumption) ?_
  case hy8 => (intro W hSw; (try dsimp only at hSw); go_simp; try with_reducible rfl)
  try simp only [Act.put, List.setIfInBounds_toArray, List.set_cons_zero, List.set_cons_succ]
  refine wpAnyH_take (i := 7) (oi := { dst := some 174, op := Go.Op.load 3 (Go.Operand.tmp 173), type := 3, pos := "way.go:86", after := #[{ on := 6, ground := Go.Ground.data }], guard := none }) (v := ?v9) rfl (by kernel_rfl) (by kernel_rfl) (by kernel_rfl) (fun _ _ _ h => h) (Or.inl ⟨by rfl, ?hy9⟩) (by assumption) ?_
  case hy9 => (intro W hSw; (try dsimp only at hSw); go_simp; try with_reducible rfl)
  try simp only [Act.put, List.setIfInBounds_toArray, List.set_cons_zero, List.set_cons_succ]
  refine wpAnyH_take (i := 8) (oi := { dst := some 175, op := Go.Op.indexAddr 24 (Go.Operand.tmp 172) (Go.Operand.tmp 174), type := 0, pos := "way.go:86", after := #[{ on := 5, ground := Go.Ground.data }, { on := 7, ground := Go.Ground.data }], guard := none }) (v := ?v10) rfl (by kernel_rfl) (by kernel_rfl) (by kernel_rfl) (fun _ _ _ h => h) (Or.inl ⟨by rfl, ?hy10⟩) (by assumption) ?_
  case hy10 => (intro W hSw; (try dsimp only at hSw); go_simp; try with_reducible rfl)
  try simp only [Act.put, List.setIfInBounds_toArray, List.set_cons_zero, List.set_cons_succ]
  refine wpAnyH_take (i := 9) (oi := { dst := some 176, op := Go.Op.load 37 (Go.Operand.tmp 175), type := 37, pos := "way.go:86", after := #[{ on := 8, ground := Go.Ground.data }], guard := none }) (v := ?v11) rfl (by kernel_rfl) (by kernel_rfl) (by kernel_rfl) (fun _ _ _ h => h) (Or.inl ⟨by rfl, ?hy11⟩) (by assumption) ?_
  case hy11 => (intro W hSw; (try dsimp only at hSw); go_simp; try with_reducible rfl)
  try simp only [Act.put, List.setIfInBounds_toArray, List.set_cons_zero, List.set_cons_succ]
  refine wpAnyH_take (i := 10) (oi := { dst := some 177, op := Go.Op.indexAddr 37 (Go.Operand.tmp 176) (Go.Operand.const (Go.Value.int Go.IntKind.i64 0)), type := 0, pos := "way.go:86", after := #[{ on := 9, ground := Go.Ground.data }], guard := none }) (v := ?v12) rfl (by kernel_rfl) (by kernel_rfl) (by kernel_rfl) (fun _ _ _ h => h) (Or.inl ⟨by rfl, ?hy12⟩) (by assumption) ?_
  case hy12 => (intro W hSw; (try dsimp only at hSw); go_simp; try with_reducible rfl)
  try simp only [Act.put, List.setIfInBounds_toArray, List.set_cons_zero, List.set_cons_succ]
  refine wpAnyH_take (i := 11) (oi := { dst := some 178, op := Go.Op.load 3 (Go.Operand.tmp 177), type := 3, pos := "way.go:86", after := #[{ on := 10, ground := Go.Ground.data }], guard := none }) (v := ?v13) rfl (by kernel_rfl) (by kernel_rfl) (by kernel_rfl) (fun _ _ _ h => h) (Or.inl ⟨by rfl, ?hy13⟩) (by assumption) ?_
  case hy13 => (intro W hSw; (try dsimp only at hSw); go_simp; try with_reducible rfl)
  try simp only [Act.put, List.setIfInBounds_toArray, List.set_cons_zero, List.set_cons_succ]
  refine wpAnyH_take (i := 12) (oi := { dst := some 179, op := Go.Op.indexAddr 23 (Go.Operand.tmp 169) (Go.Operand.tmp 178), type := 0, pos := "way.go:86", after := #[{ on := 2, ground := Go.Ground.data }, { on := 11, ground := Go.Ground.data }], guard := none }) (v := ?v14) rfl (by kernel_rfl) (by kernel_rfl) (by kernel_rfl) (fun _ _ _ h => h) (Or.inl ⟨by rfl, ?hy14⟩) (by assumption) ?_
  case hy14 => (intro W hSw; (try dsimp only at hSw); go_simp; try with_reducible rfl)
  try simp only [Act.put, List.setIfInBounds_toArray, List.set_cons_zero, List.set_cons_succ]
  refine wpAnyH_take (i := 13) (oi := { dst := some 180, op := Go.Op.load 50 (Go.Operand.tmp 179), type := 50, pos := "way.go:86", after := #[{ on := 12, ground := Go.Ground.data }], guard := none }) (v := ?v15) rfl (by kernel_rfl) (by kernel_rfl) (by kernel_rfl) (fun _ _ _ h => h) (Or.inl ⟨by rfl, ?hy15⟩) (by assumption) ?_
  case hy15 => (intro W hSw; (try dsimp only at hSw); go_simp; try with_reducible rfl)
  try simp only [Act.put, List.setIfInBounds_toArray, List.set_cons_zero, List.set_cons_succ]
  refine wpAnyH_take (i := 14) (oi := { dst := some 181, op := Go.Op.move (Go.Operand.tmp 2), type := 64, pos := "way.go:86", after := #[], guard := none }) (v := ?v16) rfl (by kernel_rfl) (by kernel_rfl) (by kernel_rfl) (fun _ _ _ h => h) (Or.inl ⟨by rfl, ?hy16⟩) (by assumption) ?_
  case hy16 => (intro W hSw; (try dsimp only at hSw); go_simp; try with_reducible rfl)
  try simp only [Act.put, List.setIfInBounds_toArray, List.set_cons_zero, List.set_cons_succ]
  refine wpAnyH_ready (rs := [15]) (by kernel_rfl) (by simp) ?_
  refine AllReadyH.cons (o := { dst := some 182, op := Go.Op.call { callee := Go.Callee.value (Go.Operand.func 54), args := #[Go.Operand.tmp 181, Go.Operand.const (Go.Value.int Go.IntKind.i64 1)], argTypes := #[64, 3] }, type := 64, pos := "way.go:86", after := #[{ on := 14, ground := Go.Ground.data }], guard := none }) rfl (fun K hK => ?_) AllReadyH.nil
  go_simp
  go_at_call 54
  refine (HWO.out _ 1 (below_drew (Below.refl _ _)) HLEN.out).mono ?_
  rintro e w3 ⟨b3, rfl, hp3, hb3⟩
  have HB3 := hide (show Below W1.heap.size W1 w3 from bel_tr (below_drew (Below.refl _ _)) hb3)
  have HP3 := hide hp3
  clear hb3 hp3
  go_wp2_with fail
  refine hK.out _ _ (HS0.out _ HB3.out) (fun hHeld17 => ?_)
  clear hK K
  try simp only [Act.put, List.setIfInBounds_toArray, List.set_cons_zero, List.set_cons_succ]
  refine wpAnyH_ready (rs := [16]) (by kernel_rfl) (by simp) ?_
  refine AllReadyH.cons (o := { dst := some 183, op := Go.Op.call { callee := Go.Callee.value (Go.Operand.func 57), args := #[Go.Operand.tmp 180, Go.Operand.tmp 182], argTypes := #[50, 64] }, type := 64, pos := "way.go:86", after := #[{ on := 13, ground := Go.Ground.data }, { on := 15, ground := Go.Ground.data }, { on := 15, ground := Go.Ground.chain }], guard := none }) rfl (fun K hK => ?_) AllReadyH.nil
  go_simp
  go_at_call 57
  refine (HCA.out _ _ _ HB3.out HP3.out (HTK.out _) HQL.out).mono ?_
  rintro e w9 ⟨b9, rfl, hp9, hb9⟩
  have HB9 := hide (show Below W1.heap.size W1 w9 from bel_tr HB3.out hb9)
  have HP9 := hide hp9
  clear hb9 hp9
  go_wp2_with fail
  refine hK.out _ _ (HS0.out _ HB9.out) (fun hHeld18 => ?_)
  clear hK K
  try simp only [Act.put, List.setIfInBounds_toArray, List.set_cons_zero, List.set_cons_succ]
  refine wpAnyH_take (i := 17) (oi := { dst := some 6, op := Go.Op.assign (Go.Operand.tmp 183), type := 64, pos := "way.go:86", after := #[{ on := 16, ground := Go.Ground.data }, { on := 16, ground := Go.Ground.chain }, { on := 0, ground := Go.Ground.phase }, { on := 1, ground := Go.Ground.phase }, { on := 2, ground := Go.Ground.phase }, { on := 3, ground := Go.Ground.phase }, { on := 4, ground := Go.Ground.phase }, { on := 5, ground := Go.Ground.phase }, { on := 6, ground := Go.Ground.phase }, { on := 7, ground := Go.Ground.phase }, { on := 8, ground := Go.Ground.phase }, { on := 9, ground := Go.Ground.phase }, { on := 10, ground := Go.Ground.phase }, { on := 11, ground := Go.Ground.phase }, { on := 12, ground := Go.Ground.phase }, { on := 13, ground := Go.Ground.phase }, { on := 14, ground := Go.Ground.phase }, { on := 15, ground := Go.Ground.phase }, { on := 16, ground := Go.Ground.phase }], guard := none }) (v := ?v19) rfl (by kernel_rfl) (by kernel_rfl) (by kernel_rfl) (fun _ _ _ h => h) (Or.inl ⟨by rfl, ?hy19⟩) (by assumption) ?_
  case hy19 => (intro W hSw; (try dsimp only at hSw); go_simp; try with_reducible rfl)
  try simp only [Act.put, List.setIfInBounds_toArray, List.set_cons_zero, List.set_cons_succ]
  refine wpAnyH_done (by kernel_rfl) ?_ _
  go_wp2
  go_ret
  exact ⟨b9, rfl, HP9.out, bel_tr HB.out HB9.out⟩

end
end Go.Proofs.YtkdojpnihinpbaaDoor

namespace Go.Proofs.YtkdojpnihinpbaaDoor
open Go.RowKit
/-- How behind ends, where it goes on at ns with the stack bl. -/
def BfO (X : Nat → Prop) (E : Nat) (bl ns : List Int) (w : World) (e : Ending) (W : World) : Prop := ∃ b' l', e = .returned (pp b') ∧ PileAt X W E b' l' ∧ Below w.heap.size w W ∧ (ns ≠ [] → l' = bl)
section
variable {B E b x : Nat} {X : Nat → Prop} {w : World} {a1 a2 a3 a4 b1 b2 b3 b4 : Option Addr} {d1 d2 d3 d4 e1 e2 e3 e4 : Nat} {p : Pg} {f : Fd} {s bl ns : List Int} {i : In3}
theorem of_bh {fn : Nat} {args : Array Value} {l' : List Int} (h : Calls Tryd.prog fn args w (BhO X E l' w)) (hl : ns ≠ [] → l' = bl) : Calls Tryd.prog fn args w (BfO X E bl ns w) := h.mono (by
  rintro e W ⟨b', h1, h2, h3⟩
  exact ⟨b', l', h1, h2, h3, hl⟩)
theorem look_ok (h : lookP p f x i s = .ok (bl, ns)) : namesB p f i = true ∧ (takesP p f i).n ≤ s.length ∧ (takesP p f i).fine (s.drop (s.length - (takesP p f i).n)) = true ∧ (∃ l, putsP p f i ((s.drop (s.length - (takesP p f i).n)).getLast?.getD 0) ((s.drop (s.length - (takesP p f i).n)).head?.getD 0) = .ok l ∧ bl = s.take (s.length - (takesP p f i).n) ++ l) ∧ ns = nextsP i x := by
  unfold lookP at h
  dsimp only at h
  split at h
  · cases h
  · rename_i h1
    split at h
    · cases h
    · rename_i h2
      split at h
      · cases h
      · rename_i h3
        split at h
        · cases h
        · rename_i l hl
          split at h
          · cases h
            exact ⟨by simpa using h1, by omega, by simpa using h3, ⟨l, hl, rfl⟩, rfl⟩
          · cases h
theorem last_1 : (s.drop (s.length - 1)).head?.getD 0 = s.getLast?.getD 0 := by
  rw [List.head?_drop, List.getLast?_eq_getElem?]
theorem last_2 (h : 2 ≤ s.length) : (s.drop (s.length - 2)).head?.getD 0 = (s.take (s.length - 1)).getLast?.getD 0 := by
  rw [List.head?_drop, List.getLast?_eq_getElem?, List.length_take, List.getElem?_take, if_pos (by omega)]
  congr 2
  omega
theorem field_at {k y v : Int} (hk : isKB p.ty.length k = true) (h2 : 2 ≤ bareK k) (h : fieldP p k y = some v) : ∃ (t m : Nat) (fs : List Int), (bareK k - 2) / 2 = (t : Int) ∧ p.ty[t]? = some fs ∧ y = (m : Int) ∧ fs[m]? = some v := by
  have h1 := of_decide_eq_true hk
  have h3 : bareK k < 2 + 2 * (p.ty.length : Int) := by
    rcases h1 with h | h | h
    · subst h; simp [bareK] at h2
    · subst h; simp [bareK] at h2
    · exact h.2
  obtain ⟨t, ht⟩ : ∃ t : Nat, (bareK k - 2) / 2 = (t : Int) := ⟨((bareK k - 2) / 2).toNat, by omega⟩
  obtain ⟨fs, hfs⟩ : ∃ fs, p.ty[t]? = some fs := ⟨p.ty[t]'(by omega), by simp⟩
  unfold fieldP at h
  rw [ht, Int.toNat_natCast, hfs, Option.getD_some] at h
  dsimp only at h
  split at h
  · rename_i hy
    obtain ⟨m, rfl, hm⟩ := in_nat hy
    rw [Int.toNat_natCast] at h
    exact ⟨t, m, fs, ht, hfs, rfl, h⟩
  · cases h
theorem last_two (h : 1 ≤ s.length) : s ++ [s.getLast?.getD 0] = s.take (s.length - 1) ++ [s.getLast?.getD 0, s.getLast?.getD 0] := by
  have h1 : s.take (s.length - 1) ++ [s.getLast?.getD 0] = s := by
    have h2 : s ≠ [] := fun h0 => by subst h0; simp at h
    rw [List.getLast?_eq_some_getLast h2, Option.getD_some, ← List.dropLast_eq_take]
    exact List.dropLast_concat_getLast h2
  rw [show s.take (s.length - 1) ++ [s.getLast?.getD 0, s.getLast?.getD 0] = (s.take (s.length - 1) ++ [s.getLast?.getD 0]) ++ [s.getLast?.getD 0] from by simp, h1]
theorem take0 (s l : List Int) : s ++ l = s.take (s.length - 0) ++ l := by simp
set_option maxHeartbeats 1000000 in
theorem behind_any (Y : WyAt B w (.slice a1 p.ty.length d1) (.slice a2 p.fu.length d2) (.slice a3 p.ta.length d3) (.slice a4 p.st.length d4) (.slice b1 f.lo.length e1) (.slice b2 f.re.length e2) (.slice b3 f.ar.length e3) (.slice b4 f.co.length e4) p f) (H : Hok p) (hf : FdOk p f) (P : PileAt X w E b s) (hX : ∀ j, X j → B ≤ j ∧ j < w.heap.size) (hs : s.length ≤ 1000000000000) (hk : ∀ k ∈ s, isKB p.ty.length k = true) (h : lookP p f x i s = .ok (bl, ns)) : Calls Tryd.prog 32 #[.agg #[.slice a1 p.ty.length d1, .slice a2 p.fu.length d2, .slice a3 p.ta.length d3, .slice a4 p.st.length d4, .int .i64 f.pa, .slice b1 f.lo.length e1, .slice b2 f.re.length e2, .slice b3 f.ar.length e3, .slice b4 f.co.length e4], .agg #[.int .i64 i.o, .int .i64 i.a, .int .i64 i.b], pp b] w (BfO X E bl ns w) := by
  obtain ⟨hnm, hn, hfi, ⟨l, hp, rfl⟩, rfl⟩ := look_ok h
  have hlow := low_ok (p := p) (f := f) (i := i) (ks := s.drop (s.length - (takesP p f i).n)) (by rw [List.length_drop]; omega) (fun k hkk => hk k (List.mem_of_mem_drop hkk)) hfi
  have hnt := H.nt
  clear h hfi
  by_cases o1 : i.o = 1
  · have ht : (takesP p f i).n = 0 := by unfold takesP; simp [o1, Must.n]
    rw [ht] at hn hp hlow ⊢
    have hq : ∀ top low, putsP p f i top low = .ok [0] := fun top low => by unfold putsP; simp [o1]
    rw [hq] at hp
    cases hp
    exact of_bh (bh_1 Y i P hX hs o1) (fun _ => take0 _ _)
  by_cases o2 : i.o = 2
  · have ht : (takesP p f i).n = 0 := by unfold takesP; simp [o2, Must.n]
    rw [ht] at hn hp hlow ⊢
    have hq : ∀ top low, putsP p f i top low = .ok [i.a] := fun top low => by unfold putsP; simp [o2]
    rw [hq] at hp
    cases hp
    exact of_bh (bh_2 Y i P hX hs o2) (fun _ => take0 _ _)
  by_cases o4 : i.o = 4
  · have ht : (takesP p f i).n = 1 := by unfold takesP; simp [o4, Must.n]
    rw [ht] at hn hp hlow ⊢
    have hq : ∀ top low, putsP p f i top low = .ok [] := fun top low => by unfold putsP; simp [o4]
    rw [hq] at hp
    cases hp
    exact of_bh (bh_4 Y i P hX hs o4 hn) (fun _ => (List.append_nil _).symm)
  by_cases o5 : i.o = 5
  · have ht : (takesP p f i).n = 1 := by unfold takesP; simp [o5, Must.n]
    rw [ht] at hn hp hlow ⊢
    have hq : ∀ top low, putsP p f i top low = .ok [] := fun top low => by unfold putsP; simp [o5]
    rw [hq] at hp
    cases hp
    exact of_bh (bh_5 Y i P hX hs o5 hn) (fun _ => (List.append_nil _).symm)
  by_cases o10 : i.o = 10
  · have ht : (takesP p f i).n = 1 := by unfold takesP; simp [o10, Must.n]
    rw [ht] at hn hp hlow ⊢
    have hq : ∀ top low, putsP p f i top low = .ok [] := fun top low => by unfold putsP; simp [o10]
    rw [hq] at hp
    cases hp
    exact of_bh (bh_10 Y i P hX hs o10 hn) (fun _ => (List.append_nil _).symm)
  by_cases o25 : i.o = 25
  · have ht : (takesP p f i).n = 1 := by unfold takesP; simp [o25, Must.n]
    rw [ht] at hn hp hlow ⊢
    have hq : ∀ top low, putsP p f i top low = .ok [] := fun top low => by unfold putsP; simp [o25]
    rw [hq] at hp
    cases hp
    exact of_bh (bh_25 Y i P hX hs o25 hn) (fun _ => (List.append_nil _).symm)
  by_cases o26 : i.o = 26
  · have ht : (takesP p f i).n = 1 := by unfold takesP; simp [o26, Must.n]
    rw [ht] at hn hp hlow ⊢
    have hq : ∀ top low, putsP p f i top low = .ok [] := fun top low => by unfold putsP; simp [o26]
    rw [hq] at hp
    cases hp
    exact of_bh (bh_26 Y i P hX hs o26 hn) (fun _ => (List.append_nil _).symm)
  by_cases o15 : i.o = 15
  · have ht : (takesP p f i).n = 2 := by unfold takesP; simp [o15, Must.n]
    rw [ht] at hn hp hlow ⊢
    have hq : ∀ top low, putsP p f i top low = .ok l → l = [] := fun top low h => by
      unfold putsP at h
      simp only [o15] at h
      simp at h
      cases hfd : fieldP p low i.a with
      | none => rw [hfd] at h; cases h
      | some k =>
        rw [hfd] at h
        dsimp only at h
        split at h
        · cases h; rfl
        · cases h
    obtain rfl := hq _ _ hp
    exact of_bh (bh_15 Y i P hX hs o15 hn) (fun _ => (List.append_nil _).symm)
  by_cases o7 : i.o = 7
  · have ht : (takesP p f i).n = 2 := by unfold takesP; simp [o7, Must.n]
    rw [ht] at hn hp hlow ⊢
    have hq : ∀ top low, putsP p f i top low = .ok [0] := fun top low => by unfold putsP; simp [o7]
    rw [hq] at hp
    cases hp
    exact of_bh (bh_7 Y i P hX hs o7 hn) (fun _ => rfl)
  by_cases o8 : i.o = 8
  · have ht : (takesP p f i).n = 2 := by unfold takesP; simp [o8, Must.n]
    rw [ht] at hn hp hlow ⊢
    have hq : ∀ top low, putsP p f i top low = .ok [0] := fun top low => by unfold putsP; simp [o8]
    rw [hq] at hp
    cases hp
    exact of_bh (bh_8 Y i P hX hs o8 hn) (fun _ => rfl)
  by_cases o18 : i.o = 18
  · have ht : (takesP p f i).n = 1 := by unfold takesP; simp [o18, Must.n]
    rw [ht] at hn hp hlow ⊢
    have hq : ∀ top low, putsP p f i top low = .ok [0] := fun top low => by unfold putsP; simp [o18]
    rw [hq] at hp
    cases hp
    exact of_bh (bh_18 Y i P hX hs o18 hn) (fun _ => rfl)
  by_cases o20 : i.o = 20
  · have ht : (takesP p f i).n = 1 := by unfold takesP; simp [o20, Must.n]
    rw [ht] at hn hp hlow ⊢
    have hq : ∀ top low, putsP p f i top low = .ok [0] := fun top low => by unfold putsP; simp [o20]
    rw [hq] at hp
    cases hp
    exact of_bh (bh_20 Y i P hX hs o20 hn) (fun _ => rfl)
  by_cases o19 : i.o = 19
  · have ht : (takesP p f i).n = 1 := by unfold takesP; simp [o19, Must.n]
    rw [ht] at hn hp hlow ⊢
    have hq : ∀ top low, putsP p f i top low = .ok [1] := fun top low => by unfold putsP; simp [o19]
    rw [hq] at hp
    cases hp
    exact of_bh (bh_19 Y i P hX hs o19 hn) (fun _ => rfl)
  by_cases o6 : i.o = 6
  · have ht : (takesP p f i).n = 1 := by unfold takesP; simp [o6, Must.n]
    rw [ht] at hn hp hlow ⊢
    have hq : ∀ top low, putsP p f i top low = .ok [low, low] := fun top low => by unfold putsP; simp [o6]
    rw [hq] at hp
    cases hp
    exact of_bh (bh_6 Y i P hX hs o6 hn) (fun _ => by rw [last_1]; exact last_two hn)
  by_cases o11 : i.o = 11
  · have ht : (takesP p f i).n = 0 := by unfold takesP; simp [o11, Must.n]
    rw [ht] at hn hp hlow ⊢
    have hin : inB i.a p.ty.length = true := by unfold namesB at hnm; simpa [o11] using hnm
    obtain ⟨t, hta, htl⟩ := in_nat hin
    have hq : ∀ top low, putsP p f i top low = .ok [2 + 2 * i.a] := fun top low => by unfold putsP; simp [o11]
    rw [hq] at hp
    cases hp
    exact of_bh (bh_11 Y i P hX hs o11 hta (by omega)) (fun _ => by rw [hta]; exact take0 _ _)
  by_cases o12 : i.o = 12
  · have ht : (takesP p f i).n = 1 := by unfold takesP; simp [o12, Must.n]
    rw [ht] at hn hp hlow ⊢
    have hin : inB i.a p.ty.length = true := by unfold namesB at hnm; simpa [o12] using hnm
    obtain ⟨t, hta, htl⟩ := in_nat hin
    have hq : ∀ top low, putsP p f i top low = .ok [3 + 2 * i.a] := fun top low => by unfold putsP; simp [o12]
    rw [hq] at hp
    cases hp
    exact of_bh (bh_12 Y i P hX hs o12 hn hta (by omega)) (fun _ => by rw [hta])
  by_cases o21 : i.o = 21
  · have ht : (takesP p f i).n = 1 := by unfold takesP; simp [o21, Must.n]
    rw [ht] at hn hp hlow ⊢
    have hin : inB i.a p.ty.length = true := by unfold namesB at hnm; simpa [o21] using hnm
    obtain ⟨t, hta, htl⟩ := in_nat hin
    have hq : ∀ top low, putsP p f i top low = .ok [2 + 2 * i.a] := fun top low => by unfold putsP; simp [o21]
    rw [hq] at hp
    cases hp
    exact of_bh (bh_21 Y i P hX hs o21 hn hta (by omega)) (fun _ => by rw [hta])
  by_cases o29 : i.o = 29
  · have ht : (takesP p f i).n = 0 := by unfold takesP; simp [o29, Must.n]
    rw [ht] at hn hp hlow ⊢
    have hin : inB i.b p.ty.length = true := by unfold namesB at hnm; simp [o29] at hnm; exact hnm.1.2
    obtain ⟨t, hta, htl⟩ := in_nat hin
    have hq : ∀ top low, putsP p f i top low = .ok [3 + 2 * i.b] := fun top low => by unfold putsP; simp [o29]
    rw [hq] at hp
    cases hp
    exact of_bh (bh_29 Y i P hX hs o29 hta (by omega)) (fun _ => by rw [hta]; exact take0 _ _)
  by_cases o3 : i.o = 3
  · have ht : (takesP p f i).n = 0 := by unfold takesP; simp [o3, Must.n]
    rw [ht] at hn hp hlow ⊢
    have hin : inB i.a f.lo.length = true := by unfold namesB at hnm; simpa [o3] using hnm
    obtain ⟨t, hta, htl⟩ := in_nat hin
    obtain ⟨y, hx⟩ : ∃ y, f.lo[t]? = some y := ⟨f.lo[t], by simp⟩
    have hq : ∀ top low, putsP p f i top low = .ok [(f.lo[i.a.toNat]?).getD 0] := fun top low => by unfold putsP; simp [o3]
    rw [hq] at hp
    cases hp
    exact of_bh (bh_3 Y i P hX hs o3 hta hx) (fun _ => by rw [hta, Int.toNat_natCast, hx, Option.getD_some]; exact take0 _ _)
  by_cases o13 : i.o = 13
  · have ht : (takesP p f i).n = 0 := by unfold takesP; simp [o13, Must.n]
    rw [ht] at hn hp hlow ⊢
    have hin : inB i.a f.ar.length = true := by unfold namesB at hnm; simpa [o13] using hnm
    obtain ⟨t, hta, htl⟩ := in_nat hin
    obtain ⟨y, hx0⟩ : ∃ y, f.ar[t]? = some y := ⟨f.ar[t], by simp⟩
    obtain ⟨u, rfl, hul⟩ := in_nat (hf.ar _ (List.mem_of_getElem? hx0))
    have hx := hx0
    have hq : ∀ top low, putsP p f i top low = .ok [1048576 + 2 + 2 * (f.ar[i.a.toNat]?).getD 0] := fun top low => by unfold putsP; simp [o13]
    rw [hq] at hp
    cases hp
    exact of_bh (bh_13 Y i P hX hs o13 hta hx (by omega)) (fun _ => by rw [hta, Int.toNat_natCast, hx, Option.getD_some]; exact take0 _ _)
  by_cases o14 : i.o = 14
  · have ht : (takesP p f i).n = 1 := by unfold takesP; simp [o14, Must.n]
    rw [ht] at hn hp hlow ⊢
    obtain ⟨k1, k2⟩ := hlow.1 (.inl o14)
    rw [last_1] at hp k1 k2
    have k3 : 2 ≤ bareK (s.getLast?.getD 0) := (of_decide_eq_true k2).1
    have hq : ∀ top low, putsP p f i top low = .ok l → ∃ k, fieldP p low i.a = some k ∧ l = [k] := fun top low h => by
      unfold putsP at h
      simp only [o14] at h
      simp at h
      cases hfd : fieldP p low i.a with
      | none => rw [hfd] at h; cases h
      | some k => rw [hfd] at h; cases h; exact ⟨k, rfl, rfl⟩
    obtain ⟨y, hfd, rfl⟩ := hq _ _ hp
    obtain ⟨t, m, fs, h1, h2, h3, h4⟩ := field_at k1 k3 hfd
    exact of_bh (bh_14 Y i P hX hs o14 hn hnt k1 h1 k3 h2 h3 h4) (fun _ => rfl)
  by_cases o16 : i.o = 16
  · have ht : (takesP p f i).n = 1 := by unfold takesP; simp [o16, Must.n]
    rw [ht] at hn hp hlow ⊢
    have hin : inB i.b p.ty.length = true := by unfold namesB at hnm; simpa [o16] using hnm
    obtain ⟨t, hta, htl⟩ := in_nat hin
    obtain ⟨k1, k2⟩ := hlow.1 (.inr (.inr o16))
    rw [last_1] at hp k1 k2
    have hq : ∀ top low, putsP p f i top low = .ok l → l = [locK low + 2 + 2 * i.b] := fun top low h => by
      unfold putsP at h
      simp only [o16] at h
      simp at h
      cases hfd : fieldP p low i.a with
      | none => rw [hfd] at h; cases h
      | some k =>
        rw [hfd] at h
        dsimp only at h
        split at h
        · cases h; rfl
        · cases h
    obtain rfl := hq _ _ hp
    exact of_bh (bh_16 Y i P hX hs o16 hn hnt k1 hta (by omega)) (fun _ => by rw [hta])
  by_cases o17 : i.o = 17
  · have ht : (takesP p f i).n = 2 := by unfold takesP; simp [o17, Must.n]
    rw [ht] at hn hp hlow ⊢
    obtain ⟨k1, k2⟩ := hlow.2.1 o17
    rw [last_2 hn] at hp k1 k2
    obtain ⟨low, hlw⟩ : ∃ q, (s.take (s.length - 1)).getLast?.getD 0 = q := ⟨_, rfl⟩
    rw [hlw] at hp k1 k2
    have hq : ∀ top low, putsP p f i top low = .ok [low - 1] := fun top low => by unfold putsP; simp [o17]
    rw [hq] at hp
    cases hp
    have h1 := of_decide_eq_true k1
    have h2 := of_decide_eq_true k2
    exact of_bh (bh_17 Y i P hX hs o17 hn hlw (by
      rcases h1 with h | h | h
      · omega
      · omega
      · unfold bareK at h h2
        split at h <;> omega)) (fun _ => by rw [show low - 3 + 2 = low - 1 by omega])
  by_cases o22 : i.o = 22
  · have hin : inB i.a p.fu.length = true := by unfold namesB at hnm; simpa [o22] using hnm
    obtain ⟨m, hma, hml⟩ := in_nat hin
    obtain ⟨g, hg⟩ : ∃ g, p.fu[m]? = some g := ⟨p.fu[m], by simp⟩
    have hgo := H.fu g (List.mem_of_getElem? hg)
    obtain ⟨q, hq⟩ : ∃ q : Nat, g.pa = (q : Int) := ⟨g.pa.toNat, by have := hgo.pa; omega⟩
    have ht : (takesP p f i).n = q := by
      unfold takesP
      simp only [o22]
      simp only [hma, call_at hg, Must.n, parK, hq, Int.toNat_natCast]
      simp
      have := hgo.pa
      omega
    rw [ht] at hn hp ⊢
    have hu : ∀ top low, putsP p f i top low = .ok g.re := fun top low => by unfold putsP; simp [o22, hma, call_at hg]
    rw [hu] at hp
    cases hp
    exact of_bh (bh_22 Y i P hX hs o22 hma hg hq hn hgo.nr) (fun _ => rfl)
  by_cases o23 : i.o = 23
  · have hin : inB i.a p.ta.length = true := by unfold namesB at hnm; simpa [o23] using hnm
    obtain ⟨t, hta, htl⟩ := in_nat hin
    obtain ⟨tb, m0, g, h3, h4, h5, h6⟩ := table_at H htl
    have hgo := H.fu g (List.mem_of_getElem? h5)
    obtain ⟨q, hq⟩ : ∃ q : Nat, g.pa = (q : Int) := ⟨g.pa.toNat, by have := hgo.pa; omega⟩
    have ht : (takesP p f i).n = q + 1 := by
      unfold takesP
      simp only [o23]
      simp only [hta, h6, Must.n, parK, hq, Int.toNat_natCast]
      simp
      have := hgo.pa
      omega
    rw [ht] at hn hp ⊢
    have hu : ∀ top low, putsP p f i top low = .ok g.re := fun top low => by unfold putsP; simp [o23, hta, h6]
    rw [hu] at hp
    cases hp
    exact of_bh (bh_23 Y i P hX hs o23 (by omega) hta h3 h4 h5 hq hn hgo.nr) (fun _ => by
      rw [List.take_take, List.length_take]
      congr 2
      omega)
  have ho : i.o ≠ 1 ∧ i.o ≠ 2 ∧ i.o ≠ 3 ∧ i.o ≠ 4 ∧ i.o ≠ 5 ∧ i.o ≠ 10 ∧ i.o ≠ 25 ∧ i.o ≠ 26 ∧ i.o ≠ 6 ∧ i.o ≠ 7 ∧ i.o ≠ 8 ∧ i.o ≠ 11 ∧ i.o ≠ 12 ∧ i.o ≠ 13 ∧ i.o ≠ 14 ∧ i.o ≠ 15 ∧ i.o ≠ 16 ∧ i.o ≠ 17 ∧ i.o ≠ 18 ∧ i.o ≠ 20 ∧ i.o ≠ 19 ∧ i.o ≠ 21 ∧ i.o ≠ 22 ∧ i.o ≠ 23 ∧ i.o ≠ 29 := by omega
  refine of_bh (bh_0 Y i P hX hs ho) (fun hne => ?_)
  by_cases hr : i.o = 24 ∨ i.o = 27 ∨ i.o = 28
  · exfalso
    apply hne
    unfold nextsP
    rw [if_neg (by omega), if_neg (by omega), if_pos hr]
  · have ht : (takesP p f i).n = 0 := by
      have h1 : takesP p f i = .each [] := by
        unfold takesP
        repeat rw [if_neg (by omega)]
      rw [h1]
      rfl
    have hu : ∀ top low, putsP p f i top low = .ok [] := fun top low => by
      unfold putsP
      repeat rw [if_neg (by omega)]
    rw [ht] at hp ⊢
    rw [hu] at hp
    cases hp
    simp
end
end Go.Proofs.YtkdojpnihinpbaaDoor

namespace Go.Proofs.YtkdojpnihinpbaaDoor
open Go.RowKit
section
variable {w : World}
theorem nextm_any (w : World) {x : Nat} (hx : x ≤ 65536) (i : In3) : Calls Tryd.prog 33 #[.agg #[.int .i64 i.o, .int .i64 i.a, .int .i64 i.b], .int .i64 x] w (NwO w (nextsP i x)) := by
  have hw : IntKind.i64.wrap ((x : Int) + 1) = (x : Int) + 1 := by
    rw [show (x : Int) + 1 = ((x + 1 : Nat) : Int) by omega]
    exact wrap_nat (by omega)
  have HK := hide (show ∀ (W1 W : World) (ks : List Int) (T : TypeId) (g n : Nat) (C : Array Value), Below w.heap.size w W1 → w.heap.size ≤ W1.heap.size → W1.alloc (.cells C T) = W → C = (ks.map (Value.int .i64)).toArray → g = W1.heap.size → n = ks.length → ks.length ≤ 4096 → NwO w ks (.returned (.slice (some ⟨g, 0, none⟩) n n)) W from fun W1 W ks T g n C hb hs hW hC hg hn hl => by
    subst hW
    subst hC
    subst hg
    subst hn
    exact ⟨_, rfl, isAt_new (heap_new _ _ rfl) (by omega) hl, hb.alloc hs _⟩)
  clear hx
  by_cases h9 : i.o = 9
  · have HE := hide (show nextsP i x = [i.a] by unfold nextsP; rw [if_pos h9])
    have q9 : (i.o == 9) = true := by simpa using h9
    clear h9
    go_enter Tryd.func33, Tryd.ntmps33
    go_wp2
    go_ret
    rw [HE.out]
    exact HK.out (w.alloc (.cells #[.int .i64 i.o, .int .i64 i.a, .int .i64 i.b] 47)) _ [i.a] _ (w.heap.size + 1) 1 _ ((Below.refl _ _).alloc (Nat.le_refl _) _) (by simp) rfl rfl (by simp) rfl (by simp)
  · have q9 : (i.o == 9) = false := by simpa using h9
    by_cases h10 : i.o = 10
    · have HE := hide (show nextsP i x = [(x : Int) + 1, i.a] by unfold nextsP; rw [if_neg h9, if_pos h10])
      have q10 : (i.o == 10) = true := by simpa using h10
      clear h9 h10
      go_enter Tryd.func33, Tryd.ntmps33
      go_wp2
      go_ret
      rw [HE.out]
      exact HK.out (w.alloc (.cells #[.int .i64 i.o, .int .i64 i.a, .int .i64 i.b] 47)) _ [(x : Int) + 1, i.a] _ (w.heap.size + 1) 2 _ ((Below.refl _ _).alloc (Nat.le_refl _) _) (by simp) rfl rfl (by simp) rfl (by simp)
    · have q10 : (i.o == 10) = false := by simpa using h10
      by_cases hr : i.o = 24 ∨ i.o = 27 ∨ i.o = 28
      · have HE := hide (show nextsP i x = [] by unfold nextsP; rw [if_neg h9, if_neg h10, if_pos hr])
        have HF := hide (show NwO w [] (.returned (.slice none 0 0)) (w.alloc (.cells #[.int .i64 i.o, .int .i64 i.a, .int .i64 i.b] 47)) from ⟨_, rfl, isAt_none, (Below.refl _ _).alloc (Nat.le_refl _) _⟩)
        rcases hr with h | h | h
        all_goals (
          have r24 : (i.o == 24) = decide (i.o = 24) := rfl
          rw [h] at HF q9 q10 ⊢
          clear h9 h10 h
          go_enter Tryd.func33, Tryd.ntmps33
          go_wp2
          go_ret
          rw [HE.out]
          exact HF.out)
      · have HE := hide (show nextsP i x = [(x : Int) + 1] by unfold nextsP; rw [if_neg h9, if_neg h10, if_neg hr])
        have q24 : (i.o == 24) = false := by simp; omega
        have q27 : (i.o == 27) = false := by simp; omega
        have q28 : (i.o == 28) = false := by simp; omega
        clear h9 h10 hr
        go_enter Tryd.func33, Tryd.ntmps33
        go_wp2
        go_ret
        rw [HE.out]
        exact HK.out (w.alloc (.cells #[.int .i64 i.o, .int .i64 i.a, .int .i64 i.b] 47)) _ [(x : Int) + 1] _ (w.heap.size + 1) 1 _ ((Below.refl _ _).alloc (Nat.le_refl _) _) (by simp) rfl rfl (by simp) rfl (by simp)
/-- A safepoint: new, make, box, text, call, call through a table. -/
def safeB (o : Int) : Bool := decide (o = 11 ∨ o = 12 ∨ o = 19 ∨ o = 29 ∨ o = 22 ∨ o = 23)
theorem safe_any (w : World) (o : Int) : Calls Tryd.prog 19 #[.int .i64 o] w fun e w' => e = .returned (.bool (safeB o)) ∧ w' = w := by
  by_cases h11 : o = 11
  · subst h11; go_enter Tryd.func19, Tryd.ntmps19; go_wp2; go_ret; exact ⟨rfl, rfl⟩
  by_cases h12 : o = 12
  · subst h12; go_enter Tryd.func19, Tryd.ntmps19; go_wp2; go_ret; exact ⟨rfl, rfl⟩
  by_cases h19 : o = 19
  · subst h19; go_enter Tryd.func19, Tryd.ntmps19; go_wp2; go_ret; exact ⟨rfl, rfl⟩
  by_cases h29 : o = 29
  · subst h29; go_enter Tryd.func19, Tryd.ntmps19; go_wp2; go_ret; exact ⟨rfl, rfl⟩
  by_cases h22 : o = 22
  · subst h22; go_enter Tryd.func19, Tryd.ntmps19; go_wp2; go_ret; exact ⟨rfl, rfl⟩
  by_cases h23 : o = 23
  · subst h23; go_enter Tryd.func19, Tryd.ntmps19; go_wp2; go_ret; exact ⟨rfl, rfl⟩
  have HE := hide (show safeB o = false by simp [safeB, h11, h12, h19, h29, h22, h23])
  have q11 : (o == 11) = false := by simpa using h11
  have q12 : (o == 12) = false := by simpa using h12
  have q19 : (o == 19) = false := by simpa using h19
  have q29 : (o == 29) = false := by simpa using h29
  have q22 : (o == 22) = false := by simpa using h22
  have q23 : (o == 23) = false := by simpa using h23
  clear h11 h12 h19 h29 h22 h23
  go_enter Tryd.func19, Tryd.ntmps19
  go_wp2
  go_ret
  exact ⟨by rw [HE.out]; rfl, rfl⟩
end
end Go.Proofs.YtkdojpnihinpbaaDoor

namespace Go.Proofs.YtkdojpnihinpbaaDoor
open Go.RowKit
/-- The blocks that a way by a stack changes: what is ahead, what waits. -/
def Xw (ahb : Nat) (v : Value) (j : Nat) : Prop := j = ahb ∨ v.ownBlock = some j
abbrev wsV (ws : List Nat) : List Value := ws.map fun x : Nat => Value.int .i64 (x : Int)
structure AdM (E ahb D n : Nat) (w5 W : World) (A : List (Option (List Int))) (v : Value) (ws : List Nat) : Prop where
  ah : AhAt (Xw ahb v) E W ahb n A
  row : W.ownsRow D 3 1 v ws.length (wsV ws)
  kp : Kp (fun j => j = ahb ∨ D ≤ j) w5 W
  lo : ahb < D
  le : D ≤ W.heap.size
section
variable {E ahb D n : Nat} {w5 W W' : World} {A : List (Option (List Int))} {v v' : Value} {ws : List Nat} {b : Nat} {s : List Int}
theorem own_lt {D n : Nat} {xs : List Value} (h : W.ownsRow D 3 1 v n xs) {j : Nat} (hj : v.ownBlock = some j) : D ≤ j ∧ j < W.heap.size := by
  rcases h.2 with ⟨rfl, _⟩ | ⟨g, cap, cur, rfl, h1, h2, _⟩
  · cases hj
  · cases hj; exact ⟨h1, lt_of_block h2⟩
theorem AdM.ahlt (M : AdM E ahb D n w5 W A v ws) : ahb < W.heap.size := by
  obtain ⟨_, cs, _, h, _⟩ := M.ah
  exact lt_of_block h
theorem AdM.xlt (M : AdM E ahb D n w5 W A v ws) {B : Nat} (h1 : B ≤ ahb) (h2 : B ≤ D) {j : Nat} (h : Xw ahb v j) : B ≤ j ∧ j < W.heap.size := by
  rcases h with rfl | h
  · exact ⟨h1, M.ahlt⟩
  · have := own_lt M.row h
    omega
theorem AdM.below (M : AdM E ahb D n w5 W A v ws) (h : Below W.heap.size W W') : AdM E ahb D n w5 W' A v ws :=
  ⟨M.ah.keep (Kp.of_below h) (h.block _ M.ahlt), ownsRow_keep M.row (fun q hq => h.block q (own_lt M.row hq).2), M.kp.trans (Kp.of_below h), M.lo, Nat.le_trans M.le h.size⟩
theorem AdM.cell (M : AdM E ahb D n w5 W A v ws) {x : Nat} {o : Option (List Int)} (ho : A[x]? = some o) : ∃ c, W.cell? ⟨ahb, x, none⟩ = some c ∧ W.frozen? ⟨ahb, x, none⟩ = false ∧ AhC (Xw ahb v) E W o c := by
  obtain ⟨_, cs, h2, h3, h4⟩ := M.ah
  obtain ⟨c, c1, c2⟩ := h4 x o ho
  exact ⟨c, cell_of h3 (by simpa using c1), by simp [World.frozen?, h3], c2⟩
/-- One is taken from what waits. -/
theorem AdM.pop {x : Nat} (M : AdM E ahb D n w5 W A v (ws ++ [x])) : ∃ g cap, v = .slice (some ⟨g, 0, none⟩) (ws.length + 1) cap ∧ g < W.heap.size ∧ ws.length + 1 ≤ cap ∧ W.cell? ⟨g, ws.length, none⟩ = some (.int .i64 (x : Int)) ∧ AdM E ahb D n w5 W A (.slice (some ⟨g, 0, none⟩) ws.length cap) ws := by
  have hr := M.row
  rw [List.length_append, List.length_singleton] at hr
  rcases hr.2 with ⟨_, h⟩ | ⟨g, cap, cur, rfl, h1, h2, h3, h4, h5, h6⟩
  · omega
  · refine ⟨g, cap, rfl, lt_of_block h2, h3, ?_, ⟨M.ah, ⟨by simp, .inr ⟨g, cap, cur, rfl, h1, h2, by omega, h4, h5, ?_⟩⟩, M.kp, M.lo, M.le⟩⟩
    · refine cell_of h2 ?_
      have h7 : (cur.toList.take ((ws.length + 1) * 1))[ws.length]? = some (.int .i64 (x : Int)) := by rw [h6]; simp
      rw [List.getElem?_take, if_pos (by omega), Array.getElem?_toList] at h7
      exact h7
    · have h8 := congrArg (List.take ws.length) h6
      rw [List.take_take, Nat.mul_one, Nat.min_eq_left (by omega)] at h8
      rw [Nat.mul_one, h8]
      simp
theorem AdM.put {x : Nat} (M : AdM E ahb D n w5 W A v ws) (P : PileAt (Xw ahb v) W E b s) (hx : x < n) (hW : W.setCell ⟨ahb, x, none⟩ (pp b) = W') : AdM E ahb D n w5 W' (A.set x (some s)) v ws := by
  have hk : ∀ j, j ≠ ahb → W'.heap[j]? = W.heap[j]? := fun j hj => by rw [← hW]; exact Below.heap_setCell _ _ _ j hj
  refine ⟨M.ah.put (.inl rfl) hx P hW, ownsRow_keep M.row (fun q hq => hk q (by have := own_lt M.row hq; have := M.lo; omega)), M.kp.trans (Kp.set (.inl rfl) hW), M.lo, ?_⟩
  rw [← hW, World.size_setCell]
  exact M.le
theorem pile_up {g : Nat} (P : PileAt (Xw ahb v) W E b s) (hg : W.grownBy W' v.ownBlock) (hv : v.ownBlock = some g ∨ g = W.heap.size) (hv' : v'.ownBlock = some g) : PileAt (Xw ahb v') W' E b s := by
  have K : Kp (fun j => Xw ahb v j ∨ W.heap.size ≤ j) W W' := ⟨hg.os, hg.tape, hg.output, hg.size, fun j hj hx => hg.block j hj (fun h => hx (.inl (.inr h.symm)))⟩
  have h1 : PileAt (fun j => Xw ahb v j ∨ W.heap.size ≤ j) W E b s := P.sub fun j hj h => h.elim id (fun h => by omega)
  refine (h1.keep K).sub fun j _ h => ?_
  rcases h with h | h
  · exact .inl (.inl h)
  · rw [hv'] at h
    cases h
    rcases hv with h | h
    · exact .inl (.inr h)
    · exact .inr (Nat.le_of_eq h.symm)
theorem is_up {g : Nat} {u : Value} {ks : List Int} (P : IsAt (Xw ahb v) W u ks) (hg : W.grownBy W' v.ownBlock) (hv : v.ownBlock = some g ∨ g = W.heap.size) (hv' : v'.ownBlock = some g) : IsAt (Xw ahb v') W' u ks := by
  have K : Kp (fun j => Xw ahb v j ∨ W.heap.size ≤ j) W W' := ⟨hg.os, hg.tape, hg.output, hg.size, fun j hj hx => hg.block j hj (fun h => hx (.inl (.inr h.symm)))⟩
  have h1 : IsAt (fun j => Xw ahb v j ∨ W.heap.size ≤ j) W u ks := P.sub fun j hj h => h.elim id (fun h => by omega)
  refine (h1.keep K).sub fun j _ h => ?_
  rcases h with h | h
  · exact .inl (.inl h)
  · rw [hv'] at h
    cases h
    rcases hv with h | h
    · exact .inl (.inr h)
    · exact .inr (Nat.le_of_eq h.symm)
theorem ah_up {g : Nat} (P : AhAt (Xw ahb v) E W ahb n A) (hne : v.ownBlock ≠ some ahb) (hg : W.grownBy W' v.ownBlock) (hv : v.ownBlock = some g ∨ g = W.heap.size) (hv' : v'.ownBlock = some g) : AhAt (Xw ahb v') E W' ahb n A := by
  obtain ⟨h1, cs, h2, h3, h4⟩ := P
  refine ⟨h1, cs, h2, (hg.block ahb (lt_of_block h3) (fun h => hne h.symm)).trans h3, fun x o ho => ?_⟩
  obtain ⟨c, c1, c2⟩ := h4 x o ho
  refine ⟨c, c1, ?_⟩
  cases o with
  | none => exact c2
  | some t =>
    obtain ⟨b, e1, e2⟩ := c2
    exact ⟨b, e1, pile_up e2 hg hv hv'⟩
/-- One more waits: what the append leaves. -/
theorem AdM.push {x : Nat} (M : AdM E ahb D n w5 W A v ws) (hm : ws.length < 1000000) (hb : W.heap[b]? = some (.cells #[.int .i64 (x : Int)] 3 (0, 0))) :
    ∃ g cap W', (Builtin.append_ #[37, 37] 37 #[v, .slice (some ⟨b, 0, none⟩) 1 1]).run Tryd.prog W = .ok (.slice (some ⟨g, 0, none⟩) (ws.length + 1) cap) W' ∧ AdM E ahb D n w5 W' A (.slice (some ⟨g, 0, none⟩) (ws.length + 1) cap) (ws ++ [x]) ∧ W.grownBy W' v.ownBlock ∧ (v.ownBlock = some g ∨ g = W.heap.size) := by
  obtain ⟨g, cap, W', hrun, hown, hgrow, hg, hgl⟩ := run_app1 M.row hb (by omega) M.le
  refine ⟨g, cap, W', hrun, ⟨?_, ?_, ?_, M.lo, Nat.le_trans M.le hgrow.size⟩, hgrow, hg⟩
  · exact ah_up M.ah (fun h => by have := own_lt M.row h; have := M.lo; omega) hgrow hg rfl
  · rw [List.length_append, List.length_singleton]
    simpa [wsV] using hown
  · refine M.kp.trans ⟨hgrow.os, hgrow.tape, hgrow.output, hgrow.size, fun j hj hx => hgrow.block j hj (fun h => ?_)⟩
    have := own_lt M.row h.symm
    exact hx (.inr this.1)
end
end Go.Proofs.YtkdojpnihinpbaaDoor

namespace Go.Proofs.YtkdojpnihinpbaaDoor
open Go.RowKit
theorem ins_atM {B : Nat} {w : World} {v : Value} {l : List In3} (R : SlAt 3 InsP B w v l) {t : Nat} {x : In3} (hx : l[t]? = some x) : ∃ g o c, v = .slice (some ⟨g, o, none⟩) l.length c ∧ g < B ∧ w.cell? ⟨g, o + t * 3, none⟩ = some (.int .i64 x.o) ∧ w.cell? ⟨g, o + t * 3 + 1, none⟩ = some (.int .i64 x.a) ∧ w.cell? ⟨g, o + t * 3 + 2, none⟩ = some (.int .i64 x.b) := by
  obtain ⟨ao, cap, rfl, _, hel⟩ := R
  obtain ⟨g, o, cs, rfl, h2, h3, rfl, _⟩ := hel t x hx
  refine ⟨g, o, cap, rfl, h2, ?_, h3 1 _ rfl, h3 2 _ rfl⟩
  have := h3 0 _ rfl
  rwa [Nat.add_zero] at this
/-- How aheads ends. -/
def AdO (n : Nat) (M : List (Option (List Int))) (w : World) (e : Ending) (W : World) : Prop := ∃ (X : Nat → Prop) (E ahb : Nat), e = .returned (.slice (some ⟨ahb, 0, none⟩) n n) ∧ AhAt X E W ahb n M ∧ w.heap.size ≤ ahb ∧ Below w.heap.size w W
def AdR (p : Pg) (f : Fd) (M : List (Option (List Int))) (E ahb D n : Nat) (w5 : World) (K : Nat) (a : Value) (W : World) : Prop := ∃ A ws ao m cap, a = .slice ao m cap ∧ m = ws.length ∧ Df p f M A ws none [] [] ∧ Ms A ws < K ∧ K ≤ 2 * n + 1 ∧ AdM E ahb D n w5 W A a ws
def AdI (p : Pg) (f : Fd) (M : List (Option (List Int))) (E ahb D n x : Nat) (t bl nx : List Int) (na : Option Addr) (nc bb m0 : Nat) (w5 : World) (a i : Value) (W : World) : Prop := ∃ A ws ao m cap, ∃ j : Nat, a = .slice ao m cap ∧ m = ws.length ∧ i = .int .i64 (j : Int) ∧ j ≤ nx.length ∧ Df p f M A ws (some x) bl (nx.take j) ∧ A[x]? = some (some t) ∧ Ms A ws ≤ m0 ∧ AdM E ahb D n w5 W A a ws ∧ (nx ≠ [] → PileAt (Xw ahb a) W E bb bl) ∧ IsAt (Xw ahb a) W (.slice na nx.length nc) nx
section
variable {B : Nat} {w : World} {a1 a2 a3 a4 b1 b2 b3 b4 : Option Addr} {d1 d2 d3 d4 e1 e2 e3 e4 : Nat} {p : Pg} {f : Fd} {M : List (Option (List Int))}
set_option maxRecDepth 100000 in
set_option maxHeartbeats 4000000 in
theorem aheads_any (Y : WyAt B w (.slice a1 p.ty.length d1) (.slice a2 p.fu.length d2) (.slice a3 p.ta.length d3) (.slice a4 p.st.length d4) (.slice b1 f.lo.length e1) (.slice b2 f.re.length e2) (.slice b3 f.ar.length e3) (.slice b4 f.co.length e4) p f) (H : Hok p) (hf : FdOk p f) (C : Cl p f M) (hM : ∀ (y : Nat) (t : List Int), M[y]? = some (some t) → (∀ k ∈ t, isKB p.ty.length k = true) ∧ t.length ≤ 300000000) :
    Calls Tryd.prog 18 #[.agg #[.slice a1 p.ty.length d1, .slice a2 p.fu.length d2, .slice a3 p.ta.length d3, .slice a4 p.st.length d4], .agg #[.int .i64 f.pa, .slice b1 f.lo.length e1, .slice b2 f.re.length e2, .slice b3 f.ar.length e3, .slice b4 f.co.length e4]] w (AdO f.co.length M w) := by
  obtain ⟨W1, hW1⟩ : ∃ W1, ((w.alloc (.cells #[.slice a1 p.ty.length d1, .slice a2 p.fu.length d2, .slice a3 p.ta.length d3, .slice a4 p.st.length d4] 27)).alloc (.cells #[.int .i64 f.pa, .slice b1 f.lo.length e1, .slice b2 f.re.length e2, .slice b3 f.ar.length e3, .slice b4 f.co.length e4] 50)).alloc (.cells #[.slice a1 p.ty.length d1, .slice a2 p.fu.length d2, .slice a3 p.ta.length d3, .slice a4 p.st.length d4, .int .i64 f.pa, .slice b1 f.lo.length e1, .slice b2 f.re.length e2, .slice b3 f.ar.length e3, .slice b4 f.co.length e4] 89) = W1 := ⟨_, rfl⟩
  have z1 : W1.heap.size = w.heap.size + 3 := by rw [← hW1]; simp
  have bl1 : Below w.heap.size w W1 := by rw [← hW1]; exact (((Below.refl _ _).alloc (Nat.le_refl _) _).alloc (by simp) _).alloc (by simp; omega) _
  have hFb : W1.heap[w.heap.size + 1]? = some (.cells #[.int .i64 f.pa, .slice b1 f.lo.length e1, .slice b2 f.re.length e2, .slice b3 f.ar.length e3, .slice b4 f.co.length e4] 50 (0, 0)) := by rw [← hW1, Below.heap_alloc _ _ _ (by simp)]; exact heap_new _ _ (by simp)
  have hWb : W1.heap[w.heap.size + 1 + 1]? = some (.cells #[.slice a1 p.ty.length d1, .slice a2 p.fu.length d2, .slice a3 p.ta.length d3, .slice a4 p.st.length d4, .int .i64 f.pa, .slice b1 f.lo.length e1, .slice b2 f.re.length e2, .slice b3 f.ar.length e3, .slice b4 f.co.length e4] 89 (0, 0)) := by rw [← hW1]; exact heap_new _ _ (by simp)
  have hr := run_piles W1 f.co.length hf.nc
  obtain ⟨W2, hW2⟩ : ∃ W2, W1.alloc (.cells (List.replicate f.co.length (Value.pointer none)).toArray 64) = W2 := ⟨_, rfl⟩
  rw [hW2] at hr
  have z2 : W2.heap.size = W1.heap.size + 1 := by rw [← hW2]; simp
  have hA2 : W2.heap[W1.heap.size]? = some (.cells (List.replicate f.co.length (Value.pointer none)).toArray 64 (0, 0)) := by rw [← hW2]; exact heap_new _ _ rfl
  obtain ⟨W3, hW3⟩ : ∃ W3, W2.alloc (.cells #[.slice none 0 0, .pointer none, .int .i64 0] 91) = W3 := ⟨_, rfl⟩
  have z3 : W3.heap.size = W2.heap.size + 1 := by rw [← hW3]; simp
  have hE3 : W3.heap[W2.heap.size]? = some (.cells #[.slice none 0 0, .pointer none, .int .i64 0] 91 (0, 0)) := by rw [← hW3]; exact heap_new _ _ rfl
  have hA3 : W3.heap[W1.heap.size]? = some (.cells (List.replicate f.co.length (Value.pointer none)).toArray 64 (0, 0)) := by rw [← hW3, Below.heap_alloc _ _ _ (by omega)]; exact hA2
  have bl3 : Below W1.heap.size W1 W3 := by rw [← hW3, ← hW2]; exact ((Below.refl _ _).alloc (Nat.le_refl _) _).alloc (by simp) _
  obtain ⟨W4, hW4⟩ : ∃ W4, W3.setCell ⟨W1.heap.size, 0, none⟩ (pp W2.heap.size) = W4 := ⟨_, rfl⟩
  have z4 : W4.heap.size = W3.heap.size := by rw [← hW4]; exact World.size_setCell _ _ _
  obtain ⟨W5, hW5⟩ : ∃ W5, W4.alloc (.cells #[.int .i64 0] 3) = W5 := ⟨_, rfl⟩
  have hc0 := hf.co
  have hu0 : (List.replicate f.co.length (Value.pointer none)).toArray[0]? = some (.pointer none) := by rw [List.getElem?_toArray, List.getElem?_replicate, if_pos hc0]
  have c30 : W3.cell? ⟨W1.heap.size, 0, none⟩ = some (.pointer none) := cell_of hA3 hu0
  have f30 : W3.frozen? ⟨W1.heap.size, 0, none⟩ = false := by simp [World.frozen?, hA3]
  have hl3 : W1.heap.size < W3.heap.size := by omega
  have hl1 : w.heap.size + 1 < W1.heap.size := by omega
  have hl2 : w.heap.size + 1 + 1 < W1.heap.size := by omega
  have c14 : W1.cell? ⟨w.heap.size + 1, 4, none⟩ = some (.slice b4 f.co.length e4) := cell_of hFb rfl
  have M5 : AdM W2.heap.size W1.heap.size W4.heap.size f.co.length W4 W5 ((List.replicate f.co.length none).set 0 (some [])) (.slice (some ⟨W4.heap.size, 0, none⟩) 1 1) [0] := by
    have P3 : PileAt (fun j => j = W1.heap.size) W3 W2.heap.size W2.heap.size [] := .nil hE3 (by omega)
    have A3 : AhAt (fun j => j = W1.heap.size) W2.heap.size W3 W1.heap.size f.co.length (List.replicate f.co.length none) := by
      refine ⟨by simp, List.replicate f.co.length (.pointer none), by simp, hA3, fun x o ho => ?_⟩
      rw [List.getElem?_replicate] at ho
      split at ho
      · rename_i hx
        cases ho
        exact ⟨.pointer none, by rw [List.getElem?_replicate, if_pos hx], rfl⟩
      · cases ho
    have A4 := A3.put rfl hc0 P3 hW4
    have b5 : Below W4.heap.size W4 W5 := by rw [← hW5]; exact (Below.refl _ _).alloc (Nat.le_refl _) _
    have hA4 : W1.heap.size < W4.heap.size := by omega
    have n5 : W5.heap[W4.heap.size]? = some (.cells #[.int .i64 0] 3 (0, 0)) := by rw [← hW5]; exact heap_new _ _ rfl
    have A5 : AhAt (fun j => j = W1.heap.size ∨ W4.heap.size ≤ j) W2.heap.size W5 W1.heap.size f.co.length ((List.replicate f.co.length none).set 0 (some [])) := by
      obtain ⟨h1, cs, h2, h3, h4⟩ := A4
      refine ⟨h1, cs, h2, (b5.block _ (lt_of_block h3)).trans h3, fun x o ho => ?_⟩
      obtain ⟨c, c1, c2⟩ := h4 x o ho
      refine ⟨c, c1, ?_⟩
      cases o with
      | none => exact c2
      | some t =>
        obtain ⟨b, e1, e2⟩ := c2
        exact ⟨b, e1, (e2.sub (fun j hj h => h.elim id (fun h => by omega))).keep (Kp.of_below b5)⟩
    refine ⟨?_, ⟨by simp, .inr ⟨W4.heap.size, 1, #[.int .i64 0], rfl, Nat.le_refl _, n5, Nat.le_refl _, by unfold maxLen; omega, rfl, rfl⟩⟩, Kp.of_below b5, hA4, b5.size⟩
    obtain ⟨h1, cs, h2, h3, h4⟩ := A5
    refine ⟨h1, cs, h2, h3, fun x o ho => ?_⟩
    obtain ⟨c, c1, c2⟩ := h4 x o ho
    refine ⟨c, c1, ?_⟩
    cases o with
    | none => exact c2
    | some t =>
      obtain ⟨b, e1, e2⟩ := c2
      refine ⟨b, e1, e2.sub fun j _ h => ?_⟩
      rcases h with h | h
      · exact .inl h
      · cases h; exact .inr (Nat.le_refl _)
  obtain ⟨D5, hms⟩ := Df.start C hc0
  have HB4 := hide (show ∀ W : World, Kp (fun j => j = W1.heap.size ∨ W4.heap.size ≤ j) W4 W → Below W1.heap.size W1 W from fun W h => by
    have h4 : Below W1.heap.size W1 W4 := by rw [← hW4]; exact bl3.setCell (Nat.le_refl _) _
    exact ⟨h.os.trans h4.os, h.tape.trans h4.tape, h.output.trans h4.output, Nat.le_trans h4.size h.size, fun j hj => (h.block j (Nat.lt_of_lt_of_le hj h4.size) (by omega)).trans (h4.block j hj)⟩)
  have HB1 := hide bl1
  have HY := hide (show ∀ W : World, Below W1.heap.size W1 W → WyAt B W (.slice a1 p.ty.length d1) (.slice a2 p.fu.length d2) (.slice a3 p.ta.length d3) (.slice a4 p.st.length d4) (.slice b1 f.lo.length e1) (.slice b2 f.re.length e2) (.slice b3 f.ar.length e3) (.slice b4 f.co.length e4) p f from fun W h => (Y.below bl1).below h)
  have HWB := hide (show ∀ W : World, Below W1.heap.size W1 W → W.heap[w.heap.size + 1 + 1]? = some (.cells #[.slice a1 p.ty.length d1, .slice a2 p.fu.length d2, .slice a3 p.ta.length d3, .slice a4 p.st.length d4, .int .i64 f.pa, .slice b1 f.lo.length e1, .slice b2 f.re.length e2, .slice b3 f.ar.length e3, .slice b4 f.co.length e4] 89 (0, 0)) from fun W h => (h.block _ hl2).trans hWb)
  have HFB := hide (show ∀ W : World, Below W1.heap.size W1 W → W.cell? ⟨w.heap.size + 1, 4, none⟩ = some (.slice b4 f.co.length e4) ∧ w.heap.size + 1 < W.heap.size from fun W h => ⟨(h.cell (p := ⟨w.heap.size + 1, 4, none⟩) hl1).trans c14, Nat.lt_of_lt_of_le hl1 h.size⟩)
  have HBL := hide (show B ≤ W1.heap.size ∧ B ≤ W4.heap.size from by have := Y.hB; omega)
  have HM5 := hide M5
  have HD5 := hide D5
  have HMS := hide hms
  have HC := hide C
  have HMB := hide hM
  have HNC := hide hf.nc
  have HZ1 := hide z1
  clear Y C hM M5 D5 hms bl1 bl3 hFb hWb hA2 hA3 hE3 z1 z2 z3 z4 hu0
  have HH := hide H
  have HHF := hide hf
  clear H hf
  obtain ⟨n, hn⟩ : ∃ n, f.co.length = n := ⟨_, rfl⟩
  have HN := hide hn
  rw [hn] at HM5 HD5 HMS HNC hr hW1 hW2 hc0 c14 ⊢
  have d0 : decide (0 < n) = true := by simpa using hc0
  have HFN := hide (show ∀ W : World, Below W1.heap.size W1 W → W.cell? ⟨w.heap.size + 1, 4, none⟩ = some (.slice b4 n e4) ∧ w.heap.size + 1 < W.heap.size from fun W h => hn ▸ HFB.out W h)
  clear HFB
  go_enter Tryd.func18, Tryd.ntmps18
  go_wp2
  go_loopg [7] (2 * n + 1) (fun K a wr => Hid (AdR p f M W2.heap.size W1.heap.size W4.heap.size n W4 K a wr))
  case atStart => exact hide ⟨_, _, _, _, _, rfl, rfl, HD5.out, Nat.lt_succ_of_le HMS.out, Nat.le_refl _, HM5.out⟩
  case round =>
    clear HM5 HD5 HMS hr hW2 hW3 hW4 hW5 c30 f30 hl3 d0 c14
    obtain ⟨A, ws, ao, m, cap0, rfl, hm, hD, hms, hgk, hA⟩ := hrel.out
    clear hrel
    have hwl : ws.length < 200000 := by
      have h1 := HNC.out
      unfold Ms at hms
      omega
    have HWL := hide hwl
    rcases List.eq_nil_or_concat ws with rfl | ⟨ws', x, hws⟩
    · obtain rfl : m = 0 := hm
      have HE := hide (show AdO n M w (.returned (.slice (some ⟨W1.heap.size, 0, none⟩) n n)) wr from ⟨_, W2.heap.size, W1.heap.size, rfl, hD.fin HC.out ▸ hA.ah, by have := HZ1.out; omega, bel_tr HB1.out (HB4.out wr hA.kp)⟩)
      have d1 : decide ((0 : Int) < 0) = false := by decide
      clear hD hms hgk hA hwl
      go_wp2
      go_ret
      exact HE.out
    · rw [List.concat_eq_append] at hws
      subst hws
      obtain ⟨g, cap, hv, hg, hcap, hc, hMA⟩ := hA.pop
      cases hv
      clear hm
      obtain ⟨t, cc, ns, hAx, hMx, hlk, hput, hD1, hms1⟩ := hD.take HC.out
      have hxn : x < f.co.length := by have := get_lt hMx; rwa [HC.out.len] at this
      obtain ⟨ii, hii⟩ : ∃ i, f.co[x]? = some i := ⟨f.co[x], by simp⟩
      have hco : coAt f x = ii := by unfold coAt; rw [hii]; rfl
      rw [hco] at hlk
      have hB4 := HB4.out wr hA.kp
      obtain ⟨gc, oc, ec, hv4, hgc, i0, i1, i2⟩ := ins_atM (HY.out wr hB4).co hii
      cases hv4
      obtain ⟨cx, hcx, _, hax⟩ := hMA.cell hAx
      obtain ⟨bx, rfl, hpx⟩ := hax
      obtain ⟨hkt, hlt⟩ := HMB.out x t hMx
      have HBH := hide (show Calls Tryd.prog 32 #[.agg #[.slice a1 p.ty.length d1, .slice a2 p.fu.length d2, .slice a3 p.ta.length d3, .slice a4 p.st.length d4, .int .i64 f.pa, .slice b1 f.lo.length e1, .slice b2 f.re.length e2, .slice b3 f.ar.length e3, .slice (some ⟨gc, oc, none⟩) n e4], .agg #[.int .i64 ii.o, .int .i64 ii.a, .int .i64 ii.b], pp bx] wr.drew (BfO (Xw W1.heap.size (.slice (some ⟨g, 0, none⟩) ws'.length cap0)) W2.heap.size cc ns wr.drew) from by
        have h := behind_any (HY.out wr.drew (below_drew hB4)) HH.out HHF.out (hpx.keep (Kp.drew _ _)) (fun j hj => hMA.xlt HBL.out.1 HBL.out.2 hj) (by omega) hkt hlk
        rw [HN.out] at h
        exact h)
      have HNX := hide (show ns = nextsP ii x from (look_ok hlk).2.2.2.2)
      have HGC := hide hgc
      have HCL := hide (show ∀ W : World, Below wr.heap.size wr W → (fun W => W.cell? ⟨w.heap.size + 1 + 1, 0, none⟩ = some (.slice a1 p.ty.length d1) ∧ W.cell? ⟨w.heap.size + 1 + 1, 1, none⟩ = some (.slice a2 p.fu.length d2) ∧ W.cell? ⟨w.heap.size + 1 + 1, 2, none⟩ = some (.slice a3 p.ta.length d3) ∧ W.cell? ⟨w.heap.size + 1 + 1, 3, none⟩ = some (.slice a4 p.st.length d4) ∧ W.cell? ⟨w.heap.size + 1 + 1, 4, none⟩ = some (.int .i64 f.pa) ∧ W.cell? ⟨w.heap.size + 1 + 1, 5, none⟩ = some (.slice b1 f.lo.length e1) ∧ W.cell? ⟨w.heap.size + 1 + 1, 6, none⟩ = some (.slice b2 f.re.length e2) ∧ W.cell? ⟨w.heap.size + 1 + 1, 7, none⟩ = some (.slice b3 f.ar.length e3) ∧ W.cell? ⟨w.heap.size + 1 + 1, 8, none⟩ = some (.slice (some ⟨gc, oc, none⟩) n e4) ∧ W.cell? ⟨w.heap.size + 1, 4, none⟩ = some (.slice (some ⟨gc, oc, none⟩) n e4) ∧ W.cell? ⟨gc, oc + x * 3, none⟩ = some (.int .i64 ii.o) ∧ W.cell? ⟨gc, oc + x * 3 + 1, none⟩ = some (.int .i64 ii.a) ∧ W.cell? ⟨gc, oc + x * 3 + 2, none⟩ = some (.int .i64 ii.b) ∧ W.cell? ⟨W1.heap.size, x, none⟩ = some (pp bx)) W from fun W h => by
        have h1 := HWB.out W (bel_tr hB4 h)
        have hgw : gc < wr.heap.size := Nat.lt_of_lt_of_le hgc (Nat.le_trans HBL.out.1 hB4.size)
        have hx1 : W1.heap.size < wr.heap.size := hMA.ahlt
        refine ⟨cell_of h1 rfl, cell_of h1 rfl, cell_of h1 rfl, cell_of h1 rfl, cell_of h1 rfl, cell_of h1 rfl, cell_of h1 rfl, cell_of h1 rfl, ?_, (HFN.out W (bel_tr hB4 h)).1, (h.cell (p := ⟨gc, oc + x * 3, none⟩) hgw).trans i0, (h.cell (p := ⟨gc, oc + x * 3 + 1, none⟩) hgw).trans i1, (h.cell (p := ⟨gc, oc + x * 3 + 2, none⟩) hgw).trans i2, (h.cell (p := ⟨W1.heap.size, x, none⟩) hx1).trans hcx⟩
        rw [← HN.out]
        exact cell_of h1 rfl)
      have HB4W := hide hB4
      have HMA := hide hMA
      have HD1 := hide hD1
      have HAX := hide hAx
      have HMS1 := hide (show Ms A ws' + 1 < gk from by omega)
      have HLK := hide (show lookP p f x (coAt f x) t = .ok (cc, ns) from hco.symm ▸ hlk)
      have HPT := hide hput
      have HGK := hide hgk
      rw [List.length_append, List.length_singleton] at hwl HWL
      have dn : x < n := by rw [← HN.out]; exact hxn
      have dn2 : decide (x < n) = true := by simpa using dn
      have hl32 : (ws'.length : Int) < 200000 := by omega
      have hgw2 : gc < wr.heap.size := Nat.lt_of_lt_of_le hgc (Nat.le_trans HBL.out.1 hB4.size)
      have hx2 : W1.heap.size < wr.heap.size := hMA.ahlt
      have hwb : w.heap.size + 1 + 1 < wr.heap.size := lt_of_block (HWB.out wr hB4)
      have hfb : w.heap.size + 1 < wr.heap.size := (HFN.out wr hB4).2
      clear hA hD hms hgk hMA hD1 hms1 hAx hMx hlk hput hxn hii hco hB4 hgc i0 i1 i2 hcx hpx hkt hlt
      go_wp2_with fail
      refine wp_region_held_drew (S := (fun W => W.cell? ⟨w.heap.size + 1 + 1, 0, none⟩ = some (.slice a1 p.ty.length d1) ∧ W.cell? ⟨w.heap.size + 1 + 1, 1, none⟩ = some (.slice a2 p.fu.length d2) ∧ W.cell? ⟨w.heap.size + 1 + 1, 2, none⟩ = some (.slice a3 p.ta.length d3) ∧ W.cell? ⟨w.heap.size + 1 + 1, 3, none⟩ = some (.slice a4 p.st.length d4) ∧ W.cell? ⟨w.heap.size + 1 + 1, 4, none⟩ = some (.int .i64 f.pa) ∧ W.cell? ⟨w.heap.size + 1 + 1, 5, none⟩ = some (.slice b1 f.lo.length e1) ∧ W.cell? ⟨w.heap.size + 1 + 1, 6, none⟩ = some (.slice b2 f.re.length e2) ∧ W.cell? ⟨w.heap.size + 1 + 1, 7, none⟩ = some (.slice b3 f.ar.length e3) ∧ W.cell? ⟨w.heap.size + 1 + 1, 8, none⟩ = some (.slice (some ⟨gc, oc, none⟩) n e4) ∧ W.cell? ⟨w.heap.size + 1, 4, none⟩ = some (.slice (some ⟨gc, oc, none⟩) n e4) ∧ W.cell? ⟨gc, oc + x * 3, none⟩ = some (.int .i64 ii.o) ∧ W.cell? ⟨gc, oc + x * 3 + 1, none⟩ = some (.int .i64 ii.a) ∧ W.cell? ⟨gc, oc + x * 3 + 2, none⟩ = some (.int .i64 ii.b) ∧ W.cell? ⟨W1.heap.size, x, none⟩ = some (pp bx))) (by kernel_rfl) (HCL.out _ (below_drew (Below.refl _ _))) (fun hHeld1 => ?_)
      refine wpAnyH_take (i := 0) (oi := { dst := some 38, op := Go.Op.load 89 (Go.Operand.tmp 5), type := 89, pos := "way.go:24", after := #[], guard := none }) (v := ?v2) rfl (by kernel_rfl) (by kernel_rfl) (by kernel_rfl) (fun _ _ _ h => h) (Or.inl ⟨by rfl, ?hy2⟩) (by assumption) ?_
      case hy2 => (intro W hSw; (try dsimp only at hSw); go_simp; try with_reducible rfl)
      try simp only [Act.put, List.setIfInBounds_toArray, List.set_cons_zero, List.set_cons_succ]
      refine wpAnyH_take (i := 1) (oi := { dst := some 39, op := Go.Op.fieldAddr 50 (Go.Operand.tmp 3) 4, type := 0, pos := "way.go:24", after := #[], guard := none }) (v := ?v3) rfl (by kernel_rfl) (by kernel_rfl) (by kernel_rfl) (fun _ _ _ h => h) (Or.inl ⟨by rfl, ?hy3⟩) (by assumption) ?_
      case hy3 => (intro W hSw; (try dsimp only at hSw); go_simp; try with_reducible rfl)
      try simp only [Act.put, List.setIfInBounds_toArray, List.set_cons_zero, List.set_cons_succ]
      refine wpAnyH_take (i := 2) (oi := { dst := some 40, op := Go.Op.load 48 (Go.Operand.tmp 39), type := 48, pos := "way.go:24", after := #[{ on := 1, ground := Go.Ground.data }], guard := none }) (v := ?v4) rfl (by kernel_rfl) (by kernel_rfl) (by kernel_rfl) (fun _ _ _ h => h) (Or.inl ⟨by rfl, ?hy4⟩) (by assumption) ?_
      case hy4 => (intro W hSw; (try dsimp only at hSw); go_simp; try with_reducible rfl)
      try simp only [Act.put, List.setIfInBounds_toArray, List.set_cons_zero, List.set_cons_succ]
      refine wpAnyH_take (i := 3) (oi := { dst := some 41, op := Go.Op.move (Go.Operand.tmp 9), type := 3, pos := "way.go:24", after := #[], guard := none }) (v := ?v5) rfl (by kernel_rfl) (by kernel_rfl) (by kernel_rfl) (fun _ _ _ h => h) (Or.inl ⟨by rfl, ?hy5⟩) (by assumption) ?_
      case hy5 => (intro W hSw; (try dsimp only at hSw); go_simp; try with_reducible rfl)
      try simp only [Act.put, List.setIfInBounds_toArray, List.set_cons_zero, List.set_cons_succ]
      refine wpAnyH_take (i := 4) (oi := { dst := some 42, op := Go.Op.indexAddr 48 (Go.Operand.tmp 40) (Go.Operand.tmp 41), type := 0, pos := "way.go:24", after := #[{ on := 2, ground := Go.Ground.data }, { on := 3, ground := Go.Ground.data }], guard := none }) (v := ?v6) rfl (by kernel_rfl) (by kernel_rfl) (by kernel_rfl) (fun _ _ _ h => h) (Or.inl ⟨by rfl, ?hy6⟩) (by assumption) ?_
      case hy6 => (intro W hSw; (try dsimp only at hSw); go_simp; try with_reducible rfl)
      try simp only [Act.put, List.setIfInBounds_toArray, List.set_cons_zero, List.set_cons_succ]
      refine wpAnyH_take (i := 5) (oi := { dst := some 43, op := Go.Op.load 47 (Go.Operand.tmp 42), type := 47, pos := "way.go:24", after := #[{ on := 4, ground := Go.Ground.data }], guard := none }) (v := ?v7) rfl (by kernel_rfl) (by kernel_rfl) (by kernel_rfl) (fun _ _ _ h => h) (Or.inl ⟨by rfl, ?hy7⟩) (by assumption) ?_
      case hy7 => (intro W hSw; (try dsimp only at hSw); go_simp; try with_reducible rfl)
      try simp only [Act.put, List.setIfInBounds_toArray, List.set_cons_zero, List.set_cons_succ]
      refine wpAnyH_take (i := 6) (oi := { dst := some 44, op := Go.Op.move (Go.Operand.tmp 6), type := 62, pos := "way.go:24", after := #[], guard := none }) (v := ?v8) rfl (by kernel_rfl) (by kernel_rfl) (by kernel_rfl) (fun _ _ _ h => h) (Or.inl ⟨by rfl, ?hy8⟩) (by assumption) ?_
      case hy8 => (intro W hSw; (try dsimp only at hSw); go_simp; try with_reducible rfl)
      try simp only [Act.put, List.setIfInBounds_toArray, List.set_cons_zero, List.set_cons_succ]
      refine wpAnyH_take (i := 7) (oi := { dst := some 45, op := Go.Op.move (Go.Operand.tmp 9), type := 3, pos := "way.go:24", after := #[], guard := none }) (v := ?v9) rfl (by kernel_rfl) (by kernel_rfl) (by kernel_rfl) (fun _ _ _ h => h) (Or.inl ⟨by rfl, ?hy9⟩) (by assumption) ?_
      case hy9 => (intro W hSw; (try dsimp only at hSw); go_simp; try with_reducible rfl)
      try simp only [Act.put, List.setIfInBounds_toArray, List.set_cons_zero, List.set_cons_succ]
      refine wpAnyH_take (i := 8) (oi := { dst := some 46, op := Go.Op.indexAddr 62 (Go.Operand.tmp 44) (Go.Operand.tmp 45), type := 0, pos := "way.go:24", after := #[{ on := 6, ground := Go.Ground.data }, { on := 7, ground := Go.Ground.data }], guard := none }) (v := ?v10) rfl (by kernel_rfl) (by kernel_rfl) (by kernel_rfl) (fun _ _ _ h => h) (Or.inl ⟨by rfl, ?hy10⟩) (by assumption) ?_
      case hy10 => (intro W hSw; (try dsimp only at hSw); go_simp; try with_reducible rfl)
      try simp only [Act.put, List.setIfInBounds_toArray, List.set_cons_zero, List.set_cons_succ]
      refine wpAnyH_take (i := 9) (oi := { dst := some 47, op := Go.Op.load 64 (Go.Operand.tmp 46), type := 64, pos := "way.go:24", after := #[{ on := 8, ground := Go.Ground.data }], guard := none }) (v := ?v11) rfl (by kernel_rfl) (by kernel_rfl) (by kernel_rfl) (fun _ _ _ h => h) (Or.inl ⟨by rfl, ?hy11⟩) (by assumption) ?_
      case hy11 => (intro W hSw; (try dsimp only at hSw); go_simp; try with_reducible rfl)
      try simp only [Act.put, List.setIfInBounds_toArray, List.set_cons_zero, List.set_cons_succ]
      refine wpAnyH_ready (rs := [10]) (by kernel_rfl) (by simp) ?_
      refine AllReadyH.cons (o := { dst := some 48, op := Go.Op.call { callee := Go.Callee.value (Go.Operand.func 32), args := #[Go.Operand.tmp 38, Go.Operand.tmp 43, Go.Operand.tmp 47], argTypes := #[89, 47, 64] }, type := 64, pos := "way.go:24", after := #[{ on := 0, ground := Go.Ground.data }, { on := 5, ground := Go.Ground.data }, { on := 9, ground := Go.Ground.data }], guard := none }) rfl (fun K hK => ?_) AllReadyH.nil
      go_simp
      go_at_call 32
      refine HBH.out.mono ?_
      rintro e w6 ⟨b6, l6, rfl, hp6, hb6, hl6⟩
      have HB6 := hide (show Below wr.heap.size wr w6 from bel_tr (below_drew (Below.refl _ _)) hb6)
      have HP6 := hide hp6
      have HL6 := hide hl6
      clear hb6 hp6 hl6
      go_wp2_with fail
      refine hK.out _ _ (HCL.out w6 HB6.out) (fun hHeld12 => ?_)
      clear hK K
      try simp only [Act.put, List.setIfInBounds_toArray, List.set_cons_zero, List.set_cons_succ]
      refine wpAnyH_take (i := 11) (oi := { dst := some 10, op := Go.Op.assign (Go.Operand.tmp 48), type := 64, pos := "way.go:24", after := #[{ on := 10, ground := Go.Ground.data }, { on := 10, ground := Go.Ground.chain }, { on := 0, ground := Go.Ground.phase }, { on := 1, ground := Go.Ground.phase }, { on := 2, ground := Go.Ground.phase }, { on := 3, ground := Go.Ground.phase }, { on := 4, ground := Go.Ground.phase }, { on := 5, ground := Go.Ground.phase }, { on := 6, ground := Go.Ground.phase }, { on := 7, ground := Go.Ground.phase }, { on := 8, ground := Go.Ground.phase }, { on := 9, ground := Go.Ground.phase }, { on := 10, ground := Go.Ground.phase }], guard := none }) (v := ?v13) rfl (by kernel_rfl) (by kernel_rfl) (by kernel_rfl) (fun _ _ _ h => h) (Or.inl ⟨by rfl, ?hy13⟩) (by assumption) ?_
      case hy13 => (intro W hSw; (try dsimp only at hSw); go_simp; try with_reducible rfl)
      try simp only [Act.put, List.setIfInBounds_toArray, List.set_cons_zero, List.set_cons_succ]
      refine wpAnyH_done (by kernel_rfl) ?_ _
      have hk6 := HCL.out w6 HB6.out
      obtain ⟨_, _, _, _, _, _, _, _, _, j0, j1, j2, j3, j4⟩ := hk6
      have hgw6 : gc < w6.heap.size := Nat.lt_of_lt_of_le hgw2 HB6.out.size
      have hfb6 : w.heap.size + 1 < w6.heap.size := Nat.lt_of_lt_of_le hfb HB6.out.size
      have HNT := hide (nextm_any w6 (x := x) (by have := HNC.out; omega) ii)
      rw [← HNX.out] at HNT
      clear HBH
      go_wp2_with fail
      refine HNT.out.mono ?_
      rintro e w7 ⟨nv, rfl, hI7, hb7⟩
      have hI8 := hI7
      obtain ⟨na, nc, hnv, _, _, _⟩ := hI8
      subst hnv
      have hA7 := (HMA.out.below HB6.out).below hb7
      have HA7 := hide hA7
      have HP7 := hide (show ns ≠ [] → PileAt (Xw W1.heap.size (.slice (some ⟨g, 0, none⟩) ws'.length cap0)) w7 W2.heap.size b6 cc from fun hne => by
        have h := HP6.out.keep (Kp.of_below hb7)
        rw [HL6.out hne] at h
        exact h)
      have HI7 := hide (show IsAt (Xw W1.heap.size (.slice (some ⟨g, 0, none⟩) ws'.length cap0)) w7 (.slice na ns.length nc) ns from hI7.sub fun j _ hx => ((HMA.out.below HB6.out).xlt HBL.out.1 HBL.out.2 hx).2)
      have HNL := hide (show ns.length ≤ 2 from by rw [HNX.out]; unfold nextsP; split; simp; split; simp; split <;> simp)
      have HB7 := hide (bel_tr HB6.out hb7)
      clear hI7 hA7 hb7 HNT hgw6 hfb6 j0 j1 j2 j3 j4 HP6 HL6
      obtain ⟨nl, hnl⟩ : ∃ nl, ns.length = nl := ⟨_, rfl⟩
      have HLL := hide hnl
      rw [hnl] at HNL HI7 ⊢
      go_wp2
      go_loopw [7, 57] (fun a i wr' => AdI p f M W2.heap.size W1.heap.size W4.heap.size n x t cc ns na nc b6 (Ms A ws') W4 a i wr') (fun _ i _ => nl - (intOf i).toNat)
      case atStart => exact ⟨A, ws', _, _, _, 0, rfl, rfl, rfl, Nat.zero_le _, HD1.out, HAX.out, Nat.le_refl _, HA7.out, HP7.out, by rw [hnl]; exact HI7.out⟩
      case round =>
        obtain ⟨A2, ws2, ao2, m2, cap2, j, rfl, hm2, rfl, hj, hD2, hx2', hms2, hA2, hP2, hI2⟩ := hrel
        rw [HLL.out] at hj
        have hwl2 : ws2.length < 200000 := by
          have h1 := HNC.out
          have h2 := HMS1.out
          have h3 := HGK.out
          have h4 : ws2.length ≤ Ms A2 ws2 := by unfold Ms; omega
          omega
        by_cases hlt : j < nl
        · obtain ⟨y, hy⟩ : ∃ y, ns[j]? = some y := ⟨ns[j]'(by rw [HLL.out]; exact hlt), by simp⟩
          obtain ⟨m, rfl, hMm⟩ := HPT.out y (List.mem_of_getElem? hy)
          have hmn0 : m < f.co.length := by have := get_lt hMm; rwa [HC.out.len] at this
          have hmn : m < n := by rw [← HN.out]; exact hmn0
          have hI3 := hI2
          obtain ⟨ao3, cap3, hv3, _, _, hel⟩ := hI3
          cases hv3
          obtain ⟨gn, on, rfl, hgn, _, hcn⟩ := hel j _ hy
          have hne : ns ≠ [] := fun h => by rw [h] at hy; cases hy
          obtain ⟨o, ho⟩ : ∃ o, A2[m]? = some o := ⟨A2[m]'(by rw [hD2.len]; exact hmn0), by simp⟩
          obtain ⟨c, hcc, hfz, hac⟩ := hA2.cell ho
          have htk : ns.take j ++ [(m : Int)] = ns.take (j + 1) := by rw [List.take_add_one, hy]; rfl
          have d1 : decide (j < nl) = true := by simpa using hlt
          have dj : (j : Int) ≤ 2 := by have := HNL.out; omega
          have dm : decide (m < n) = true := by simpa using hmn
          have hahl := hA2.ahlt
          cases o with
          | some u =>
            obtain ⟨bu, rfl, _⟩ := hac
            have HD3 := hide (htk ▸ hD2.seen hMm ho)
            have HR := hide (show AdI p f M W2.heap.size W1.heap.size W4.heap.size n x t cc ns (some ⟨gn, on, none⟩) nc b6 (Ms A ws') W4 (.slice ao2 m2 cap2) (.int .i64 ((j + 1 : Nat) : Int)) wr from ⟨A2, ws2, _, _, _, j + 1, rfl, hm2, rfl, by rw [HLL.out]; exact hlt, HD3.out, hx2', hms2, hA2, hP2, hI2⟩)
            clear hD2 hx2' hms2 hA2 hP2 hI2 hel hy hMm ho htk HD3
            go_wp2
            go_roundw
            case rel => exact HR.out
            case measure => first | exact meas_int hlt (by omega) | (rw [intOf_int, intOf_int]; omega)
          | none =>
            have hac2 : c = .pointer none := hac
            subst hac2
            obtain ⟨V1, hV1⟩ : ∃ V1, wr.setCell ⟨W1.heap.size, m, none⟩ (pp b6) = V1 := ⟨_, rfl⟩
            obtain ⟨V2, hV2⟩ : ∃ V2, V1.alloc (.cells #[.int .i64 (m : Int)] 3) = V2 := ⟨_, rfl⟩
            have b12 : Below V1.heap.size V1 V2 := by rw [← hV2]; exact (Below.refl _ _).alloc (Nat.le_refl _) _
            have K1 : Kp (Xw W1.heap.size (.slice ao2 m2 cap2)) wr V1 := Kp.set (.inl rfl) hV1
            have A4 := (hA2.put (hP2 hne) hmn hV1).below b12
            obtain ⟨hD3, hms3⟩ := hD2.new hMm ho
            obtain ⟨g4, cap4, V3, hrun, A5, hgrow, hg4⟩ := A4.push (b := V1.heap.size) (x := m) (by omega) (by rw [← hV2]; exact heap_new _ _ rfl)
            have hxm : (A2.set m (some cc))[x]? = some (some t) := by
              rw [List.getElem?_set]
              split
              · rename_i e
                subst e
                rw [ho] at hx2'
                cases hx2'
              · exact hx2'
            have HR := hide (show AdI p f M W2.heap.size W1.heap.size W4.heap.size n x t cc ns (some ⟨gn, on, none⟩) nc b6 (Ms A ws') W4 (.slice (some ⟨g4, 0, none⟩) (m2 + 1) cap4) (.int .i64 ((j + 1 : Nat) : Int)) V3 from ⟨A2.set m (some cc), ws2 ++ [m], _, _, _, j + 1, rfl, by rw [List.length_append, List.length_singleton, hm2], rfl, by rw [HLL.out]; exact hlt, htk ▸ hD3, hxm, by omega, hm2 ▸ A5, fun _ => pile_up (((hP2 hne).keep K1).keep (Kp.of_below b12)) hgrow hg4 rfl, is_up ((hI2.keep K1).keep (Kp.of_below b12)) hgrow hg4 rfl⟩)
            rw [← hm2] at hrun
            have dm2 : (m2 : Int) < 200000 := by omega
            clear hD2 hx2' hms2 hA2 hP2 hI2 hel hy hMm ho htk hD3 hms3 A4 A5 hgrow hg4 hxm K1 b12 hm2 hwl2 hac
            go_wp2_with (at_builtin; refine wpList_append_eq rfl _ _ 37 37 rfl rfl rfl hrun ?_; clear hrun)
            go_roundw
            case rel => exact HR.out
            case measure => first | exact meas_int hlt (by omega) | (rw [intOf_int, intOf_int]; omega)
        · obtain rfl : nl = j := by omega
          have d1 : decide (nl < nl) = false := by simp
          have HDB := hide (show Df p f M A2 ws2 none [] [] from by
            have h : Df p f M A2 ws2 (some x) cc ns := by
              have := hD2
              rwa [← HLL.out, List.take_length] at this
            exact h.back hx2' HLK.out)
          have HA2 := hide hA2
          have HMM := hide (show Ms A2 ws2 < gk - 1 from by have := HMS1.out; omega)
          have HM2 := hide hm2
          clear hD2 hx2' hms2 hA2 hP2 hI2 hm2 hwl2
          go_wp2
          go_roundg (gk - 1)
          case measure => have := HMS1.out; omega
          case rel => exact hide ⟨A2, ws2, _, _, _, rfl, HM2.out, HDB.out, HMM.out, by have := HGK.out; omega, HA2.out⟩
end
end Go.Proofs.YtkdojpnihinpbaaDoor

namespace Go.Proofs.YtkdojpnihinpbaaDoor
open Go.RowKit
theorem flatM {k : Nat} : ∀ {css : List (List Value)}, (∀ c ∈ css, c.length = k) → css.flatten.length = css.length * k ∧ ∀ (j : Nat) (c : List Value) (r : Nat) (u : Value), css[j]? = some c → c[r]? = some u → css.flatten[j * k + r]? = some u
  | [], _ => ⟨by simp, fun j c r u h => by simp at h⟩
  | a :: t, h => by
    obtain ⟨ih1, ih2⟩ := flatM (css := t) (fun c hc => h c (by simp [hc]))
    have ha := h a (by simp)
    refine ⟨by rw [List.flatten_cons, List.length_append, ih1, ha, List.length_cons, Nat.succ_mul, Nat.add_comm], fun j c r u hj hr => ?_⟩
    rw [List.flatten_cons]
    cases j with
    | zero =>
      cases hj
      rw [Nat.zero_mul, Nat.zero_add, List.getElem?_append_left (get_lt hr)]
      exact hr
    | succ j =>
      rw [List.getElem?_cons_succ] at hj
      rw [List.getElem?_append_right (by rw [ha, Nat.succ_mul]; omega), show (j + 1) * k + r - a.length = j * k + r by rw [ha, Nat.succ_mul]; omega]
      exact ih2 j c r u hj hr
/-- Truths that lie. -/
def BsAt (w : World) (v : Value) (bs : List Bool) : Prop := ∃ ao cap, v = .slice ao bs.length cap ∧ ∀ (j : Nat) (b : Bool), bs[j]? = some b → ∃ g o, ao = some ⟨g, o, none⟩ ∧ g < w.heap.size ∧ w.cell? ⟨g, o + j, none⟩ = some (.bool b)
/-- Maps that lie, of a function with these locals. -/
def MsAt (w : World) (lo : List Int) (v : Value) (ms : List (Nat × List Int)) : Prop := ∃ ao cap, v = .slice ao ms.length cap ∧ ∀ (j : Nat) (m : Nat × List Int), ms[j]? = some m → ∃ g o v1 v2, ao = some ⟨g, o, none⟩ ∧ g < w.heap.size ∧ w.cell? ⟨g, o + j * 3, none⟩ = some (.int .i64 (m.1 : Int)) ∧ w.cell? ⟨g, o + j * 3 + 1, none⟩ = some v1 ∧ w.cell? ⟨g, o + j * 3 + 2, none⟩ = some v2 ∧ BsAt w v1 (nzs lo) ∧ BsAt w v2 (nzs m.2)
section
variable {w w' : World} {v u : Value} {bs cs : List Bool} {ks lo : List Int} {ms : List (Nat × List Int)}
theorem BsAt.below (h : BsAt w v bs) (hb : Below w.heap.size w w') : BsAt w' v bs := by
  obtain ⟨ao, cap, h1, h2⟩ := h
  refine ⟨ao, cap, h1, fun j b hj => ?_⟩
  obtain ⟨g, o, e1, e2, e3⟩ := h2 j b hj
  exact ⟨g, o, e1, Nat.lt_of_lt_of_le e2 hb.size, (hb.cell (p := ⟨g, o + j, none⟩) e2).trans e3⟩
theorem BsAt.block {g : Nat} (h : w.heap[g]? = some (.cells (bvs bs).toArray 4 (0, 0))) : BsAt w (.slice (some ⟨g, 0, none⟩) bs.length bs.length) bs :=
  ⟨_, _, rfl, fun j b hj => ⟨g, 0, rfl, lt_of_block h, by rw [Nat.zero_add]; exact cell_of h (by rw [List.getElem?_toArray]; simp [bvs, hj])⟩⟩
theorem BsAt.own {D n : Nat} (h : w.ownsRow D 4 1 v n (bvs bs)) (hn : n = bs.length) : BsAt w v bs := by
  subst hn
  rcases h.2 with ⟨rfl, h0⟩ | ⟨g, cap, cur, rfl, h1, h2, h3, h4, h5, h6⟩
  · have := List.eq_nil_of_length_eq_zero h0
    subst this
    exact ⟨none, 0, rfl, fun j b hj => by simp at hj⟩
  · refine ⟨_, cap, rfl, fun j b hj => ⟨g, 0, rfl, lt_of_block h2, ?_⟩⟩
    rw [Nat.zero_add]
    refine cell_of h2 ?_
    have hlt := get_lt hj
    have h7 : (cur.toList.take (bs.length * 1))[j]? = some (.bool b) := by rw [h6]; simp [bvs, hj]
    rw [List.getElem?_take, if_pos (by omega), Array.getElem?_toList] at h7
    exact h7
theorem BsAt.form (h : BsAt w v bs) : ∃ a c, v = .slice a bs.length c := by
  obtain ⟨ao, cap, h1, _⟩ := h
  exact ⟨ao, cap, h1⟩
theorem MsAt.below (h : MsAt w lo v ms) (hb : Below w.heap.size w w') : MsAt w' lo v ms := by
  obtain ⟨ao, cap, h1, h2⟩ := h
  refine ⟨ao, cap, h1, fun j m hj => ?_⟩
  obtain ⟨g, o, v1, v2, e1, e2, e3, e4, e5, e6, e7⟩ := h2 j m hj
  exact ⟨g, o, v1, v2, e1, Nat.lt_of_lt_of_le e2 hb.size, (hb.cell (p := ⟨g, o + j * 3, none⟩) e2).trans e3, (hb.cell (p := ⟨g, o + j * 3 + 1, none⟩) e2).trans e4, (hb.cell (p := ⟨g, o + j * 3 + 2, none⟩) e2).trans e5, e6.below hb, e7.below hb⟩
/-- One truth more behind a row of one's own. -/
theorem run_appB {W : World} {C b m : Nat} {v : Value} {xs : List Value} {x : Bool} (hown : W.ownsRow C 4 1 v m xs) (hb : W.heap[b]? = some (.cells #[.bool x] 4 (0, 0))) (hlen : m < 1000000000) (hB : C ≤ W.heap.size) :
    ∃ g cap w', (Builtin.append_ #[28, 28] 28 #[v, .slice (some ⟨b, 0, none⟩) 1 1]).run Tryd.prog W = .ok (.slice (some ⟨g, 0, none⟩) (m + 1) cap) w' ∧
      w'.ownsRow C 4 1 (.slice (some ⟨g, 0, none⟩) (m + 1) cap) (m + 1) (xs ++ [.bool x]) ∧ W.grownBy w' v.ownBlock := by
  obtain ⟨i0, hi, hz0, hz1, hz2⟩ := info_parts info_boolW
  obtain ⟨g, cap, w', h1, h2, h3, _⟩ := run_append_lies (P := Tryd.prog) W 28 28 C 4 i0 _ 1 1 Tryd.underlying28 hi hz0 hz1 hz2 rfl (by decide) v m xs hown ⟨b, 0, none⟩ 1 1 [.bool x] rfl (World.news_of_block hb)
    (by intro u hu; simp at hu; subst hu; rfl) (by decide) (by unfold maxLen; omega) (by omega) hB _ rfl
  exact ⟨g, cap, w', h1, h2, h3⟩
theorem grown_bel {W : World} {T : TypeId} {k D n : Nat} {v : Value} {xs : List Value} (h : W.ownsRow D T k v n xs) (hg : W.grownBy w' v.ownBlock) (hB : D ≤ W.heap.size) : Below D W w' := by
  refine ⟨hg.os, hg.tape, hg.output, hg.size, fun j hj => hg.block j (by omega) ?_⟩
  rcases h.2 with ⟨rfl, _⟩ | ⟨g, cap, cur, rfl, h1, _⟩
  · intro h; cases h
  · intro h
    simp only [Value.ownBlock, Option.some.injEq] at h
    omega
end
section
variable {w : World} {bs cs : List Bool} {ks : List Int}
def SbL (n : Nat) (w : World) (a : Value) (wr : World) (bs cs : List Bool) : Prop := ∃ j : Nat, a = .int .i64 j ∧ j ≤ n ∧ bs.take j = cs.take j ∧ Below w.heap.size w wr
set_option maxRecDepth 100000 in
set_option maxHeartbeats 1000000 in
theorem sameBits_any {v u : Value} (A : BsAt w v bs) (C : BsAt w u cs) (hl : bs.length ≤ 300000000) : Calls Tryd.prog 8 #[v, u] w fun e W => e = .returned (.bool (decide (bs = cs))) ∧ Below w.heap.size w W := by
  obtain ⟨ao, ca, rfl, hA⟩ := A
  obtain ⟨co, cc, rfl, hC⟩ := C
  by_cases hne : bs.length = cs.length
  · have HA := hide (show ∀ W : World, Below w.heap.size w W → ∀ (j : Nat) (b : Bool), bs[j]? = some b → ∃ g o, ao = some ⟨g, o, none⟩ ∧ g < W.heap.size ∧ W.cell? ⟨g, o + j, none⟩ = some (.bool b) from fun W h j b hj => by
      obtain ⟨g, o, e1, e2, e3⟩ := hA j b hj
      exact ⟨g, o, e1, Nat.lt_of_lt_of_le e2 h.size, (h.cell (p := ⟨g, o + j, none⟩) e2).trans e3⟩)
    have HC := hide (show ∀ W : World, Below w.heap.size w W → ∀ (j : Nat) (b : Bool), cs[j]? = some b → ∃ g o, co = some ⟨g, o, none⟩ ∧ g < W.heap.size ∧ W.cell? ⟨g, o + j, none⟩ = some (.bool b) from fun W h j b hj => by
      obtain ⟨g, o, e1, e2, e3⟩ := hC j b hj
      exact ⟨g, o, e1, Nat.lt_of_lt_of_le e2 h.size, (h.cell (p := ⟨g, o + j, none⟩) e2).trans e3⟩)
    have HD := hide (show ∀ (j : Nat) (b c : Bool), bs[j]? = some b → cs[j]? = some c → (b != c) = true → decide (bs = cs) = false from fun j b c h1 h2 h3 => by
      rw [decide_eq_false_iff_not]
      intro h
      subst h
      rw [h1] at h2
      cases h2
      simp at h3)
    clear hA hC
    obtain ⟨n, hn⟩ : ∃ n, cs.length = n := ⟨_, rfl⟩
    have HB := hide (show bs.length = n from hne.trans hn)
    have HN := hide hn
    rw [hne, hn] at hl ⊢
    clear hne hn
    have q0 : ((n : Int) != (n : Int)) = false := by simp
    go_enter Tryd.func8, Tryd.ntmps8
    go_wp2
    go_loopw [5] (fun a wr => SbL n w a wr bs cs) (fun a _ => n - (intOf a).toNat)
    case atStart => exact ⟨0, rfl, Nat.zero_le _, rfl, Below.refl _ _⟩
    case round =>
      obtain ⟨j, rfl, hj, hs, hb⟩ := hrel
      have HS := hide hs
      have HW := hide hb
      clear hs hb
      by_cases hlt : j < n
      · obtain ⟨x, hx⟩ : ∃ x, bs[j]? = some x := ⟨bs[j]'(by rw [HB.out]; exact hlt), by simp⟩
        obtain ⟨y, hy⟩ : ∃ y, cs[j]? = some y := ⟨cs[j]'(by rw [HN.out]; exact hlt), by simp⟩
        obtain ⟨g, o, rfl, hg, hc⟩ := HA.out wr HW.out j x hx
        obtain ⟨g2, o2, rfl, hg2, hc2⟩ := HC.out wr HW.out j y hy
        have d1 : decide (j < n) = true := by simpa using hlt
        have d2 : (j : Int) ≤ 300000000 := by omega
        by_cases hxy : x = y
        · subst hxy
          have HX := hide (show bs.take (j + 1) = cs.take (j + 1) from by rw [List.take_add_one, List.take_add_one, hx, hy, HS.out])
          clear hx hy
          cases x
          all_goals (
            go_wp2
            go_region
            go_wp2
            refine ⟨⟨j + 1, by first | exact num_next hlt (by omega) | go_num, hlt, HX.out, below_drew HW.out⟩, ?_⟩
            first | exact meas_int hlt (by omega) | (rw [intOf_int, intOf_int]; omega))
        · have HE := hide (HD.out j x y hx hy (by simpa using hxy))
          clear hx hy
          cases x <;> cases y
          all_goals first
            | exact absurd rfl hxy
            | (go_wp2
               go_region
               go_wp2
               go_ret
               exact ⟨by rw [HE.out]; rfl, below_drew HW.out⟩)
      · obtain rfl : n = j := by omega
        have HE := hide (show decide (bs = cs) = true from by
          rw [decide_eq_true_eq]
          have h := HS.out
          rwa [List.take_of_length_le (Nat.le_of_eq HB.out), List.take_of_length_le (Nat.le_of_eq HN.out)] at h)
        have d1 : decide (n < n) = false := by simp
        go_wp2
        go_ret
        exact ⟨by rw [HE.out]; rfl, HW.out⟩
  · have HE := hide (show decide (bs = cs) = false from by
      rw [decide_eq_false_iff_not]
      intro h
      exact hne (by rw [h]))
    have q0 : ((bs.length : Int) != (cs.length : Int)) = true := by simp; omega
    clear hA hC hne
    generalize bs.length = n1 at *
    generalize cs.length = n2 at *
    go_enter Tryd.func8, Tryd.ntmps8
    go_wp2
    go_ret
    exact ⟨by rw [HE.out]; rfl, Below.refl _ _⟩
def BiL (ks : List Int) (w : World) (a i : Value) (wr : World) : Prop := ∃ (j m : Nat) (ao : Option Addr) (cap : Nat), i = .int .i64 j ∧ j ≤ ks.length ∧ a = .slice ao m cap ∧ m = j ∧ wr.ownsRow w.heap.size 4 1 a m (bvs (nzs (ks.take j))) ∧ Below w.heap.size w wr
set_option maxRecDepth 100000 in
set_option maxHeartbeats 1000000 in
theorem bits_any {v : Value} (R : IsAt (fun _ => False) w v ks) (hl : ks.length ≤ 300000000) : Calls Tryd.prog 9 #[v] w fun e W => ∃ u, e = .returned u ∧ BsAt W u (nzs ks) ∧ Below w.heap.size w W := by
  obtain ⟨ao, cap, rfl, _, _, hel⟩ := R
  have HEL := hide (show ∀ W : World, Below w.heap.size w W → ∀ (j : Nat) (k : Int), ks[j]? = some k → ∃ g o, ao = some ⟨g, o, none⟩ ∧ g < W.heap.size ∧ W.cell? ⟨g, o + j, none⟩ = some (.int .i64 k) from fun W h j k hk => by
    obtain ⟨g, o, h1, h2, _, h4⟩ := hel j k hk
    exact ⟨g, o, h1, Nat.lt_of_lt_of_le h2 h.size, (h.cell (p := ⟨g, o + j, none⟩) h2).trans h4⟩)
  have HL := hide hl
  obtain ⟨W0, hW0⟩ : ∃ W0, w.alloc (.cells #[] 4) = W0 := ⟨_, rfl⟩
  have S0 := hide (show BiL ks w (.slice (some ⟨w.heap.size, 0, none⟩) 0 0) (.int .i64 0) W0 from by
    rw [← hW0]
    refine ⟨0, 0, _, _, rfl, Nat.zero_le _, rfl, rfl, ⟨by simp [nzs], .inr ⟨w.heap.size, 0, #[], rfl, Nat.le_refl _, heap_new _ _ rfl, Nat.le_refl _, by unfold maxLen; omega, rfl, rfl⟩⟩, (Below.refl _ _).alloc (Nat.le_refl _) _⟩)
  clear hel hl
  obtain ⟨n, hn⟩ : ∃ n, ks.length = n := ⟨_, rfl⟩
  have HN := hide hn
  rw [hn]
  clear hn
  go_enter Tryd.func9, Tryd.ntmps9
  go_wp2
  go_loopw [3, 4] (fun a i wr => BiL ks w a i wr) (fun _ i _ => n - (intOf i).toNat)
  case atStart => exact S0.out
  case round =>
    obtain ⟨j, m, ao2, cap2, rfl, hj, rfl, hm, hown, hb⟩ := hrel
    rw [HN.out] at hj
    have hnb : n ≤ 300000000 := by have := HL.out; rwa [HN.out] at this
    have HB := hide hb
    have HO := hide hown
    clear S0 hb hown
    by_cases hlt : j < n
    · obtain ⟨x, hx⟩ : ∃ x, ks[j]? = some x := ⟨ks[j]'(by rw [HN.out]; exact hlt), by simp⟩
      obtain ⟨g, o, rfl, hg, hc⟩ := HEL.out wr HB.out j x hx
      obtain ⟨V1, hV1⟩ : ∃ V1, wr.alloc (.cells #[.bool (x != 0)] 4) = V1 := ⟨_, rfl⟩
      have b1 : Below wr.heap.size wr V1 := by rw [← hV1]; exact (Below.refl _ _).alloc (Nat.le_refl _) _
      have hown1 := ownsRow_keep HO.out (w' := V1) (fun q hq => b1.block q (by
        rcases HO.out.2 with ⟨h, _⟩ | ⟨g', cap', cur, h, _, h2, _⟩
        · rw [h] at hq; cases hq
        · rw [h] at hq; cases hq; exact lt_of_block h2))
      obtain ⟨g4, cap4, V3, hrun, hown3, hgrow⟩ := run_appB (b := wr.heap.size) (x := x != 0) hown1 (by rw [← hV1]; exact heap_new _ _ rfl) (by omega) (Nat.le_trans HB.out.size b1.size)
      have HR := hide (show BiL ks w (.slice (some ⟨g4, 0, none⟩) (m + 1) cap4) (.int .i64 ((j + 1 : Nat) : Int)) V3 from ⟨j + 1, m + 1, _, _, rfl, by rw [HN.out]; exact hlt, rfl, by rw [hm], by
        have h : nzs (ks.take (j + 1)) = nzs (ks.take j) ++ [x != 0] := by
          unfold nzs
          rw [List.take_add_one, hx, List.map_append]
          rfl
        rw [h]
        simpa [bvs] using hown3, (HB.out.trans (b1.mono HB.out.size)).trans (grown_bel hown1 hgrow (Nat.le_trans HB.out.size b1.size))⟩)
      have d1 : decide (j < n) = true := by simpa using hlt
      have d2 : (j : Int) ≤ 300000000 := by omega
      have d3 : (m : Int) ≤ 300000000 := by omega
      clear hx hown1 hown3 hgrow hm b1
      go_wp2_with (at_builtin; refine wpList_append_eq rfl _ _ 28 28 rfl rfl rfl hrun ?_; clear hrun)
      go_roundw
      case rel => exact HR.out
      case measure => first | exact meas_int hlt (by omega) | (rw [intOf_int, intOf_int]; omega)
    · obtain rfl : n = j := by omega
      have HE := hide (show BsAt wr (.slice ao2 m cap2) (nzs ks) from by
        have h := HO.out
        rw [List.take_of_length_le (Nat.le_of_eq HN.out)] at h
        exact BsAt.own h (by rw [nzs_len, HN.out]; exact hm))
      have d1 : decide (n < n) = false := by simp
      go_wp2
      go_ret
      exact ⟨_, rfl, HE.out, HB.out⟩
end
end Go.Proofs.YtkdojpnihinpbaaDoor

namespace Go.Proofs.YtkdojpnihinpbaaDoor
open Go.RowKit
/-- The words of areas. -/
def arW (p : Pg) (l : List Int) : Nat := (l.map fun t => ((p.ty[t.toNat]?).getD []).length).sum
def szP (p : Pg) (f : Fd) (F : Fl) : Nat := f.lo.length + F.mo + arW p f.ar
/-- How Size ends. -/
def SzO (p : Pg) (m : Int) (w : World) (e : Ending) (W : World) : Prop := Below w.heap.size w W ∧
  (((checkP p).2.2 ≠ 0 ∧ e = .returned (.tuple #[.int .i64 0, .int .i64 (checkP p).2.2])) ∨
  ((checkP p).2.2 = 0 ∧ inB m p.fu.length = false ∧ e = .returned (.tuple #[.int .i64 0, .int .i64 6])) ∨
  ∃ (k : Nat) (f : Fd) (F : Fl), (checkP p).2.2 = 0 ∧ m = (k : Int) ∧ p.fu[k]? = some f ∧ followP p f = .ok F ∧ e = .returned (.tuple #[.int .i64 (szP p f F : Int), .int .i64 0]))
theorem arW_next {p : Pg} {l : List Int} {j : Nat} {x : Int} (h : l[j]? = some x) : arW p (l.take (j + 1)) = arW p (l.take j) + ((p.ty[x.toNat]?).getD []).length := by
  unfold arW
  rw [List.take_add_one, h]
  simp
theorem arW_le {p : Pg} (H : ∀ l ∈ p.ty, l.length ≤ 4096) : ∀ l : List Int, arW p l ≤ 4096 * l.length
  | [] => by simp [arW]
  | x :: r => by
    have ih := arW_le H r
    have : ((p.ty[x.toNat]?).getD []).length ≤ 4096 := by
      cases h : p.ty[x.toNat]? with
      | none => simp
      | some l => exact H l (List.mem_of_getElem? h)
    unfold arW at *
    simp only [List.map_cons, List.sum_cons, List.length_cons]
    omega
def SzR (p : Pg) (l : List Int) (b : Nat) (w : World) (a c : Value) (wr : World) : Prop := ∃ j : Nat, c = .int .i64 j ∧ j ≤ l.length ∧ a = .int .i64 ((b + arW p (l.take j) : Nat) : Int) ∧ Below w.heap.size w wr
section
variable {B : Nat} {w : World} {p : Pg}
set_option maxRecDepth 100000 in
set_option maxHeartbeats 1000000 in
theorem size_any {v1 v2 v3 v4 : Value} (P : PgAt B w v1 v2 v3 v4 p) (hB : B ≤ w.heap.size) (hT : Tb w) (hb0 : 0 < B) (m : Int) : Calls Tryd.prog 17 #[.agg #[v1, v2, v3, v4], .int .i64 m] w (SzO p m w) := by
  obtain ⟨a1, d1, hv1⟩ := sl_form P.ty
  obtain ⟨a2, d2, hv2⟩ := sl_form P.fu
  obtain ⟨a3, d3, hv3⟩ := sl_form P.ta
  obtain ⟨a4, d4, hv4⟩ := sl_form P.st
  subst hv1 hv2 hv3 hv4
  obtain ⟨W1, hW1⟩ : ∃ W1, w.alloc (.cells #[.slice a1 p.ty.length d1, .slice a2 p.fu.length d2, .slice a3 p.ta.length d3, .slice a4 p.st.length d4] 27) = W1 := ⟨_, rfl⟩
  have b1 : Below w.heap.size w W1 := by rw [← hW1]; exact (Below.refl _ _).alloc (Nat.le_refl _) _
  have e1 : W1.heap[w.heap.size]? = some (.cells #[.slice a1 p.ty.length d1, .slice a2 p.fu.length d2, .slice a3 p.ta.length d3, .slice a4 p.st.length d4] 27 (0, 0)) := by rw [← hW1]; exact heap_new _ _ rfl
  have HBX := hide (show ∀ W : World, Below W1.heap.size W1 W → W.cell? ⟨w.heap.size, 0, none⟩ = some (.slice a1 p.ty.length d1) ∧ W.cell? ⟨w.heap.size, 1, none⟩ = some (.slice a2 p.fu.length d2) ∧ W.cell? ⟨w.heap.size, 2, none⟩ = some (.slice a3 p.ta.length d3) ∧ W.cell? ⟨w.heap.size, 3, none⟩ = some (.slice a4 p.st.length d4) from fun W h => by
    have h1 := (h.block _ (lt_of_block e1)).trans e1
    exact ⟨cell_of h1 rfl, cell_of h1 rfl, cell_of h1 rfl, cell_of h1 rfl⟩)
  have HPG := hide (show ∀ W : World, Below W1.heap.size W1 W → PgAt B W (.slice a1 p.ty.length d1) (.slice a2 p.fu.length d2) (.slice a3 p.ta.length d3) (.slice a4 p.st.length d4) p ∧ B ≤ W.heap.size ∧ Tb W from fun W h => ⟨P.keep (Nat.le_refl _) (fun j hj => (bel_tr b1 h).block j (Nat.lt_of_lt_of_le hj hB)), Nat.le_trans hB (bel_tr b1 h).size, hT.keep ((bel_tr b1 h).block 0 (Nat.lt_of_lt_of_le hb0 hB))⟩)
  have HB1 := hide b1
  obtain ⟨k0, k1, k2, k3⟩ := HBX.out W1 (Below.refl _ _)
  have hl0 := lt_of_block e1
  have HSF := hide (soundFlow_any (HPG.out W1 (Below.refl _ _)).1 (HPG.out W1 (Below.refl _ _)).2.1 (HPG.out W1 (Below.refl _ _)).2.2 hb0 m)
  clear P hB hT hb0 b1 e1
  obtain ⟨n1, hN1⟩ : ∃ n, p.ty.length = n := ⟨_, rfl⟩
  rw [hN1] at HBX HPG HSF k0 hW1 ⊢
  have HN1 := hide hN1
  clear hN1
  obtain ⟨n2, hN2⟩ : ∃ n, p.fu.length = n := ⟨_, rfl⟩
  rw [hN2] at HBX HPG HSF k1 hW1 ⊢
  have HN2 := hide hN2
  clear hN2
  generalize p.ta.length = n3 at *
  generalize p.st.length = n4 at *
  go_enter Tryd.func17, Tryd.ntmps17
  go_wp2_with fail
  refine HSF.out.mono ?_
  rintro e w2 ⟨hb2, (⟨hc, rfl⟩ | ⟨hc, hi, rfl⟩ | ⟨k, f, F, A, ahb, wtb, E, V, at_, hc, hm, hf, hF, rfl, hM⟩)⟩
  · have HB2 := hide (bel_tr HB1.out hb2)
    have HC := hide hc
    obtain ⟨ce, hce⟩ : ∃ c, (checkP p).2.2 = c := ⟨_, rfl⟩
    have HF := hide (show ∀ W, Below w.heap.size w W → SzO p m w (.returned (.tuple #[.int .i64 0, .int .i64 ce])) W from fun W h => ⟨h, .inl ⟨HC.out, by rw [hce]⟩⟩)
    rw [hce] at hc ⊢
    have q0 : (ce != 0) = true := by simpa using hc
    clear hb2 hc hce
    go_wp2
    go_ret2
    exact HF.out _ HB2.out
  · have HB2 := hide (bel_tr HB1.out hb2)
    have HF := hide (show ∀ W, Below w.heap.size w W → SzO p m w (.returned (.tuple #[.int .i64 0, .int .i64 6])) W from fun W h => ⟨h, .inr (.inl ⟨hc, hi, rfl⟩)⟩)
    clear hb2 hc hi
    go_wp2
    go_ret2
    exact HF.out _ HB2.out
  · obtain ⟨_, o1, o2, _⟩ := check_ok hc
    have H := hok_of o1 o2
    have hfo := H.fu f (List.mem_of_getElem? hf)
    have I := follow_inv H hfo hF
    have HF := hide (show ∀ W, Below w.heap.size w W → SzO p m w (.returned (.tuple #[.int .i64 (szP p f F : Int), .int .i64 0])) W from fun W h => ⟨h, .inr (.inr ⟨k, f, F, hc, hm, hf, hF, rfl⟩)⟩)
    have c7 : w2.cell? ⟨A, 7, none⟩ = some V.u1 := cell_of hM.fl.box rfl
    have c9 : w2.cell? ⟨A, 9, none⟩ = some V.u3 := cell_of hM.fl.box rfl
    have c13 : w2.cell? ⟨A, 13, none⟩ = some (.int .i64 (F.mo : Int)) := cell_of hM.fl.box rfl
    obtain ⟨x1, z1, h1⟩ := sl_form hM.fl.lo
    obtain ⟨x3, z3, h3⟩ := sl_form hM.fl.ar
    rw [h1] at c7
    rw [h3] at c9
    have hlA := (hM.lt (.inl rfl)).2
    have RA := hM.fl.ar
    rw [h3] at RA
    obtain ⟨_, _, hv, _, hel⟩ := RA
    cases hv
    have HEL := hide (show ∀ (W : World), Below w2.heap.size w2 W → ∀ (j : Nat) (t : Int), f.ar[j]? = some t → ∃ g o, x3 = some ⟨g, o, none⟩ ∧ g < W.heap.size ∧ W.cell? ⟨g, o + j, none⟩ = some (.int .i64 t) from fun W h j t ht => by
      obtain ⟨g, o, e1, e2, e3, _⟩ := ints_at hel ht
      have hg : g < w2.heap.size := Nat.lt_of_lt_of_le e2 hM.fl.hB
      exact ⟨g, o, e1, Nat.lt_of_lt_of_le hg h.size, (h.cell (p := ⟨g, o + j, none⟩) hg).trans e3⟩)
    have HAR := hide hfo.ar
    have HMO := hide (show f.lo.length ≤ 4096 ∧ F.mo ≤ 300000000 ∧ f.ar.length ≤ 4096 from ⟨hfo.nl, by have := I.mo; have := hfo.nc; omega, hfo.na⟩)
    have HAW := hide (arW_le fun l hl => (H.ty l hl).2.1)
    have HB2 := hide hb2
    have HSZ := hide (show szP p f F = f.lo.length + F.mo + arW p f.ar from rfl)
    have hlI : w.heap.size < w2.heap.size := Nat.lt_of_lt_of_le hl0 hb2.size
    clear hb2 hc hm hf hF hM o1 o2 H hfo I h1 h3 hel k0 k1 k2 k3 hW1
    obtain ⟨k0, k1, k2, k3⟩ := HBX.out w2 HB2.out
    generalize f.lo.length = ll at *
    generalize F.mo = mo at *
    obtain ⟨hb1, hb2, hb3⟩ := HMO.out
    have hwp : IntKind.i64.wrap ((ll : Int) + (mo : Int)) = (ll : Int) + (mo : Int) := by
      rw [show (ll : Int) + (mo : Int) = ((ll + mo : Nat) : Int) by omega]
      exact wrap_nat (by omega)
    generalize hal : f.ar.length = al at *
    have HAL := hide hal
    clear hal
    go_wp2_with fail
    go_region
    go_wp2
    rw [show (ll : Int) + (mo : Int) = ((ll + mo : Nat) : Int) by omega]
    have HB3 := hide (show Below w2.heap.size w2 w2.drew from below_drew (Below.refl _ _))
    go_loopw [8, 37] (fun a c wr => SzR p f.ar (ll + mo) w2 a c wr) (fun _ c _ => al - (intOf c).toNat)
    case atStart => exact ⟨0, rfl, Nat.zero_le _, rfl, HB3.out⟩
    case round =>
      obtain ⟨j, rfl, hj, rfl, hb⟩ := hrel
      have HBR := hide hb
      rw [HAL.out] at hj
      clear hb k0 k1 k2 k3 c7 c9 c13
      obtain ⟨k0, k1, k2, k3⟩ := HBX.out wr (bel_tr HB2.out HBR.out)
      have hlw : w.heap.size < wr.heap.size := Nat.lt_of_lt_of_le hlI HBR.out.size
      by_cases hlt : j < al
      · obtain ⟨t, ht⟩ : ∃ t, f.ar[j]? = some t := ⟨f.ar[j]'(by rw [HAL.out]; exact hlt), by simp⟩
        obtain ⟨g, o, rfl, hg, hc⟩ := HEL.out wr HBR.out j t ht
        obtain ⟨tk, rfl, htk⟩ := in_nat (HAR.out t (List.mem_of_getElem? ht))
        obtain ⟨l, hl⟩ : ∃ l, p.ty[tk]? = some l := ⟨p.ty[tk], by simp⟩
        obtain ⟨PW, hBw, _⟩ := HPG.out wr (bel_tr HB2.out HBR.out)
        obtain ⟨g2, o2, c2, nn, u, hv, hnn, hlt2, hg2, hc2, hsl⟩ := lst_at PW.ty hl
        cases hv
        obtain ⟨ua, uc, rfl⟩ := sl_form hsl
        have hg2w : g2 < wr.heap.size := Nat.lt_of_lt_of_le hg2 hBw
        have d1 : decide (j < al) = true := by simpa using hlt
        have d2 : decide (tk < n1) = true := by simpa using hlt2
        have HNX := hide (show ll + mo + arW p (f.ar.take (j + 1)) = ll + mo + arW p (f.ar.take j) + l.length from by rw [arW_next ht, Int.toNat_natCast, hl, Option.getD_some]; omega)
        have hle : ll + mo + arW p (f.ar.take (j + 1)) ≤ 400000000 := by
          have h1 := HAW.out (f.ar.take (j + 1))
          have h2 : (f.ar.take (j + 1)).length ≤ 4096 := by rw [List.length_take, HAL.out]; omega
          omega
        rw [HNX.out] at hle
        clear PW hnn hsl hl ht htk
        generalize l.length = len at *
        obtain ⟨base, hba⟩ : ∃ b, ll + mo + arW p (f.ar.take j) = b := ⟨_, rfl⟩
        rw [hba] at hle HNX ⊢
        clear hba
        have hwb : IntKind.i64.wrap ((base : Int) + (len : Int)) = (base : Int) + (len : Int) := by
          rw [show (base : Int) + (len : Int) = ((base + len : Nat) : Int) by omega]
          exact wrap_nat (by omega)
        have d3 : (j : Int) ≤ 4096 := by omega
        go_wp2
        go_roundw
        case rel => exact ⟨j + 1, by first | exact num_next hlt (by omega) | go_num, by rw [HAL.out]; exact hlt, by rw [HNX.out]; first | rfl | (congr 1; omega), HBR.out⟩
        case measure => first | exact meas_int hlt (by omega) | (rw [intOf_int, intOf_int]; omega)
      · obtain rfl : al = j := by omega
        have d1 : decide (al < al) = false := by simp
        have HE := hide (show ll + mo + arW p (f.ar.take al) = szP p f F from by rw [HSZ.out, ← HAL.out, List.take_length])
        rw [HE.out]
        go_wp2
        go_ret2
        exact HF.out _ (bel_tr HB1.out (bel_tr HB2.out HBR.out))
end
end Go.Proofs.YtkdojpnihinpbaaDoor

namespace Go.Proofs.YtkdojpnihinpbaaDoor
open Go.RowKit
/-- The maps of the first k instructions. -/
def selP (f : Fd) (M : List (Option (List Int))) (k : Nat) : List (Nat × List Int) := (List.range k).filterMap fun x => if safeB (coAt f x).o = true then ((M[x]?).getD none).map fun s => (x, s) else none
theorem selP_none {f : Fd} {M : List (Option (List Int))} {k : Nat} (h : M[k]? = some none ∨ safeB (coAt f k).o = false) : selP f M (k + 1) = selP f M k := by
  unfold selP
  rw [List.range_succ, List.filterMap_append]
  rcases h with h | h
  · simp [h]
  · simp [h]
theorem selP_some {f : Fd} {M : List (Option (List Int))} {k : Nat} {s : List Int} (h : M[k]? = some (some s)) (hs : safeB (coAt f k).o = true) : selP f M (k + 1) = selP f M k ++ [(k, s)] := by
  unfold selP
  rw [List.range_succ, List.filterMap_append]
  congr 1
  simp [h, hs]
theorem selP_len {f : Fd} {M : List (Option (List Int))} (k : Nat) : (selP f M k).length ≤ k := by
  unfold selP
  exact Nat.le_trans (List.length_filterMap_le _ _) (by simp)
theorem info_map : (Tryd.prog.info? 52).map (fun i => (i.zero, i.size, i.bytes)) = some (some (.agg #[.int .i64 0, .slice none 0 0, .slice none 0 0]), 3, 56) := by kernel_rfl
abbrev mapV (x l1 l2 : Nat) (g1 g2 : Nat) : List Value := [.int .i64 (x : Int), .slice (some ⟨g1, 0, none⟩) l1 l1, .slice (some ⟨g2, 0, none⟩) l2 l2]
/-- A list of maps of one's own. -/
structure OwM (D : Nat) (W : World) (lo : List Int) (v : Value) (ms : List (Nat × List Int)) (css : List (List Value)) : Prop where
  row : W.ownsRow D 52 3 v ms.length css.flatten
  len : css.length = ms.length
  is : ∀ (j : Nat) (m : Nat × List Int), ms[j]? = some m → ∃ g1 g2, css[j]? = some (mapV m.1 lo.length m.2.length g1 g2) ∧ W.heap[g1]? = some (.cells (bvs (nzs lo)).toArray 4 (0, 0)) ∧ W.heap[g2]? = some (.cells (bvs (nzs m.2)).toArray 4 (0, 0))
section
variable {D : Nat} {W W' : World} {lo : List Int} {v : Value} {ms : List (Nat × List Int)} {css : List (List Value)}
theorem OwM.three (O : OwM D W lo v ms css) : ∀ c ∈ css, c.length = 3 := fun c hc => by
  obtain ⟨j, hj, rfl⟩ := List.mem_iff_getElem.mp hc
  have hm : ms[j]? = some (ms[j]'(by rw [← O.len]; exact hj)) := List.getElem?_eq_getElem _
  obtain ⟨g1, g2, h1, _⟩ := O.is j _ hm
  rw [List.getElem?_eq_getElem hj] at h1
  rw [Option.some.inj h1]
  rfl
theorem ownB_lt {T : TypeId} {k n : Nat} {xs : List Value} (h : W.ownsRow D T k v n xs) {q : Nat} (hq : v.ownBlock = some q) : q < W.heap.size := by
  rcases h.2 with ⟨h, _⟩ | ⟨g', cap', cur, h, _, h2, _⟩
  · rw [h] at hq; cases hq
  · rw [h] at hq; cases hq; exact lt_of_block h2
theorem OwM.below (O : OwM D W lo v ms css) (h : Below W.heap.size W W') : OwM D W' lo v ms css :=
  ⟨ownsRow_keep O.row (fun q hq => h.block q (ownB_lt O.row hq)), O.len, fun j m hj => by
    obtain ⟨g1, g2, h1, h2, h3⟩ := O.is j m hj
    exact ⟨g1, g2, h1, (h.block _ (lt_of_block h2)).trans h2, (h.block _ (lt_of_block h3)).trans h3⟩⟩
theorem OwM.lies (O : OwM D W lo v ms css) : MsAt W lo v ms := by
  rcases O.row.2 with ⟨rfl, h0⟩ | ⟨g, cap, cur, rfl, h1, h2, h3, h4, h5, h6⟩
  · have := List.eq_nil_of_length_eq_zero h0
    subst this
    exact ⟨none, 0, rfl, fun j m hj => by simp at hj⟩
  · refine ⟨_, cap, rfl, fun j m hj => ?_⟩
    obtain ⟨g1, g2, e1, e2, e3⟩ := O.is j m hj
    have hc : ∀ (r : Nat) u, (mapV m.1 lo.length m.2.length g1 g2)[r]? = some u → W.cell? ⟨g, 0 + j * 3 + r, none⟩ = some u := by
      intro r u hr
      have h7 := (flatM O.three).2 j _ r u e1 hr
      rw [← h6, List.getElem?_take] at h7
      rw [Nat.zero_add]
      split at h7
      · rw [Array.getElem?_toList] at h7
        exact cell_of h2 h7
      · cases h7
    refine ⟨g, 0, _, _, rfl, lt_of_block h2, hc 0 _ rfl, hc 1 _ rfl, hc 2 _ rfl, ?_, ?_⟩
    · have := BsAt.block e2
      rwa [nzs_len] at this
    · have := BsAt.block e3
      rwa [nzs_len] at this
/-- One map more. -/
theorem OwM.push {b x g1 g2 : Nat} {s : List Int} (O : OwM D W lo v ms css) (hD : D ≤ W.heap.size) (hm : ms.length < 1000000) (hb : W.heap[b]? = some (.cells (mapV x lo.length s.length g1 g2).toArray 52 (0, 0))) (h1 : W.heap[g1]? = some (.cells (bvs (nzs lo)).toArray 4 (0, 0))) (h2 : W.heap[g2]? = some (.cells (bvs (nzs s)).toArray 4 (0, 0))) :
    ∃ g cap W', (Builtin.append_ #[41, 41] 41 #[v, .slice (some ⟨b, 0, none⟩) 1 1]).run Tryd.prog W = .ok (.slice (some ⟨g, 0, none⟩) (ms.length + 1) cap) W' ∧ OwM D W' lo (.slice (some ⟨g, 0, none⟩) (ms.length + 1) cap) (ms ++ [(x, s)]) (css ++ [mapV x lo.length s.length g1 g2]) ∧ Below D W W' := by
  obtain ⟨i0, hi, hz0, hz1, hz2⟩ := info_parts info_map
  obtain ⟨g, cap, W', hrun, hown, hgrow, _⟩ := run_append_lies (P := Tryd.prog) W 41 41 D 52 i0 _ 3 56 Tryd.underlying41 hi hz0 hz1 hz2 rfl (by decide) v ms.length _ O.row ⟨b, 0, none⟩ 1 1 (mapV x lo.length s.length g1 g2) rfl (World.news_of_block hb)
    (by intro u hu; simp at hu; rcases hu with rfl | rfl | rfl <;> rfl) (by decide) (by unfold maxLen; omega) (by omega) hD _ rfl
  have hne : ∀ {q : Nat} {bs : Array Value}, W.heap[q]? = some (.cells bs 4 (0, 0)) → W'.heap[q]? = some (.cells bs 4 (0, 0)) := fun {q bs} hq => (hgrow.block q (lt_of_block hq) (fun h => by
    rcases O.row.2 with ⟨h', _⟩ | ⟨g', cap', cur, h', _, h3, _⟩
    · rw [h'] at h; cases h
    · rw [h'] at h
      cases h
      rw [hq] at h3
      simp at h3)).trans hq
  refine ⟨g, cap, W', hrun, ⟨?_, by simp [O.len], fun j m hj => ?_⟩, grown_bel O.row hgrow hD⟩
  · rw [List.flatten_append, List.length_append, List.length_singleton]
    simpa using hown
  · rcases Nat.lt_or_ge j ms.length with hlt | hge
    · rw [List.getElem?_append_left hlt] at hj
      obtain ⟨q1, q2, e1, e2, e3⟩ := O.is j m hj
      exact ⟨q1, q2, by rw [List.getElem?_append_left (by rw [O.len]; exact hlt)]; exact e1, hne e2, hne e3⟩
    · rw [List.getElem?_append_right hge] at hj
      have h0 : j - ms.length = 0 := by have := get_lt hj; simp at this; omega
      rw [h0] at hj
      cases hj
      exact ⟨g1, g2, by rw [List.getElem?_append_right (by rw [O.len]; exact hge), O.len, h0]; rfl, hne h1, hne h2⟩
end
/-- How Of ends. -/
def OmO (p : Pg) (m : Int) (w : World) (e : Ending) (W : World) : Prop := Below w.heap.size w W ∧
  (((checkP p).2.2 ≠ 0 ∧ e = .returned (.tuple #[.slice none 0 0, .int .i64 (checkP p).2.2])) ∨
  ((checkP p).2.2 = 0 ∧ inB m p.fu.length = false ∧ e = .returned (.tuple #[.slice none 0 0, .int .i64 6])) ∨
  ∃ (k : Nat) (f : Fd) (F : Fl) (v : Value), (checkP p).2.2 = 0 ∧ m = (k : Int) ∧ p.fu[k]? = some f ∧ followP p f = .ok F ∧ e = .returned (.tuple #[v, .int .i64 0]) ∧ MsAt W f.lo v (selP f F.ah f.co.length))
def OmR (f : Fd) (M : List (Option (List Int))) (n : Nat) (w4 : World) (a i : Value) (W : World) : Prop := ∃ (k m : Nat) (ao : Option Addr) (cap : Nat) (css : List (List Value)), i = .int .i64 (k : Int) ∧ k ≤ n ∧ a = .slice ao m cap ∧ m = (selP f M k).length ∧ OwM w4.heap.size W f.lo a (selP f M k) css ∧ Below w4.heap.size w4 W
section
variable {B : Nat} {w : World} {p : Pg}
set_option maxRecDepth 100000 in
set_option maxHeartbeats 2000000 in
theorem mapsOf_any {v1 v2 v3 v4 : Value} (P : PgAt B w v1 v2 v3 v4 p) (hB : B ≤ w.heap.size) (hT : Tb w) (hb0 : 0 < B) (m : Int) : Calls Tryd.prog 10 #[.agg #[v1, v2, v3, v4], .int .i64 m] w (OmO p m w) := by
  obtain ⟨a1, d1, hv1⟩ := sl_form P.ty
  obtain ⟨a2, d2, hv2⟩ := sl_form P.fu
  obtain ⟨a3, d3, hv3⟩ := sl_form P.ta
  obtain ⟨a4, d4, hv4⟩ := sl_form P.st
  subst hv1 hv2 hv3 hv4
  obtain ⟨W1, hW1⟩ : ∃ W1, w.alloc (.cells #[.slice a1 p.ty.length d1, .slice a2 p.fu.length d2, .slice a3 p.ta.length d3, .slice a4 p.st.length d4] 27) = W1 := ⟨_, rfl⟩
  have b1 : Below w.heap.size w W1 := by rw [← hW1]; exact (Below.refl _ _).alloc (Nat.le_refl _) _
  have e1 : W1.heap[w.heap.size]? = some (.cells #[.slice a1 p.ty.length d1, .slice a2 p.fu.length d2, .slice a3 p.ta.length d3, .slice a4 p.st.length d4] 27 (0, 0)) := by rw [← hW1]; exact heap_new _ _ rfl
  have HPW := hide (show ∀ W : World, Below W1.heap.size W1 W → PgAt B W (.slice a1 p.ty.length d1) (.slice a2 p.fu.length d2) (.slice a3 p.ta.length d3) (.slice a4 p.st.length d4) p ∧ B ≤ W.heap.size from fun W h => ⟨P.keep (Nat.le_refl _) (fun j hj => (bel_tr b1 h).block j (Nat.lt_of_lt_of_le hj hB)), Nat.le_trans hB (bel_tr b1 h).size⟩)
  have HPB := hide (show ∀ W : World, Below W1.heap.size W1 W → W.heap[w.heap.size]? = some (.cells #[.slice a1 p.ty.length d1, .slice a2 p.fu.length d2, .slice a3 p.ta.length d3, .slice a4 p.st.length d4] 27 (0, 0)) from fun W h => (h.block _ (lt_of_block e1)).trans e1)
  have HSZ := hide (size_any (HPW.out W1 (Below.refl _ _)).1 (HPW.out W1 (Below.refl _ _)).2 (hT.keep (b1.block 0 (Nat.lt_of_lt_of_le hb0 hB))) hb0 m)
  have HB1 := hide b1
  have k0 : W1.cell? ⟨w.heap.size, 0, none⟩ = some (.slice a1 p.ty.length d1) := cell_of e1 rfl
  have k1 : W1.cell? ⟨w.heap.size, 1, none⟩ = some (.slice a2 p.fu.length d2) := cell_of e1 rfl
  have k2 : W1.cell? ⟨w.heap.size, 2, none⟩ = some (.slice a3 p.ta.length d3) := cell_of e1 rfl
  have k3 : W1.cell? ⟨w.heap.size, 3, none⟩ = some (.slice a4 p.st.length d4) := cell_of e1 rfl
  clear P hB hT b1 e1
  go_enter Tryd.func10, Tryd.ntmps10
  go_wp2_with fail
  refine HSZ.out.mono ?_
  rintro e w2 ⟨hb2, (⟨hc, rfl⟩ | ⟨hc, hi, rfl⟩ | ⟨k, f, F, hc, hm, hf, hF, rfl⟩)⟩
  · have HB2 := hide (bel_tr HB1.out hb2)
    have HC := hide hc
    obtain ⟨ce, hce⟩ : ∃ c, (checkP p).2.2 = c := ⟨_, rfl⟩
    have HF := hide (show ∀ W, Below w.heap.size w W → OmO p m w (.returned (.tuple #[.slice none 0 0, .int .i64 ce])) W from fun W h => ⟨h, .inl ⟨HC.out, by rw [hce]⟩⟩)
    rw [hce] at hc ⊢
    have q0 : (ce != 0) = true := by simpa using hc
    clear hb2 hc hce
    go_wp2
    go_ret2
    exact HF.out _ HB2.out
  · have HB2 := hide (bel_tr HB1.out hb2)
    have HF := hide (show ∀ W, Below w.heap.size w W → OmO p m w (.returned (.tuple #[.slice none 0 0, .int .i64 6])) W from fun W h => ⟨h, .inr (.inl ⟨hc, hi, rfl⟩)⟩)
    clear hb2 hc hi
    go_wp2
    go_ret2
    exact HF.out _ HB2.out
  · obtain ⟨_, o1, o2, _⟩ := check_ok hc
    have H := hok_of o1 o2
    have hfo := H.fu f (List.mem_of_getElem? hf)
    have I := follow_inv H hfo hF
    have C := follow_cl H hfo hF
    have HB2 := hide hb2
    have PW2 := HPW.out w2 hb2
    obtain ⟨g, o, c, n, x1, x2, x3, x4, hv, hn, hlt, hg, ⟨y0, y1, y2, y3, y4⟩, r1, r2, r3, r4⟩ := fd_at PW2.1.fu hf
    cases hv
    obtain ⟨b1, e1, rfl⟩ := sl_form r1
    obtain ⟨b2, e2, rfl⟩ := sl_form r2
    obtain ⟨b3, e3, rfl⟩ := sl_form r3
    obtain ⟨b4, e4, rfl⟩ := sl_form r4
    have hgw : g < w2.heap.size := Nat.lt_of_lt_of_le hg PW2.2
    have j0 := cell_of (HPB.out w2 hb2) (o := 0) rfl
    have j1 := cell_of (HPB.out w2 hb2) (o := 1) rfl
    have j2 := cell_of (HPB.out w2 hb2) (o := 2) rfl
    have j3 := cell_of (HPB.out w2 hb2) (o := 3) rfl
    have hpw : w.heap.size < w2.heap.size := lt_of_block (HPB.out w2 hb2)
    obtain ⟨W3, hW3⟩ : ∃ W3, w2.alloc (.cells #[.int .i64 f.pa, .slice b1 f.lo.length e1, .slice b2 f.re.length e2, .slice b3 f.ar.length e3, .slice b4 f.co.length e4] 50) = W3 := ⟨_, rfl⟩
    have bl3 : Below w2.heap.size w2 W3 := by rw [← hW3]; exact (Below.refl _ _).alloc (Nat.le_refl _) _
    have hF3 : W3.heap[w2.heap.size]? = some (.cells #[.int .i64 f.pa, .slice b1 f.lo.length e1, .slice b2 f.re.length e2, .slice b3 f.ar.length e3, .slice b4 f.co.length e4] 50 (0, 0)) := by rw [← hW3]; exact heap_new _ _ rfl
    have hB3 : ∀ j, j < B → W3.heap[j]? = w2.heap[j]? := fun j hj => bl3.block j (Nat.lt_of_lt_of_le hj PW2.2)
    have Y3 : WyAt B W3 (.slice a1 p.ty.length d1) (.slice (some ⟨g, o, none⟩) p.fu.length d2) (.slice a3 p.ta.length d3) (.slice a4 p.st.length d4) (.slice b1 f.lo.length e1) (.slice b2 f.re.length e2) (.slice b3 f.ar.length e3) (.slice b4 f.co.length e4) p f :=
      ⟨Nat.le_trans PW2.2 bl3.size, PW2.1.keep (Nat.le_refl _) hB3, ints_keep (Nat.le_refl _) hB3 r1, ints_keep (Nat.le_refl _) hB3 r2, ints_keep (Nat.le_refl _) hB3 r3, ins_keep (Nat.le_refl _) hB3 r4⟩
    have hMB : ∀ (y : Nat) (t : List Int), F.ah[y]? = some (some t) → (∀ k ∈ t, isKB p.ty.length k = true) ∧ t.length ≤ 300000000 := fun y t ht => by
      obtain ⟨h1, h2⟩ := I.st y t ht
      have := hfo.nc
      exact ⟨h1, by omega⟩
    have HAD := hide (aheads_any Y3 H hfo C hMB)
    have HY3 := hide Y3
    have HMB := hide hMB
    have HLA := hide I.la
    have HNC := hide hfo.nc
    have HNL := hide hfo.nl
    have HF := hide (show ∀ (W : World) (v : Value), Below w.heap.size w W → MsAt W f.lo v (selP f F.ah f.co.length) → OmO p m w (.returned (.tuple #[v, .int .i64 0])) W from fun W v h hv => ⟨h, .inr (.inr ⟨k, f, F, v, hc, hm, hf, hF, rfl, hv⟩)⟩)
    have HB3 := hide (show Below w.heap.size w W3 from bel_tr (bel_tr HB1.out HB2.out) bl3)
    have HF3 := hide hF3
    have dk : decide (k < p.fu.length) = true := by simpa using hlt
    have p0 : W3.cell? ⟨w.heap.size, 0, none⟩ = some (.slice a1 p.ty.length d1) := (bl3.cell (p := ⟨w.heap.size, 0, none⟩) hpw).trans j0
    have p1 : W3.cell? ⟨w.heap.size, 1, none⟩ = some (.slice (some ⟨g, o, none⟩) p.fu.length d2) := (bl3.cell (p := ⟨w.heap.size, 1, none⟩) hpw).trans j1
    have p2 : W3.cell? ⟨w.heap.size, 2, none⟩ = some (.slice a3 p.ta.length d3) := (bl3.cell (p := ⟨w.heap.size, 2, none⟩) hpw).trans j2
    have p3 : W3.cell? ⟨w.heap.size, 3, none⟩ = some (.slice a4 p.st.length d4) := (bl3.cell (p := ⟨w.heap.size, 3, none⟩) hpw).trans j3
    have hpw3 : w.heap.size < W3.heap.size := Nat.lt_of_lt_of_le hpw bl3.size
    have f0 : W3.cell? ⟨w2.heap.size, 0, none⟩ = some (.int .i64 f.pa) := cell_of hF3 rfl
    have f1 : W3.cell? ⟨w2.heap.size, 1, none⟩ = some (.slice b1 f.lo.length e1) := cell_of hF3 rfl
    have f2 : W3.cell? ⟨w2.heap.size, 2, none⟩ = some (.slice b2 f.re.length e2) := cell_of hF3 rfl
    have f3 : W3.cell? ⟨w2.heap.size, 3, none⟩ = some (.slice b3 f.ar.length e3) := cell_of hF3 rfl
    have f4 : W3.cell? ⟨w2.heap.size, 4, none⟩ = some (.slice b4 f.co.length e4) := cell_of hF3 rfl
    have hfw3 := lt_of_block hF3
    rw [hm]
    clear hm hc hf hF o1 o2 H hfo I C PW2 hn hg r1 r2 r3 r4 bl3 hF3 hB3 Y3 hMB k0 k1 k2 k3 hb2 HSZ
    go_wp2_with fail
    refine HAD.out.mono ?_
    rintro e w4 ⟨X, E, ahb, rfl, hA, _, hb4⟩
    have HB4 := hide hb4
    have HBW := hide (show ∀ W : World, Below w4.heap.size w4 W → Below W3.heap.size W3 W from fun W h => bel_tr hb4 h)
    obtain ⟨_, cs, hcl, hah, hel⟩ := hA
    have hlh := lt_of_block hah
    have HAH := hide (show ∀ (W : World), Below w4.heap.size w4 W → ∀ (x : Nat) (q : Option (List Int)), F.ah[x]? = some q → ∃ c, W.cell? ⟨ahb, x, none⟩ = some c ∧ AhC X E W q c from fun W h x q hq => by
      obtain ⟨c, c1, c2⟩ := hel x q hq
      exact ⟨c, (h.cell (p := ⟨ahb, x, none⟩) hlh).trans (cell_of hah (by rw [List.getElem?_toArray]; exact c1)), c2.keep (Kp.of_below h)⟩)
    have HLO := hide (show ∀ W : World, Below W3.heap.size W3 W → IsAt (fun _ => False) W (.slice b1 f.lo.length e1) f.lo from fun W h => is_of_sl (HY3.out.below h).lo (HY3.out.below h).hB (fun _ _ h => h))
    clear hb4 hel hah hcl p0 p1 p2 p3 f0 f2 f3 HAD HF3
    obtain ⟨n, hn⟩ : ∃ n, f.co.length = n := ⟨_, rfl⟩
    have HN := hide hn
    rw [hn] at f4 HF HNC hW3
    have HFC := hide (show ∀ W : World, Below W3.heap.size W3 W → W.cell? ⟨w2.heap.size, 1, none⟩ = some (.slice b1 f.lo.length e1) ∧ W.cell? ⟨w2.heap.size, 4, none⟩ = some (.slice b4 n e4) ∧ w2.heap.size < W.heap.size from fun W h => ⟨(h.cell (p := ⟨w2.heap.size, 1, none⟩) hfw3).trans f1, (h.cell (p := ⟨w2.heap.size, 4, none⟩) hfw3).trans f4, Nat.lt_of_lt_of_le hfw3 h.size⟩)
    clear hn f1 f4
    rw [show (Value.slice (some ⟨ahb, 0, none⟩) f.co.length f.co.length) = .slice (some ⟨ahb, 0, none⟩) n n by rw [HN.out]]
    go_wp2
    go_loopw [9, 30] (fun a i wr => OmR f F.ah n w4 a i wr) (fun _ i _ => n - (intOf i).toNat)
    case atStart => exact ⟨0, 0, none, 0, [], rfl, Nat.zero_le _, rfl, rfl, ⟨⟨rfl, .inl ⟨rfl, rfl⟩⟩, rfl, fun j m h => by simp [selP] at h⟩, Below.refl _ _⟩
    case round =>
      obtain ⟨x, q, ao, cap, css, rfl, hx, rfl, hq, hO, hb⟩ := hrel
      have HB := hide hb
      have HO := hide hO
      have HQ := hide hq
      have hql : q ≤ 65536 := by rw [hq]; have := selP_len (f := f) (M := F.ah) x; have := HNC.out; omega
      clear hb hO hq
      by_cases hxl : x < n
      · have hxc : x < f.co.length := by rw [HN.out]; exact hxl
        obtain ⟨ii, hii⟩ : ∃ i, f.co[x]? = some i := ⟨f.co[x], by simp⟩
        have hco : coAt f x = ii := by unfold coAt; rw [hii]; rfl
        have B3 := HBW.out wr HB.out
        obtain ⟨gc, oc, ec, hv4, hgc, i0, _, _⟩ := ins_atM (HY3.out.below B3).co hii
        cases hv4
        have hgcw : gc < wr.heap.size := Nat.lt_of_lt_of_le hgc (HY3.out.below B3).hB
        obtain ⟨fc1, fc4, hfcl⟩ := HFC.out wr B3
        obtain ⟨oo, ho⟩ : ∃ oo, F.ah[x]? = some oo := ⟨F.ah[x]'(by rw [HLA.out]; exact hxc), by simp⟩
        obtain ⟨c, hc, hac⟩ := HAH.out wr HB.out x oo ho
        have hlw : ahb < wr.heap.size := Nat.lt_of_lt_of_le hlh HB.out.size
        have d1 : decide (x < n) = true := by simpa using hxl
        have d3 : (x : Int) ≤ 65536 := by have := HNC.out; omega
        have SKIP := hide (show F.ah[x]? = some none ∨ safeB (coAt f x).o = false → OmR f F.ah n w4 (.slice ao q cap) (.int .i64 ((x + 1 : Nat) : Int)) wr from fun h => ⟨x + 1, q, ao, cap, css, rfl, hxl, rfl, by rw [selP_none h]; exact HQ.out, by rw [selP_none h]; exact HO.out, HB.out⟩)
        cases oo with
        | none =>
          have hac2 : c = .pointer none := hac
          subst hac2
          have HR := hide (SKIP.out (.inl ho))
          clear ho hii hco SKIP hgc B3
          go_wp2
          go_roundw
          case rel => exact HR.out
          case measure => first | exact meas_int hxl (by omega) | (rw [intOf_int, intOf_int]; omega)
        | some s =>
          obtain ⟨b, rfl, hP⟩ := hac
          have HSF := hide (safe_any wr ii.o)
          by_cases hs : safeB ii.o = true
          · rw [hs] at HSF
            have hls : s.length ≤ 300000000 := (HMB.out x s ho).2
            have HSEL := hide (selP_some ho (show safeB (coAt f x).o = true by rw [hco]; exact hs))
            have HP := hide hP
            have HPT := hide (pointers_any (w := wr) (HLO.out wr B3) (by have := HNL.out; omega))
            have HB3W := hide B3
            clear ho hii hco SKIP hgc B3 hs hP
            go_wp2_with fail
            refine HSF.out.mono ?_
            rintro e w5 ⟨rfl, hw5⟩
            obtain rfl : wr = w5 := hw5.symm
            go_wp2_with fail
            refine HPT.out.mono ?_
            rintro e w5 ⟨rfl, h5, hb5⟩
            have HB5 := hide (show Below wr.heap.size wr w5 from hb5)
            have H5 := hide h5
            have HPO := hide (ptrsOf_any (HP.out.keep (Kp.of_below hb5)) hls)
            clear h5 hb5 HPT
            go_wp2_with fail
            refine HPO.out.mono ?_
            rintro e w6 ⟨rfl, h6, hb6⟩
            have HB6 := hide (show Below wr.heap.size wr w6 from bel_tr HB5.out hb6)
            obtain ⟨V1, hV1⟩ : ∃ V1, w6.alloc (.cells (mapV x f.lo.length s.length wr.heap.size w5.heap.size).toArray 52) = V1 := ⟨_, rfl⟩
            have b1 : Below w6.heap.size w6 V1 := by rw [← hV1]; exact (Below.refl _ _).alloc (Nat.le_refl _) _
            have hbV : Below wr.heap.size wr V1 := bel_tr HB6.out b1
            have H51 : V1.heap[wr.heap.size]? = some (.cells (bvs (nzs f.lo)).toArray 4 (0, 0)) := ((bel_tr hb6 b1).block _ (lt_of_block H5.out)).trans H5.out
            have H61 : V1.heap[w5.heap.size]? = some (.cells (bvs (nzs s)).toArray 4 (0, 0)) := (b1.block _ (lt_of_block h6)).trans h6
            obtain ⟨g7, cap7, V3, hrun, O7, hb7⟩ := (HO.out.below hbV).push (b := w6.heap.size) (x := x) (s := s) (Nat.le_trans HB.out.size hbV.size) (by have := HQ.out; omega) (by rw [← hV1]; exact heap_new _ _ rfl) H51 H61
            have HR := hide (show OmR f F.ah n w4 (.slice (some ⟨g7, 0, none⟩) (q + 1) cap7) (.int .i64 ((x + 1 : Nat) : Int)) V3 from ⟨x + 1, q + 1, _, cap7, _, rfl, hxl, rfl, by rw [HSEL.out, List.length_append, List.length_singleton, HQ.out], by
              rw [HSEL.out, HQ.out]
              exact O7, (HB.out.trans (hbV.mono HB.out.size)).trans hb7⟩)
            rw [← HQ.out] at hrun
            have d4 : (q : Int) ≤ 65536 := by omega
            clear h6 hb6 b1 hbV H51 H61 O7 hb7 HPO
            go_wp2_with (at_builtin; refine wpList_append_eq rfl _ _ 41 41 rfl rfl rfl hrun ?_; clear hrun)
            go_roundw
            case rel => exact HR.out
            case measure => first | exact meas_int hxl (by omega) | (rw [intOf_int, intOf_int]; omega)
          · have hs2 : safeB ii.o = false := by simpa using hs
            rw [hs2] at HSF
            have HR := hide (SKIP.out (.inr (by rw [hco]; exact hs2)))
            clear ho hii hco SKIP hgc B3 hs hs2 hP
            go_wp2_with fail
            refine HSF.out.mono ?_
            rintro e w5 ⟨rfl, hw5⟩
            obtain rfl : wr = w5 := hw5.symm
            go_wp2
            go_roundw
            case rel => exact HR.out
            case measure => first | exact meas_int hxl (by omega) | (rw [intOf_int, intOf_int]; omega)
      · obtain rfl : n = x := by omega
        have d1 : decide (n < n) = false := by simp
        have HE := hide (HF.out wr (.slice ao q cap) (bel_tr (bel_tr HB3.out HB4.out) HB.out) HO.out.lies)
        go_wp2
        go_ret2
        exact HE.out
end
end Go.Proofs.YtkdojpnihinpbaaDoor

namespace Go.Proofs.YtkdojpnihinpbaaDoor
open Go.RowKit
/-- How Layout ends. -/
def LaO (p : Pg) (m : Int) (w : World) (e : Ending) (W : World) : Prop := Below w.heap.size w W ∧
  (((checkP p).2.2 ≠ 0 ∧ e = .returned (.tuple #[.slice none 0 0, .int .i64 (checkP p).2.2])) ∨
  ((checkP p).2.2 = 0 ∧ inB m p.ty.length = false ∧ e = .returned (.tuple #[.slice none 0 0, .int .i64 6])) ∨
  ∃ (k : Nat) (l : List Int) (v : Value), (checkP p).2.2 = 0 ∧ m = (k : Int) ∧ p.ty[k]? = some l ∧ e = .returned (.tuple #[v, .int .i64 0]) ∧ BsAt W v (nzs l))
section
variable {B : Nat} {w : World} {p : Pg}
set_option maxRecDepth 100000 in
set_option maxHeartbeats 1000000 in
theorem layout_any {v1 v2 v3 v4 : Value} (P : PgAt B w v1 v2 v3 v4 p) (hB : B ≤ w.heap.size) (hT : Tb w) (hb0 : 0 < B) (m : Int) (hm : -9223372036854775808 ≤ m ∧ m ≤ 9223372036854775807) : Calls Tryd.prog 5 #[.agg #[v1, v2, v3, v4], .int .i64 m] w (LaO p m w) := by
  obtain ⟨a1, d1, hv1⟩ := sl_form P.ty
  obtain ⟨a2, d2, hv2⟩ := sl_form P.fu
  obtain ⟨a3, d3, hv3⟩ := sl_form P.ta
  obtain ⟨a4, d4, hv4⟩ := sl_form P.st
  subst hv1 hv2 hv3 hv4
  obtain ⟨W1, hW1⟩ : ∃ W1, w.alloc (.cells #[.slice a1 p.ty.length d1, .slice a2 p.fu.length d2, .slice a3 p.ta.length d3, .slice a4 p.st.length d4] 27) = W1 := ⟨_, rfl⟩
  have b1 : Below w.heap.size w W1 := by rw [← hW1]; exact (Below.refl _ _).alloc (Nat.le_refl _) _
  have e1 : W1.heap[w.heap.size]? = some (.cells #[.slice a1 p.ty.length d1, .slice a2 p.fu.length d2, .slice a3 p.ta.length d3, .slice a4 p.st.length d4] 27 (0, 0)) := by rw [← hW1]; exact heap_new _ _ rfl
  have HPW := hide (show ∀ W : World, Below W1.heap.size W1 W → PgAt B W (.slice a1 p.ty.length d1) (.slice a2 p.fu.length d2) (.slice a3 p.ta.length d3) (.slice a4 p.st.length d4) p ∧ B ≤ W.heap.size from fun W h => ⟨P.keep (Nat.le_refl _) (fun j hj => (bel_tr b1 h).block j (Nat.lt_of_lt_of_le hj hB)), Nat.le_trans hB (bel_tr b1 h).size⟩)
  have HPB := hide (show ∀ W : World, Below W1.heap.size W1 W → W.cell? ⟨w.heap.size, 0, none⟩ = some (.slice a1 p.ty.length d1) ∧ w.heap.size < W.heap.size from fun W h => ⟨cell_of ((h.block _ (lt_of_block e1)).trans e1) rfl, Nat.lt_of_lt_of_le (lt_of_block e1) h.size⟩)
  have HCK := hide (check_any (HPW.out W1 (Below.refl _ _)).1 (HPW.out W1 (Below.refl _ _)).2 (hT.keep (b1.block 0 (Nat.lt_of_lt_of_le hb0 hB))) hb0)
  have HB1 := hide b1
  have k0 : W1.cell? ⟨w.heap.size, 0, none⟩ = some (.slice a1 p.ty.length d1) := cell_of e1 rfl
  have k1 : W1.cell? ⟨w.heap.size, 1, none⟩ = some (.slice a2 p.fu.length d2) := cell_of e1 rfl
  have k2 : W1.cell? ⟨w.heap.size, 2, none⟩ = some (.slice a3 p.ta.length d3) := cell_of e1 rfl
  have k3 : W1.cell? ⟨w.heap.size, 3, none⟩ = some (.slice a4 p.st.length d4) := cell_of e1 rfl
  have HOK := hide (show (checkP p).2.2 = 0 → p.ty.length ≤ 1024 ∧ ∀ l ∈ p.ty, l.length ≤ 4096 from fun h => by
    obtain ⟨_, o1, o2, _⟩ := check_ok h
    have H := hok_of o1 o2
    exact ⟨H.nt, fun l hl => (H.ty l hl).2.1⟩)
  have HMM := hide hm
  clear P hB hT b1 e1 hm
  go_enter Tryd.func5, Tryd.ntmps5
  go_wp2_with fail
  refine HCK.out.mono ?_
  rintro e w2 ⟨rfl, hb2⟩
  have HB2 := hide (show Below W1.heap.size W1 w2 from hb2)
  obtain ⟨j0, hpw⟩ := HPB.out w2 hb2
  clear hb2 k0 k1 k2 k3 HCK
  obtain ⟨q1, hq1⟩ : ∃ c, (checkP p).1 = c := ⟨_, rfl⟩
  obtain ⟨q2, hq2⟩ : ∃ c, (checkP p).2.1 = c := ⟨_, rfl⟩
  obtain ⟨ce, hce⟩ : ∃ c, (checkP p).2.2 = c := ⟨_, rfl⟩
  rw [hq1, hq2, hce]
  rw [hce] at HOK
  have HCE := hide hce
  clear hq1 hq2 hce
  by_cases hc : ce = 0
  · have HCZ := hide (show (checkP p).2.2 = 0 from by rw [HCE.out]; exact hc)
    obtain ⟨hnt, hfl⟩ := HOK.out hc
    have HFL := hide hfl
    clear hfl
    subst hc
    have hn3 : (p.ty.length : Int) ≤ 1024 := by omega
    by_cases hi : inB m p.ty.length = true
    · obtain ⟨k, rfl, hk⟩ := in_nat hi
      obtain ⟨l, hl⟩ : ∃ l, p.ty[k]? = some l := ⟨p.ty[k], by simp⟩
      obtain ⟨g, o, c, n, u, hv, hn, hlt, hg, hcu, hul⟩ := lst_at (HPW.out w2 HB2.out).1.ty hl
      cases hv
      have hgw : g < w2.heap.size := Nat.lt_of_lt_of_le hg (HPW.out w2 HB2.out).2
      have HPT := hide (pointers_any (w := w2) (is_of_sl hul (HPW.out w2 HB2.out).2 (fun _ _ h => h)) (by have := HFL.out l (List.mem_of_getElem? hl); omega))
      obtain ⟨ua, uc, rfl⟩ := sl_form hul
      have HF := hide (show ∀ (W : World) (v : Value), Below w.heap.size w W → BsAt W v (nzs l) → LaO p (k : Int) w (.returned (.tuple #[v, .int .i64 0])) W from fun W v h hv => ⟨h, .inr (.inr ⟨k, l, v, HCZ.out, rfl, hl, rfl, hv⟩)⟩)
      have d0 : decide (k < p.ty.length) = true := by simpa using hk
      have d1 : decide ((p.ty.length : Int) ≤ (k : Int)) = false := by simp; omega
      have d2 : decide ((k : Int) < 0) = false := by simp
      clear hi hl hul hn hg
      go_wp2_with fail
      refine HPT.out.mono ?_
      rintro e w3 ⟨rfl, h3, hb3⟩
      have HE := hide (HF.out w3 _ (bel_tr (bel_tr HB1.out HB2.out) hb3) (by have := BsAt.block h3; rwa [nzs_len] at this))
      clear h3 hb3
      go_wp2
      go_ret2
      exact HE.out
    · have hi2 : inB m p.ty.length = false := by simpa using hi
      have HE := hide (show LaO p m w (.returned (.tuple #[.slice none 0 0, .int .i64 6])) w2 from ⟨bel_tr HB1.out HB2.out, .inr (.inl ⟨HCZ.out, hi2, rfl⟩)⟩)
      have h3 : m < 0 ∨ (p.ty.length : Int) ≤ m := by
        have h := of_decide_eq_false hi2
        omega
      clear hi hi2
      by_cases hm0 : m < 0
      · have d1 : decide (m < 0) = true := by simpa using hm0
        clear h3
        go_wp2
        go_ret2
        exact HE.out
      · have d1 : decide (m < 0) = false := by simpa using hm0
        have d2 : decide ((p.ty.length : Int) ≤ m) = true := by simp; omega
        clear h3
        go_wp2
        go_ret2
        exact HE.out
  · have q0 : (ce != 0) = true := by simpa using hc
    have HE := hide (show LaO p m w (.returned (.tuple #[.slice none 0 0, .int .i64 ce])) w2 from ⟨bel_tr HB1.out HB2.out, .inl ⟨by rw [HCE.out]; exact hc, by rw [HCE.out]⟩⟩)
    clear hc
    go_wp2
    go_ret2
    exact HE.out
end
end Go.Proofs.YtkdojpnihinpbaaDoor

namespace Go.Proofs.YtkdojpnihinpbaaDoor
open Go.RowKit
def awF : Fd := ⟨0, [], [], [], [⟨1, 5, 0⟩, ⟨25, 0, 0⟩, ⟨28, 0, 0⟩]⟩
def awP : Pg := ⟨[], [awF], [], []⟩
theorem aw_check : checkP awP = (0, 0, 0) := by decide +kernel
theorem aw_size : (match followP awP awF with | .ok F => szP awP awF F | .error _ => 0) = 1 := by decide +kernel
theorem sl_nil {α : Type} {k : Nat} {P : World → List Value → α → Prop} {B : Nat} {w : World} : SlAt k P B w (.slice none 0 0) ([] : List α) := ⟨none, 0, rfl, ⟨by simp, by simp, by unfold maxLen; omega⟩, fun j x hx => by simp at hx⟩
section
variable {w : World}
theorem aw_pg {W : World} {b0 b1 : Nat} (h0 : W.heap[b0]? = some (.cells #[.int .i64 1, .int .i64 5, .int .i64 0, .int .i64 25, .int .i64 0, .int .i64 0, .int .i64 28, .int .i64 0, .int .i64 0] 47 (0, 0))) (h1 : W.heap[b1]? = some (.cells #[.int .i64 0, .slice none 0 0, .slice none 0 0, .slice none 0 0, .slice (some ⟨b0, 0, none⟩) 3 3] 50 (0, 0))) : PgAt W.heap.size W (.slice none 0 0) (.slice (some ⟨b1, 0, none⟩) 1 1) (.slice none 0 0) (.slice none 0 0) awP := by
  refine ⟨sl_nil, ⟨some ⟨b1, 0, none⟩, 1, rfl, ⟨by simp [awP], by simp [awP], by unfold maxLen; omega⟩, fun j x hx => ?_⟩, sl_nil, sl_nil⟩
  match j, hx with
  | 0, hx =>
    cases hx
    refine ⟨b1, 0, [.int .i64 0, .slice none 0 0, .slice none 0 0, .slice none 0 0, .slice (some ⟨b0, 0, none⟩) 3 3], rfl, lt_of_block h1, fun r u hu => ?_, _, _, _, _, rfl, by simp [awF], sl_nil, sl_nil, sl_nil, ⟨some ⟨b0, 0, none⟩, 3, rfl, ⟨by simp [awF], by simp [awF], by unfold maxLen; omega⟩, fun j y hy => ?_⟩⟩
    · rw [Nat.zero_mul, Nat.add_zero, Nat.zero_add]
      exact cell_of h1 (by simpa using hu)
    · match j, hy with
      | 0, hy =>
        cases hy
        refine ⟨b0, 0, [.int .i64 1, .int .i64 5, .int .i64 0], rfl, lt_of_block h0, fun r u hu => ?_, rfl, by simp⟩
        match r, hu with
        | 0, hu => cases hu; exact cell_of h0 rfl
        | 1, hu => cases hu; exact cell_of h0 rfl
        | 2, hu => cases hu; exact cell_of h0 rfl
      | 1, hy =>
        cases hy
        refine ⟨b0, 0, [.int .i64 25, .int .i64 0, .int .i64 0], rfl, lt_of_block h0, fun r u hu => ?_, rfl, by simp⟩
        match r, hu with
        | 0, hu => cases hu; exact cell_of h0 rfl
        | 1, hu => cases hu; exact cell_of h0 rfl
        | 2, hu => cases hu; exact cell_of h0 rfl
      | 2, hy =>
        cases hy
        refine ⟨b0, 0, [.int .i64 28, .int .i64 0, .int .i64 0], rfl, lt_of_block h0, fun r u hu => ?_, rfl, by simp⟩
        match r, hu with
        | 0, hu => cases hu; exact cell_of h0 rfl
        | 1, hu => cases hu; exact cell_of h0 rfl
        | 2, hu => cases hu; exact cell_of h0 rfl
end
end Go.Proofs.YtkdojpnihinpbaaDoor

namespace Go.Proofs.YtkdojpnihinpbaaDoor
open Go.RowKit
theorem info_intsD : (Tryd.prog.info? 37).map (fun i => (i.zero, i.size, i.bytes)) = some (some (.slice none 0 0), 1, 24) := by kernel_rfl
theorem info_boolD : (Tryd.prog.info? 4).map (fun i => (i.zero, i.size, i.bytes)) = some (some (.bool false), 1, 1) := by kernel_rfl
theorem made_one (v : Value) (n : Nat) : madeCells #[v] n = (List.replicate n v).toArray := by
  apply Array.ext
  · simp [madeCells]
  · intro i h1 h2
    simp [madeCells, Nat.mod_one]
theorem run_intss (w : World) (n : Nat) (hn : n ≤ 65536) : (Instr.makeSlice 24 (.int .i64 n) (.int .i64 n)).run Tryd.prog w = .ok (.slice (some ⟨w.heap.size, 0, none⟩) n n) (w.alloc (.cells (List.replicate n (Value.slice none 0 0)).toArray 37)) := by
  obtain ⟨i0, hi, hz0, hz1, hz2⟩ := info_parts info_intsD
  have hmk := run_make (P := Tryd.prog) w 24 37 i0 (.slice none 0 0) Tryd.underlying24 hi hz0 .i64 .i64 n n (by omega) (Int.le_refl _) (by rw [hz2]; omega) (by omega)
  rw [hz1] at hmk
  simp only [Int.toNat_natCast, Nat.mul_one] at hmk
  rw [show (Value.slice none 0 0).cells = #[Value.slice none 0 0] from rfl, made_one] at hmk
  exact hmk
theorem run_bools (w : World) (n : Nat) (hn : n ≤ 65536) : (Instr.makeSlice 28 (.int .i64 n) (.int .i64 n)).run Tryd.prog w = .ok (.slice (some ⟨w.heap.size, 0, none⟩) n n) (w.alloc (.cells (List.replicate n (Value.bool false)).toArray 4)) := by
  obtain ⟨i0, hi, hz0, hz1, hz2⟩ := info_parts info_boolD
  have hmk := run_make (P := Tryd.prog) w 28 4 i0 (.bool false) Tryd.underlying28 hi hz0 .i64 .i64 n n (by omega) (Int.le_refl _) (by rw [hz2]; omega) (by omega)
  rw [hz1] at hmk
  simp only [Int.toNat_natCast, Nat.mul_one] at hmk
  rw [show (Value.bool false).cells = #[Value.bool false] from rfl, made_one] at hmk
  exact hmk
theorem list_any {E b : Nat} {Z : Nat → Prop} {s : List Int} {w : World} (P : PileAt Z w E b s) (hs : s.length ≤ 300000000) : Calls Tryd.prog 22 #[pp b] w fun e W => e = .returned (.slice (some ⟨w.heap.size, 0, none⟩) s.length s.length) ∧ W.heap[w.heap.size]? = some (.cells (ivs s).toArray 3 (0, 0)) ∧ Below w.heap.size w W := (list_in (m := 0) P hs).calls FX_room
/-- The cell of a stack's list. -/
def LsC (sb cb : Nat) (W : World) : Option (List Int) → Value → Prop
  | none, c => c = .slice none 0 0
  | some s, c => ∃ g, c = .slice (some ⟨g, 0, none⟩) s.length s.length ∧ g ≠ sb ∧ g ≠ cb ∧ W.heap[g]? = some (.cells (ivs s).toArray 3 (0, 0))
structure StR (ah : List (Option (List Int))) (L sb cb k : Nat) (w2 W : World) (scs ccs : List Value) : Prop where
  bel : Below w2.heap.size w2 W
  sb1 : W.heap[sb]? = some (.cells scs.toArray 37 (0, 0))
  cb1 : W.heap[cb]? = some (.cells ccs.toArray 4 (0, 0))
  sl : scs.length = L
  cl : ccs.length = L
  old : ∀ (x : Nat) (o : Option (List Int)), ah[x]? = some o → x < k → (∃ c, scs[x]? = some c ∧ LsC sb cb W o c) ∧ ccs[x]? = some (.bool o.isSome)
  new : ∀ x, k ≤ x → x < L → scs[x]? = some (.slice none 0 0) ∧ ccs[x]? = some (.bool false)
section
variable {ah : List (Option (List Int))} {L sb cb k : Nat} {w2 W W' : World} {scs ccs : List Value}
theorem LsC.keep {o : Option (List Int)} {c : Value} (h : LsC sb cb W o c) (hb : ∀ j, j < W.heap.size → j ≠ sb → j ≠ cb → W'.heap[j]? = W.heap[j]?) : LsC sb cb W' o c := by
  cases o with
  | none => exact h
  | some s =>
    obtain ⟨g, h1, h2, h3, h4⟩ := h
    exact ⟨g, h1, h2, h3, (hb g (lt_of_block h4) h2 h3).trans h4⟩
theorem StR.skip (S : StR ah L sb cb k w2 W scs ccs) (hk : ah[k]? = some none) (hL : k < L) : StR ah L sb cb (k + 1) w2 W scs ccs :=
  ⟨S.bel, S.sb1, S.cb1, S.sl, S.cl, fun x o ho hx => by
    rcases Nat.lt_or_ge x k with h | h
    · exact S.old x o ho h
    · obtain rfl : x = k := by omega
      rw [hk] at ho
      cases ho
      obtain ⟨h1, h2⟩ := S.new x (Nat.le_refl _) hL
      exact ⟨⟨_, h1, rfl⟩, h2⟩, fun x h1 h2 => S.new x (by omega) h2⟩
theorem StR.put {s : List Int} (S : StR ah L sb cb k w2 W scs ccs) (hk : ah[k]? = some (some s)) (hL : k < L) (hsc : sb ≠ cb) (h2 : w2.heap.size ≤ sb) (h3 : w2.heap.size ≤ cb) (hb : Below W.heap.size W W') (hg : W'.heap[W.heap.size]? = some (.cells (ivs s).toArray 3 (0, 0))) : StR ah L sb cb (k + 1) w2 ((W'.setCell ⟨sb, k, none⟩ (.slice (some ⟨W.heap.size, 0, none⟩) s.length s.length)).setCell ⟨cb, k, none⟩ (.bool true)) (scs.set k (.slice (some ⟨W.heap.size, 0, none⟩) s.length s.length)) (ccs.set k (.bool true)) := by
  have l1 := lt_of_block S.sb1
  have l2 := lt_of_block S.cb1
  have k1 : ∀ (V : World) (u : Value) j, j ≠ sb → (V.setCell ⟨sb, k, none⟩ u).heap[j]? = V.heap[j]? := fun V u j hj => Below.heap_setCell _ _ _ j hj
  have k2 : ∀ (V : World) (u : Value) j, j ≠ cb → (V.setCell ⟨cb, k, none⟩ u).heap[j]? = V.heap[j]? := fun V u j hj => Below.heap_setCell _ _ _ j hj
  have q : ∀ j, j ≠ sb → j ≠ cb → ((W'.setCell ⟨sb, k, none⟩ (.slice (some ⟨W.heap.size, 0, none⟩) s.length s.length)).setCell ⟨cb, k, none⟩ (.bool true)).heap[j]? = W'.heap[j]? := fun j hs hc => (k2 _ _ j hc).trans (k1 _ _ j hs)
  have e1 := (hb.block _ l1).trans S.sb1
  have e2 := (hb.block _ l2).trans S.cb1
  refine ⟨((S.bel.trans (hb.mono (by have := S.bel.size; omega))).setCell h2 _).setCell h3 _, ?_, ?_, by simp [S.sl], by simp [S.cl], fun x o ho hx => ?_, fun x hx hxL => ?_⟩
  · rw [k2 _ _ _ hsc, heap_setCell_same _ sb k _ e1, List.setIfInBounds_toArray]
  · rw [heap_setCell_same _ cb k _ ((k1 _ _ _ (Ne.symm hsc)).trans e2), List.setIfInBounds_toArray]
  · rw [List.getElem?_set, List.getElem?_set]
    by_cases h : k = x
    · subst h
      rw [hk] at ho
      cases ho
      rw [if_pos rfl, if_pos (by rw [S.sl]; exact hL), if_pos rfl, if_pos (by rw [S.cl]; exact hL)]
      exact ⟨⟨_, rfl, W.heap.size, rfl, by omega, by omega, (q _ (by omega) (by omega)).trans hg⟩, rfl⟩
    · rw [if_neg h, if_neg h]
      obtain ⟨⟨c, h1, h2⟩, h3⟩ := S.old x o ho (by omega)
      exact ⟨⟨c, h1, h2.keep fun j hj hs hc => (q j hs hc).trans (hb.block j hj)⟩, h3⟩
  · rw [List.getElem?_set, List.getElem?_set, if_neg (by omega), if_neg (by omega)]
    exact S.new x (by omega) hxL
theorem ints_block {g : Nat} {s : List Int} (h : W.heap[g]? = some (.cells (ivs s).toArray 3 (0, 0))) (hb : ∀ x ∈ s, -9223372036854775808 ≤ x ∧ x ≤ 9223372036854775807) (hl : s.length ≤ 300000000) : SlAt 1 IntP W.heap.size W (.slice (some ⟨g, 0, none⟩) s.length s.length) s := by
  refine ⟨_, _, rfl, ⟨by omega, Nat.le_refl _, by unfold maxLen; omega⟩, fun j x hx => ⟨g, 0, [.int .i64 x], rfl, lt_of_block h, fun r u hr => ?_, rfl, hb x (List.mem_of_getElem? hx)⟩⟩
  match r, hr with
  | 0, hr =>
    cases hr
    refine cell_of h ?_
    rw [Nat.zero_add, Nat.add_zero, Nat.mul_one, List.getElem?_toArray]
    simp [ivs, hx]
theorem StR.fin (S : StR ah L sb cb L w2 W scs ccs) (hl : ah.length = L) (hL : L ≤ 65536) (hb : ∀ (y : Nat) (t : List Int), ah[y]? = some (some t) → (∀ x ∈ t, -9223372036854775808 ≤ x ∧ x ≤ 9223372036854775807) ∧ t.length ≤ 300000000) : SlAt 1 (LstP W.heap.size) W.heap.size W (.slice (some ⟨sb, 0, none⟩) L L) (ah.map fun o => o.getD []) ∧ W.heap[cb]? = some (.cells (ah.map fun o => Value.bool o.isSome).toArray 4 (0, 0)) := by
  refine ⟨⟨_, L, by rw [List.length_map, hl], by rw [List.length_map, hl]; exact ⟨by omega, Nat.le_refl _, by unfold maxLen; omega⟩, fun j x hx => ?_⟩, ?_⟩
  · rw [List.getElem?_map] at hx
    cases ho : ah[j]? with
    | none => rw [ho] at hx; cases hx
    | some o =>
      rw [ho] at hx
      cases hx
      obtain ⟨⟨c, h1, h2⟩, _⟩ := S.old j o ho (by have := get_lt ho; omega)
      refine ⟨sb, 0, [c], rfl, lt_of_block S.sb1, fun r u hr => ?_, c, rfl, ?_⟩
      · match r, hr with
        | 0, hr =>
          cases hr
          refine cell_of S.sb1 ?_
          rw [Nat.zero_add, Nat.add_zero, Nat.mul_one, List.getElem?_toArray]
          exact h1
      · cases o with
        | none => cases h2; exact sl_nil
        | some s =>
          obtain ⟨g, rfl, _, _, hg⟩ := h2
          exact ints_block hg (hb j s ho).1 (hb j s ho).2
  · rw [S.cb1]
    congr 3
    apply List.ext_getElem?
    intro j
    rw [List.getElem?_map]
    cases ho : ah[j]? with
    | none =>
      rw [List.getElem?_eq_none_iff] at ho
      rw [List.getElem?_eq_none (by rw [S.cl]; omega)]
      rfl
    | some o => exact (S.old j o ho (by have := get_lt ho; omega)).2
end
theorem kb_bounds {n : Nat} {k : Int} (hn : n ≤ 1024) (h : isKB n k = true) : -9223372036854775808 ≤ k ∧ k ≤ 9223372036854775807 := by
  unfold isKB bareK at h
  rw [decide_eq_true_eq] at h
  split at h <;> omega
/-- How Stacks ends. -/
def StO (p : Pg) (m : Int) (w : World) (e : Ending) (W : World) : Prop := Below w.heap.size w W ∧
  (((checkP p).2.2 ≠ 0 ∧ e = .returned (.tuple #[.slice none 0 0, .slice none 0 0, .int .i64 (checkP p).2.2])) ∨
  ((checkP p).2.2 = 0 ∧ inB m p.fu.length = false ∧ e = .returned (.tuple #[.slice none 0 0, .slice none 0 0, .int .i64 6])) ∨
  ∃ (k : Nat) (f : Fd) (F : Fl) (sb cb : Nat), (checkP p).2.2 = 0 ∧ m = (k : Int) ∧ p.fu[k]? = some f ∧ followP p f = .ok F ∧ F.ah.length = f.co.length ∧ f.co.length ≤ 65536 ∧ e = .returned (.tuple #[.slice (some ⟨sb, 0, none⟩) f.co.length f.co.length, .slice (some ⟨cb, 0, none⟩) f.co.length f.co.length, .int .i64 0]) ∧ w.heap.size ≤ sb ∧ w.heap.size ≤ cb ∧ SlAt 1 (LstP W.heap.size) W.heap.size W (.slice (some ⟨sb, 0, none⟩) f.co.length f.co.length) (F.ah.map fun o => o.getD []) ∧ W.heap[cb]? = some (.cells (F.ah.map fun o => Value.bool o.isSome).toArray 4 (0, 0)))
def StL (ah : List (Option (List Int))) (L sb cb : Nat) (w2 : World) (a : Value) (wr : World) : Prop := ∃ k : Nat, a = .int .i64 k ∧ k ≤ L ∧ ∃ scs ccs, StR ah L sb cb k w2 wr scs ccs
section
variable {B : Nat} {w : World} {p : Pg}
set_option maxRecDepth 100000 in
set_option maxHeartbeats 1000000 in
theorem stacks_any {v1 v2 v3 v4 : Value} (P : PgAt B w v1 v2 v3 v4 p) (hB : B ≤ w.heap.size) (hT : Tb w) (hb0 : 0 < B) (m : Int) : Calls Tryd.prog 11 #[.agg #[v1, v2, v3, v4], .int .i64 m] w (StO p m w) := by
  obtain ⟨a1, d1, hv1⟩ := sl_form P.ty
  obtain ⟨a2, d2, hv2⟩ := sl_form P.fu
  obtain ⟨a3, d3, hv3⟩ := sl_form P.ta
  obtain ⟨a4, d4, hv4⟩ := sl_form P.st
  subst hv1 hv2 hv3 hv4
  obtain ⟨W1, hW1⟩ : ∃ W1, w.alloc (.cells #[.slice a1 p.ty.length d1, .slice a2 p.fu.length d2, .slice a3 p.ta.length d3, .slice a4 p.st.length d4] 27) = W1 := ⟨_, rfl⟩
  have b1 : Below w.heap.size w W1 := by rw [← hW1]; exact (Below.refl _ _).alloc (Nat.le_refl _) _
  have e1 : W1.heap[w.heap.size]? = some (.cells #[.slice a1 p.ty.length d1, .slice a2 p.fu.length d2, .slice a3 p.ta.length d3, .slice a4 p.st.length d4] 27 (0, 0)) := by rw [← hW1]; exact heap_new _ _ rfl
  have PW : PgAt B W1 (.slice a1 p.ty.length d1) (.slice a2 p.fu.length d2) (.slice a3 p.ta.length d3) (.slice a4 p.st.length d4) p := P.keep (Nat.le_refl _) (fun j hj => b1.block j (Nat.lt_of_lt_of_le hj hB))
  have HSF := hide (soundFlow_any PW (Nat.le_trans hB b1.size) (hT.keep (b1.block 0 (Nat.lt_of_lt_of_le hb0 hB))) hb0 m)
  have HB1 := hide b1
  have k0 : W1.cell? ⟨w.heap.size, 0, none⟩ = some (.slice a1 p.ty.length d1) := cell_of e1 rfl
  have k1 : W1.cell? ⟨w.heap.size, 1, none⟩ = some (.slice a2 p.fu.length d2) := cell_of e1 rfl
  have k2 : W1.cell? ⟨w.heap.size, 2, none⟩ = some (.slice a3 p.ta.length d3) := cell_of e1 rfl
  have k3 : W1.cell? ⟨w.heap.size, 3, none⟩ = some (.slice a4 p.st.length d4) := cell_of e1 rfl
  clear P hB hT hb0 b1 e1 PW
  go_enter Tryd.func11, Tryd.ntmps11
  go_wp2_with fail
  refine HSF.out.mono ?_
  rintro e w2 ⟨hb2, (⟨hc, rfl⟩ | ⟨hc, hi, rfl⟩ | ⟨k, f, F, A, ahb, wtb, E, V, at_, hc, hm, hf, hF, rfl, hM⟩)⟩
  · have HB2 := hide (bel_tr HB1.out hb2)
    have HC := hide hc
    obtain ⟨ce, hce⟩ : ∃ c, (checkP p).2.2 = c := ⟨_, rfl⟩
    have HF := hide (show ∀ W, Below w.heap.size w W → StO p m w (.returned (.tuple #[.slice none 0 0, .slice none 0 0, .int .i64 ce])) W from fun W h => ⟨h, .inl ⟨HC.out, by rw [hce]⟩⟩)
    rw [hce] at hc ⊢
    have q0 : (ce != 0) = true := by simpa using hc
    clear hb2 hc hce
    go_wp2
    go_ret3
    exact HF.out _ HB2.out
  · have HB2 := hide (bel_tr HB1.out hb2)
    have HF := hide (show ∀ W, Below w.heap.size w W → StO p m w (.returned (.tuple #[.slice none 0 0, .slice none 0 0, .int .i64 6])) W from fun W h => ⟨h, .inr (.inl ⟨hc, hi, rfl⟩)⟩)
    clear hb2 hc hi
    go_wp2
    go_ret3
    exact HF.out _ HB2.out
  · obtain ⟨_, o1, o2, _⟩ := check_ok hc
    have H := hok_of o1 o2
    have hfo := H.fu f (List.mem_of_getElem? hf)
    have I := follow_inv H hfo hF
    have HBD := hide (show ∀ (y : Nat) (t : List Int), F.ah[y]? = some (some t) → (∀ x ∈ t, -9223372036854775808 ≤ x ∧ x ≤ 9223372036854775807) ∧ t.length ≤ 300000000 from fun y t ht => by
      obtain ⟨h1, h2⟩ := I.st y t ht
      have hn : p.ty.length ≤ 1024 := by
        simp only [sndP, Bool.and_eq_true] at o1
        exact (eachB_le o1.1).1
      have := hfo.nc
      exact ⟨fun x hx => kb_bounds hn (h1 x hx), by omega⟩)
    have HF := hide (show ∀ (W : World) (sb cb : Nat), Below w.heap.size w W → w.heap.size ≤ sb → w.heap.size ≤ cb → SlAt 1 (LstP W.heap.size) W.heap.size W (.slice (some ⟨sb, 0, none⟩) f.co.length f.co.length) (F.ah.map fun o => o.getD []) ∧ W.heap[cb]? = some (.cells (F.ah.map fun o => Value.bool o.isSome).toArray 4 (0, 0)) → StO p m w (.returned (.tuple #[.slice (some ⟨sb, 0, none⟩) f.co.length f.co.length, .slice (some ⟨cb, 0, none⟩) f.co.length f.co.length, .int .i64 0])) W from fun W sb cb h h1 h2 h3 => ⟨h, .inr (.inr ⟨k, f, F, sb, cb, hc, hm, hf, hF, I.la, hM.nc, rfl, h1, h2, h3.1, h3.2⟩)⟩)
    have c11 : w2.cell? ⟨A, 11, none⟩ = some (.slice (some ⟨ahb, 0, none⟩) f.co.length f.co.length) := by rw [← hM.va]; exact cell_of hM.fl.box rfl
    have hlA := (hM.lt (.inl rfl)).2
    have hlh := (hM.lt (.inr (.inl rfl))).2
    obtain ⟨hal, cs, hcl, hah, hel⟩ := hM.ah
    have HAH := hide (show ∀ (W : World), Below w2.heap.size w2 W → ∀ (x : Nat) (o : Option (List Int)), F.ah[x]? = some o → ∃ c, W.cell? ⟨ahb, x, none⟩ = some c ∧ AhC (Xf A ahb wtb) E W o c from fun W h x o ho => by
      obtain ⟨c, c1, c2⟩ := hel x o ho
      exact ⟨c, (h.cell (p := ⟨ahb, x, none⟩) hlh).trans (cell_of hah (by rw [List.getElem?_toArray]; exact c1)), c2.keep (Kp.of_below h)⟩)
    have HNC := hide hM.nc
    have HB2 := hide hb2
    have HAL := hide hal
    clear hb2 hc hm hf hF hM o1 o2 H hfo I hel hah hcl hal k0 k1 k2 k3 hW1 cs
    obtain ⟨L, hL⟩ : ∃ L, f.co.length = L := ⟨_, rfl⟩
    rw [hL] at c11 HF HNC HAL
    clear hL
    have hw2 : w.heap.size ≤ w2.heap.size := (bel_tr HB1.out HB2.out).size
    go_upto_region 4 with (fail)
    go_cut [4, 5] from 19 to 30 (fun x y wc => Hid (∃ sb cb, x = .slice (some ⟨sb, 0, none⟩) L L ∧ y = .slice (some ⟨cb, 0, none⟩) L L ∧ sb ≠ cb ∧ w2.heap.size ≤ sb ∧ w2.heap.size ≤ cb ∧ StR F.ah L sb cb 0 w2 wc (List.replicate L (.slice none 0 0)) (List.replicate L (.bool false))))
    case first =>
      have HKS := hide (show ∀ W : World, Below w2.heap.size w2 W → (fun W : World => W.cell? ⟨A, 11, none⟩ = some (.slice (some ⟨ahb, 0, none⟩) L L)) W from fun W h => (h.cell (p := ⟨A, 11, none⟩) hlA).trans c11)
      have HNW := hide (show ∀ (W : World) (sb cb : Nat), Below w2.heap.size w2 W → W.heap[sb]? = some (.cells (List.replicate L (Value.slice none 0 0)).toArray 37 (0, 0)) → W.heap[cb]? = some (.cells (List.replicate L (Value.bool false)).toArray 4 (0, 0)) → StR F.ah L sb cb 0 w2 W (List.replicate L (.slice none 0 0)) (List.replicate L (.bool false)) from fun W sb cb h h1 h2 => ⟨h, h1, h2, by simp, by simp, fun x o _ hx => absurd hx (by omega), fun x _ hx => by simp [hx]⟩)
      refine wp_region_held_drew (S := (fun W : World => W.cell? ⟨A, 11, none⟩ = some (.slice (some ⟨ahb, 0, none⟩) L L))) (by kernel_rfl) (HKS.out _ (below_drew (Below.refl _ _))) (fun hHeld1 => ?_)
      refine wpAnyH_take (i := 0) (oi := { dst := some 19, op := Go.Op.move (Go.Operand.tmp 7), type := 67, pos := "verify.go:25", after := #[], guard := none }) (v := ?v2) rfl (by kernel_rfl) (by kernel_rfl) (by kernel_rfl) (fun _ _ _ h => h) (Or.inl ⟨by rfl, ?hy2⟩) (by assumption) ?_
      case hy2 => (intro W hSw; (try dsimp only at hSw); go_simp; try with_reducible rfl)
      try simp only [Act.put, List.setIfInBounds_toArray, List.set_cons_zero, List.set_cons_succ]
      refine wpAnyH_take (i := 1) (oi := { dst := some 20, op := Go.Op.nilCheck (Go.Operand.tmp 19), type := 0, pos := "verify.go:25", after := #[{ on := 0, ground := Go.Ground.data }], guard := none }) (v := ?v3) rfl (by kernel_rfl) (by kernel_rfl) (by kernel_rfl) (fun _ _ _ h => h) (Or.inl ⟨by rfl, ?hy3⟩) (by assumption) ?_
      case hy3 => (intro W hSw; (try dsimp only at hSw); go_simp; try with_reducible rfl)
      try simp only [Act.put, List.setIfInBounds_toArray, List.set_cons_zero, List.set_cons_succ]
      refine wpAnyH_take (i := 2) (oi := { dst := some 21, op := Go.Op.fieldAddr 75 (Go.Operand.tmp 20) 3, type := 0, pos := "verify.go:25", after := #[{ on := 1, ground := Go.Ground.data }], guard := none }) (v := ?v4) rfl (by kernel_rfl) (by kernel_rfl) (by kernel_rfl) (fun _ _ _ h => h) (Or.inl ⟨by rfl, ?hy4⟩) (by assumption) ?_
      case hy4 => (intro W hSw; (try dsimp only at hSw); go_simp; try with_reducible rfl)
      try simp only [Act.put, List.setIfInBounds_toArray, List.set_cons_zero, List.set_cons_succ]
      refine wpAnyH_take (i := 3) (oi := { dst := some 22, op := Go.Op.load 62 (Go.Operand.tmp 21), type := 62, pos := "verify.go:25", after := #[{ on := 2, ground := Go.Ground.data }], guard := none }) (v := ?v5) rfl (by kernel_rfl) (by kernel_rfl) (by kernel_rfl) (fun _ _ _ h => h) (Or.inl ⟨by rfl, ?hy5⟩) (by assumption) ?_
      case hy5 => (intro W hSw; (try dsimp only at hSw); go_simp; try with_reducible rfl)
      try simp only [Act.put, List.setIfInBounds_toArray, List.set_cons_zero, List.set_cons_succ]
      refine wpAnyH_take (i := 4) (oi := { dst := some 23, op := Go.Op.call { callee := Go.Callee.builtin Go.Builtin.len, args := #[Go.Operand.tmp 22], argTypes := #[62] }, type := 3, pos := "verify.go:25", after := #[{ on := 3, ground := Go.Ground.data }], guard := none }) (v := ?v6) rfl (by kernel_rfl) (by kernel_rfl) (by kernel_rfl) (fun _ _ _ h => h) (Or.inl ⟨by rfl, ?hy6⟩) (by assumption) ?_
      case hy6 => (intro W hSw; (try dsimp only at hSw); go_simp; try with_reducible rfl)
      try simp only [Act.put, List.setIfInBounds_toArray, List.set_cons_zero, List.set_cons_succ]
      refine wpAnyH_take (i := 6) (oi := { dst := some 25, op := Go.Op.move (Go.Operand.tmp 7), type := 67, pos := "verify.go:25", after := #[], guard := none }) (v := ?v7) rfl (by kernel_rfl) (by kernel_rfl) (by kernel_rfl) (fun _ _ _ h => h) (Or.inl ⟨by rfl, ?hy7⟩) (by assumption) ?_
      case hy7 => (intro W hSw; (try dsimp only at hSw); go_simp; try with_reducible rfl)
      try simp only [Act.put, List.setIfInBounds_toArray, List.set_cons_zero, List.set_cons_succ]
      refine wpAnyH_take (i := 7) (oi := { dst := some 26, op := Go.Op.nilCheck (Go.Operand.tmp 25), type := 0, pos := "verify.go:25", after := #[{ on := 6, ground := Go.Ground.data }], guard := none }) (v := ?v8) rfl (by kernel_rfl) (by kernel_rfl) (by kernel_rfl) (fun _ _ _ h => h) (Or.inl ⟨by rfl, ?hy8⟩) (by assumption) ?_
      case hy8 => (intro W hSw; (try dsimp only at hSw); go_simp; try with_reducible rfl)
      try simp only [Act.put, List.setIfInBounds_toArray, List.set_cons_zero, List.set_cons_succ]
      refine wpAnyH_take (i := 8) (oi := { dst := some 27, op := Go.Op.fieldAddr 75 (Go.Operand.tmp 26) 3, type := 0, pos := "verify.go:25", after := #[{ on := 7, ground := Go.Ground.data }], guard := none }) (v := ?v9) rfl (by kernel_rfl) (by kernel_rfl) (by kernel_rfl) (fun _ _ _ h => h) (Or.inl ⟨by rfl, ?hy9⟩) (by assumption) ?_
      case hy9 => (intro W hSw; (try dsimp only at hSw); go_simp; try with_reducible rfl)
      try simp only [Act.put, List.setIfInBounds_toArray, List.set_cons_zero, List.set_cons_succ]
      refine wpAnyH_take (i := 9) (oi := { dst := some 28, op := Go.Op.load 62 (Go.Operand.tmp 27), type := 62, pos := "verify.go:25", after := #[{ on := 8, ground := Go.Ground.data }], guard := none }) (v := ?v10) rfl (by kernel_rfl) (by kernel_rfl) (by kernel_rfl) (fun _ _ _ h => h) (Or.inl ⟨by rfl, ?hy10⟩) (by assumption) ?_
      case hy10 => (intro W hSw; (try dsimp only at hSw); go_simp; try with_reducible rfl)
      try simp only [Act.put, List.setIfInBounds_toArray, List.set_cons_zero, List.set_cons_succ]
      refine wpAnyH_take (i := 10) (oi := { dst := some 29, op := Go.Op.call { callee := Go.Callee.builtin Go.Builtin.len, args := #[Go.Operand.tmp 28], argTypes := #[62] }, type := 3, pos := "verify.go:25", after := #[{ on := 9, ground := Go.Ground.data }], guard := none }) (v := ?v11) rfl (by kernel_rfl) (by kernel_rfl) (by kernel_rfl) (fun _ _ _ h => h) (Or.inl ⟨by rfl, ?hy11⟩) (by assumption) ?_
      case hy11 => (intro W hSw; (try dsimp only at hSw); go_simp; try with_reducible rfl)
      try simp only [Act.put, List.setIfInBounds_toArray, List.set_cons_zero, List.set_cons_succ]
      refine wpAnyH_ready (rs := [5, 11]) (by kernel_rfl) (by simp) ?_
      refine AllReadyH.cons (o := { dst := some 24, op := Go.Op.makeSlice 24 (Go.Operand.tmp 23) (Go.Operand.tmp 23), type := 24, pos := "verify.go:25", after := #[{ on := 4, ground := Go.Ground.data }, { on := 4, ground := Go.Ground.data }], guard := none }) rfl (fun K hK => ?_) (AllReadyH.cons (o := { dst := some 30, op := Go.Op.makeSlice 28 (Go.Operand.tmp 29) (Go.Operand.tmp 29), type := 28, pos := "verify.go:25", after := #[{ on := 10, ground := Go.Ground.data }, { on := 10, ground := Go.Ground.data }], guard := none }) rfl (fun K hK => ?_) AllReadyH.nil)
      · have hr := run_intss w2.drew L HNC.out
        have hx := hide (heap_new w2.drew (.cells (List.replicate L (Value.slice none 0 0)).toArray 37) rfl)
        have hb := hide (show Below w2.heap.size w2 (w2.drew.alloc (.cells (List.replicate L (Value.slice none 0 0)).toArray 37)) from (below_drew (Below.refl _ _)).alloc (Nat.le_refl _) _)
        have hz := hide (show (w2.drew.alloc (.cells (List.replicate L (Value.slice none 0 0)).toArray 37)).heap.size = w2.heap.size + 1 by simp)
        generalize w2.drew.alloc (.cells (List.replicate L (Value.slice none 0 0)).toArray 37) = W3 at *
        go_simp
        go_wp2_with fail
        refine hK.out _ _ (HKS.out _ hb.out) (fun hHeld12 => ?_)
        clear hK K
        try simp only [Act.put, List.setIfInBounds_toArray, List.set_cons_zero, List.set_cons_succ]
        clear hr
        refine wpAnyH_take (i := 12) (oi := { dst := some 4, op := Go.Op.assign (Go.Operand.tmp 24), type := 24, pos := "verify.go:25", after := #[{ on := 5, ground := Go.Ground.data }, { on := 0, ground := Go.Ground.phase }, { on := 1, ground := Go.Ground.phase }, { on := 2, ground := Go.Ground.phase }, { on := 3, ground := Go.Ground.phase }, { on := 4, ground := Go.Ground.phase }, { on := 5, ground := Go.Ground.phase }, { on := 6, ground := Go.Ground.textOnly Go.Departure.lateStores }, { on := 7, ground := Go.Ground.textOnly Go.Departure.lateStores }, { on := 8, ground := Go.Ground.textOnly Go.Departure.lateStores }, { on := 9, ground := Go.Ground.textOnly Go.Departure.lateStores }, { on := 10, ground := Go.Ground.textOnly Go.Departure.lateStoresUnsure }, { on := 11, ground := Go.Ground.textOnly Go.Departure.lateStoresUnsure }], guard := none }) (v := ?v13) rfl (by kernel_rfl) (by kernel_rfl) (by kernel_rfl) (fun _ _ _ h => h) (Or.inl ⟨by rfl, ?hy13⟩) (by assumption) ?_
        case hy13 => (intro W hSw; (try dsimp only at hSw); go_simp; try with_reducible rfl)
        try simp only [Act.put, List.setIfInBounds_toArray, List.set_cons_zero, List.set_cons_succ]
        have hr := run_bools W3 L HNC.out
        have hy := hide (heap_new W3 (.cells (List.replicate L (Value.bool false)).toArray 4) rfl)
        have hb4 := hide (show Below w2.heap.size w2 (W3.alloc (.cells (List.replicate L (Value.bool false)).toArray 4)) from hb.out.alloc hb.out.size _)
        have hx4 := hide ((Below.heap_alloc W3 (.cells (List.replicate L (Value.bool false)).toArray 4) _ (lt_of_block hx.out)).trans hx.out)
        generalize W3.alloc (.cells (List.replicate L (Value.bool false)).toArray 4) = W4 at *
        refine wpAnyH_ready (rs := [11]) (by kernel_rfl) (by simp) ?_
        refine AllReadyH.cons (o := { dst := some 30, op := Go.Op.makeSlice 28 (Go.Operand.tmp 29) (Go.Operand.tmp 29), type := 28, pos := "verify.go:25", after := #[{ on := 10, ground := Go.Ground.data }, { on := 10, ground := Go.Ground.data }], guard := none }) rfl (fun K hK => ?_) AllReadyH.nil
        go_simp
        go_wp2_with fail
        refine hK.out _ _ (HKS.out _ hb4.out) (fun hHeld14 => ?_)
        clear hK K
        try simp only [Act.put, List.setIfInBounds_toArray, List.set_cons_zero, List.set_cons_succ]
        clear hr
        refine wpAnyH_take (i := 13) (oi := { dst := some 5, op := Go.Op.assign (Go.Operand.tmp 30), type := 28, pos := "verify.go:25", after := #[{ on := 11, ground := Go.Ground.data }, { on := 12, ground := Go.Ground.chain }, { on := 0, ground := Go.Ground.phase }, { on := 1, ground := Go.Ground.phase }, { on := 2, ground := Go.Ground.phase }, { on := 3, ground := Go.Ground.phase }, { on := 4, ground := Go.Ground.phase }, { on := 5, ground := Go.Ground.phase }, { on := 6, ground := Go.Ground.phase }, { on := 7, ground := Go.Ground.phase }, { on := 8, ground := Go.Ground.phase }, { on := 9, ground := Go.Ground.phase }, { on := 10, ground := Go.Ground.phase }, { on := 11, ground := Go.Ground.phase }, { on := 12, ground := Go.Ground.phase }], guard := none }) (v := ?v15) rfl (by kernel_rfl) (by kernel_rfl) (by kernel_rfl) (fun _ _ _ h => h) (Or.inl ⟨by rfl, ?hy15⟩) (by assumption) ?_
        case hy15 => (intro W hSw; (try dsimp only at hSw); go_simp; try with_reducible rfl)
        try simp only [Act.put, List.setIfInBounds_toArray, List.set_cons_zero, List.set_cons_succ]
        refine wpAnyH_done (by kernel_rfl) ?_ _
        go_wp2_with fail
        go_meet
        exact hide ⟨w2.heap.size, W3.heap.size, rfl, rfl, by have := hz.out; omega, Nat.le_refl _, hb.out.size, HNW.out W4 _ _ hb4.out hx4.out hy.out⟩
      · have hr := run_bools w2.drew L HNC.out
        have hx := hide (heap_new w2.drew (.cells (List.replicate L (Value.bool false)).toArray 4) rfl)
        have hb := hide (show Below w2.heap.size w2 (w2.drew.alloc (.cells (List.replicate L (Value.bool false)).toArray 4)) from (below_drew (Below.refl _ _)).alloc (Nat.le_refl _) _)
        have hz := hide (show (w2.drew.alloc (.cells (List.replicate L (Value.bool false)).toArray 4)).heap.size = w2.heap.size + 1 by simp)
        generalize w2.drew.alloc (.cells (List.replicate L (Value.bool false)).toArray 4) = W3 at *
        go_simp
        go_wp2_with fail
        refine hK.out _ _ (HKS.out _ hb.out) (fun hHeld16 => ?_)
        clear hK K
        try simp only [Act.put, List.setIfInBounds_toArray, List.set_cons_zero, List.set_cons_succ]
        clear hr
        have hr := run_intss W3 L HNC.out
        have hy := hide (heap_new W3 (.cells (List.replicate L (Value.slice none 0 0)).toArray 37) rfl)
        have hb4 := hide (show Below w2.heap.size w2 (W3.alloc (.cells (List.replicate L (Value.slice none 0 0)).toArray 37)) from hb.out.alloc hb.out.size _)
        have hx4 := hide ((Below.heap_alloc W3 (.cells (List.replicate L (Value.slice none 0 0)).toArray 37) _ (lt_of_block hx.out)).trans hx.out)
        generalize W3.alloc (.cells (List.replicate L (Value.slice none 0 0)).toArray 37) = W4 at *
        refine wpAnyH_ready (rs := [5]) (by kernel_rfl) (by simp) ?_
        refine AllReadyH.cons (o := { dst := some 24, op := Go.Op.makeSlice 24 (Go.Operand.tmp 23) (Go.Operand.tmp 23), type := 24, pos := "verify.go:25", after := #[{ on := 4, ground := Go.Ground.data }, { on := 4, ground := Go.Ground.data }], guard := none }) rfl (fun K hK => ?_) AllReadyH.nil
        go_simp
        go_wp2_with fail
        refine hK.out _ _ (HKS.out _ hb4.out) (fun hHeld17 => ?_)
        clear hK K
        try simp only [Act.put, List.setIfInBounds_toArray, List.set_cons_zero, List.set_cons_succ]
        clear hr
        refine wpAnyH_take (i := 12) (oi := { dst := some 4, op := Go.Op.assign (Go.Operand.tmp 24), type := 24, pos := "verify.go:25", after := #[{ on := 5, ground := Go.Ground.data }, { on := 0, ground := Go.Ground.phase }, { on := 1, ground := Go.Ground.phase }, { on := 2, ground := Go.Ground.phase }, { on := 3, ground := Go.Ground.phase }, { on := 4, ground := Go.Ground.phase }, { on := 5, ground := Go.Ground.phase }, { on := 6, ground := Go.Ground.textOnly Go.Departure.lateStores }, { on := 7, ground := Go.Ground.textOnly Go.Departure.lateStores }, { on := 8, ground := Go.Ground.textOnly Go.Departure.lateStores }, { on := 9, ground := Go.Ground.textOnly Go.Departure.lateStores }, { on := 10, ground := Go.Ground.textOnly Go.Departure.lateStoresUnsure }, { on := 11, ground := Go.Ground.textOnly Go.Departure.lateStoresUnsure }], guard := none }) (v := ?v18) rfl (by kernel_rfl) (by kernel_rfl) (by kernel_rfl) (fun _ _ _ h => h) (Or.inl ⟨by rfl, ?hy18⟩) (by assumption) ?_
        case hy18 => (intro W hSw; (try dsimp only at hSw); go_simp; try with_reducible rfl)
        try simp only [Act.put, List.setIfInBounds_toArray, List.set_cons_zero, List.set_cons_succ]
        refine wpAnyH_take (i := 13) (oi := { dst := some 5, op := Go.Op.assign (Go.Operand.tmp 30), type := 28, pos := "verify.go:25", after := #[{ on := 11, ground := Go.Ground.data }, { on := 12, ground := Go.Ground.chain }, { on := 0, ground := Go.Ground.phase }, { on := 1, ground := Go.Ground.phase }, { on := 2, ground := Go.Ground.phase }, { on := 3, ground := Go.Ground.phase }, { on := 4, ground := Go.Ground.phase }, { on := 5, ground := Go.Ground.phase }, { on := 6, ground := Go.Ground.phase }, { on := 7, ground := Go.Ground.phase }, { on := 8, ground := Go.Ground.phase }, { on := 9, ground := Go.Ground.phase }, { on := 10, ground := Go.Ground.phase }, { on := 11, ground := Go.Ground.phase }, { on := 12, ground := Go.Ground.phase }], guard := none }) (v := ?v19) rfl (by kernel_rfl) (by kernel_rfl) (by kernel_rfl) (fun _ _ _ h => h) (Or.inl ⟨by rfl, ?hy19⟩) (by assumption) ?_
        case hy19 => (intro W hSw; (try dsimp only at hSw); go_simp; try with_reducible rfl)
        try simp only [Act.put, List.setIfInBounds_toArray, List.set_cons_zero, List.set_cons_succ]
        refine wpAnyH_done (by kernel_rfl) ?_ _
        go_wp2_with fail
        go_meet
        exact hide ⟨W3.heap.size, w2.heap.size, rfl, rfl, by have := hz.out; omega, hb.out.size, Nat.le_refl _, HNW.out W4 _ _ hb4.out hy.out hx4.out⟩
    case rest =>
      obtain ⟨sb, cb, rfl, rfl, hne, hs1, hs2, S0⟩ := hcut.out
      have HS0 := hide S0
      have c12 : wc.cell? ⟨A, 11, none⟩ = some (.slice (some ⟨ahb, 0, none⟩) L L) := (S0.bel.cell (p := ⟨A, 11, none⟩) hlA).trans c11
      clear S0 hcut
      go_wp2_with fail
      go_loopw [36] (fun a wr => StL F.ah L sb cb w2 a wr) (fun a _ => L - (intOf a).toNat)
      case atStart => exact ⟨0, rfl, Nat.zero_le _, _, _, HS0.out⟩
      case round =>
        obtain ⟨x, rfl, hx, scs, ccs, S⟩ := hrel
        have HS := hide S
        clear S c12
        by_cases hlt : x < L
        · obtain ⟨o, ho⟩ : ∃ o, F.ah[x]? = some o := ⟨F.ah[x]'(by rw [HAL.out]; exact hlt), by simp⟩
          obtain ⟨c, hc, hA⟩ := HAH.out wr HS.out.bel x o ho
          have hlw : ahb < wr.heap.size := Nat.lt_of_lt_of_le hlh HS.out.bel.size
          have dd1 : decide (x < L) = true := by simpa using hlt
          have dd3 : (x : Int) ≤ 65536 := by have := HNC.out; omega
          cases o with
          | none =>
            obtain rfl : c = .pointer none := hA
            have HN := hide (HS.out.skip ho hlt)
            clear ho
            go_wp2
            go_roundw
            case rel => exact ⟨x + 1, by first | exact num_next hlt (by have := HNC.out; omega) | go_num, hlt, _, _, HN.out⟩
            case measure => first | exact meas_int hlt (by omega) | (rw [intOf_int, intOf_int]; omega)
          | some s =>
            obtain ⟨b, rfl, hP⟩ := hA
            have HO := hide ho
            have HLI := hide (list_any hP (HBD.out x s ho).2)
            have hls : sb < wr.heap.size := lt_of_block HS.out.sb1
            have hlc : cb < wr.heap.size := lt_of_block HS.out.cb1
            have hsz : x < scs.length := by rw [HS.out.sl]; exact hlt
            have hcz : x < ccs.length := by rw [HS.out.cl]; exact hlt
            have HC := hide (show ∀ W : World, Below wr.heap.size wr W → W.cell? ⟨sb, x, none⟩ = some (scs[x]) ∧ W.frozen? ⟨sb, x, none⟩ = false ∧ ∀ u, (W.setCell ⟨sb, x, none⟩ u).cell? ⟨cb, x, none⟩ = some (ccs[x]) ∧ (W.setCell ⟨sb, x, none⟩ u).frozen? ⟨cb, x, none⟩ = false from fun W h => by
              have g1 := (h.block _ hls).trans HS.out.sb1
              have g2 := (h.block _ hlc).trans HS.out.cb1
              have g3 : ∀ u, (W.setCell ⟨sb, x, none⟩ u).heap[cb]? = some (.cells ccs.toArray 4 (0, 0)) := fun u => (Below.heap_setCell _ _ _ cb (Ne.symm hne)).trans g2
              exact ⟨cell_of g1 (by simp), by simp [World.frozen?, g1], fun u => ⟨cell_of (g3 u) (by simp), by simp [World.frozen?, g3 u]⟩⟩)
            clear ho hP
            go_wp2_with fail
            refine HLI.out.mono ?_
            rintro e w5 ⟨rfl, hg5, hb5⟩
            have HN := hide (HS.out.put HO.out hlt hne hs1 hs2 hb5 hg5)
            obtain ⟨y1, y2, y3⟩ := HC.out w5 hb5
            obtain ⟨y4, y5⟩ := y3 (.slice (some ⟨wr.heap.size, 0, none⟩) s.length s.length)
            clear hg5 hb5 y3
            go_wp2
            go_roundw
            case rel => exact ⟨x + 1, by first | exact num_next hlt (by have := HNC.out; omega) | go_num, hlt, _, _, HN.out⟩
            case measure => first | exact meas_int hlt (by omega) | (rw [intOf_int, intOf_int]; omega)
        · obtain rfl : L = x := by omega
          have dd1 : decide (L < L) = false := by simp
          have HE := hide (HF.out wr sb cb (bel_tr (bel_tr HB1.out HB2.out) HS.out.bel) (by omega) (by omega) (HS.out.fin HAL.out HNC.out HBD.out))
          go_wp2
          go_ret3
          exact HE.out
end
end Go.Proofs.YtkdojpnihinpbaaDoor

namespace Go.Proofs.YtkdojpnihinpbaaDoor
open Go.RowKit
def awF19 : Fd := ⟨0, [2], [], [], [⟨11, 0, 0⟩, ⟨4, 0, 0⟩, ⟨28, 0, 0⟩]⟩
def awP19 : Pg := ⟨[[0, 2]], [awF19], [], []⟩
theorem aw19_check : checkP awP19 = (0, 0, 0) := by decide +kernel
theorem aw19_sel : (match followP awP19 awF19 with | .ok F => selP awF19 F.ah 3 | .error _ => []) = [(0, [])] := by decide +kernel
section
variable {w : World}
theorem aw19_pg {W : World} {b0 b1 b2 b3 b4 : Nat} (h0 : W.heap[b0]? = some (.cells (ivs [0, 2]).toArray 3 (0, 0))) (h1 : W.heap[b1]? = some (.cells #[.slice (some ⟨b0, 0, none⟩) 2 2] 39 (0, 0))) (h2 : W.heap[b2]? = some (.cells (ivs [2]).toArray 3 (0, 0))) (h3 : W.heap[b3]? = some (.cells #[.int .i64 11, .int .i64 0, .int .i64 0, .int .i64 4, .int .i64 0, .int .i64 0, .int .i64 28, .int .i64 0, .int .i64 0] 47 (0, 0))) (h4 : W.heap[b4]? = some (.cells #[.int .i64 0, .slice (some ⟨b2, 0, none⟩) 1 1, .slice none 0 0, .slice none 0 0, .slice (some ⟨b3, 0, none⟩) 3 3] 50 (0, 0))) : PgAt W.heap.size W (.slice (some ⟨b1, 0, none⟩) 1 1) (.slice (some ⟨b4, 0, none⟩) 1 1) (.slice none 0 0) (.slice none 0 0) awP19 := by
  have r0 := ints_block h0 (by simp) (by simp)
  have r2 := ints_block h2 (by simp) (by simp)
  refine ⟨⟨some ⟨b1, 0, none⟩, 1, rfl, ⟨by simp [awP19], by simp [awP19], by unfold maxLen; omega⟩, fun j x hx => ?_⟩, ⟨some ⟨b4, 0, none⟩, 1, rfl, ⟨by simp [awP19], by simp [awP19], by unfold maxLen; omega⟩, fun j x hx => ?_⟩, sl_nil, sl_nil⟩
  · match j, hx with
    | 0, hx =>
      cases hx
      refine ⟨b1, 0, [.slice (some ⟨b0, 0, none⟩) 2 2], rfl, lt_of_block h1, fun r u hu => ?_, _, rfl, r0⟩
      rw [Nat.zero_mul, Nat.add_zero, Nat.zero_add]
      exact cell_of h1 (by simpa using hu)
  · match j, hx with
    | 0, hx =>
      cases hx
      refine ⟨b4, 0, [.int .i64 0, .slice (some ⟨b2, 0, none⟩) 1 1, .slice none 0 0, .slice none 0 0, .slice (some ⟨b3, 0, none⟩) 3 3], rfl, lt_of_block h4, fun r u hu => ?_, _, _, _, _, rfl, by simp [awF19], r2, sl_nil, sl_nil, ⟨some ⟨b3, 0, none⟩, 3, rfl, ⟨by simp [awF19], by simp [awF19], by unfold maxLen; omega⟩, fun j y hy => ?_⟩⟩
      · rw [Nat.zero_mul, Nat.add_zero, Nat.zero_add]
        exact cell_of h4 (by simpa using hu)
      · match j, hy with
        | 0, hy =>
          cases hy
          refine ⟨b3, 0, [.int .i64 11, .int .i64 0, .int .i64 0], rfl, lt_of_block h3, fun r u hu => ?_, rfl, by simp⟩
          match r, hu with
          | 0, hu => cases hu; exact cell_of h3 rfl
          | 1, hu => cases hu; exact cell_of h3 rfl
          | 2, hu => cases hu; exact cell_of h3 rfl
        | 1, hy =>
          cases hy
          refine ⟨b3, 0, [.int .i64 4, .int .i64 0, .int .i64 0], rfl, lt_of_block h3, fun r u hu => ?_, rfl, by simp⟩
          match r, hu with
          | 0, hu => cases hu; exact cell_of h3 rfl
          | 1, hu => cases hu; exact cell_of h3 rfl
          | 2, hu => cases hu; exact cell_of h3 rfl
        | 2, hy =>
          cases hy
          refine ⟨b3, 0, [.int .i64 28, .int .i64 0, .int .i64 0], rfl, lt_of_block h3, fun r u hu => ?_, rfl, by simp⟩
          match r, hu with
          | 0, hu => cases hu; exact cell_of h3 rfl
          | 1, hu => cases hu; exact cell_of h3 rfl
          | 2, hu => cases hu; exact cell_of h3 rfl
set_option maxRecDepth 100000 in
set_option maxHeartbeats 1000000 in
theorem awake19_any (w : World) (hT : Tb w) : Calls Tryd.prog 7 #[] w fun e w' => e = .returned (.bool true) ∧ Below w.heap.size w w' := by
  have hw0 : 0 < w.heap.size := World.block_lt_of_cell? w ⟨0, 0, none⟩ (hT 0 (by decide))
  obtain ⟨W1, hW1⟩ : ∃ W1, (((((w.alloc (.cells #[.int .i64 0, .int .i64 2] 3)).alloc (.cells #[.slice (some ⟨w.heap.size, 0, none⟩) 2 2] 39)).alloc (.cells #[.int .i64 2] 3)).alloc (.cells #[.int .i64 11, .int .i64 0, .int .i64 0, .int .i64 4, .int .i64 0, .int .i64 0, .int .i64 28, .int .i64 0, .int .i64 0] 47)).alloc (.cells #[.int .i64 0, .slice (some ⟨w.heap.size + 1 + 1, 0, none⟩) 1 1, .slice none 0 0, .slice none 0 0, .slice (some ⟨w.heap.size + 1 + 1 + 1, 0, none⟩) 3 3] 50)).alloc (.cells #[.slice (some ⟨w.heap.size + 1, 0, none⟩) 1 1, .slice (some ⟨w.heap.size + 1 + 1 + 1 + 1, 0, none⟩) 1 1, .slice none 0 0, .slice none 0 0] 27) = W1 := ⟨_, rfl⟩
  have z1 : W1.heap.size = w.heap.size + 6 := by rw [← hW1]; simp
  have b1 : Below w.heap.size w W1 := by rw [← hW1]; exact ((((((Below.refl _ _).alloc (Nat.le_refl _) _).alloc (by simp) _).alloc (by simp <;> omega) _).alloc (by simp <;> omega) _).alloc (by simp <;> omega) _).alloc (by simp <;> omega) _
  have g0 : W1.heap[w.heap.size]? = some (.cells (ivs [0, 2]).toArray 3 (0, 0)) := by rw [← hW1, Below.heap_alloc _ _ _ (by simp <;> omega), Below.heap_alloc _ _ _ (by simp <;> omega), Below.heap_alloc _ _ _ (by simp <;> omega), Below.heap_alloc _ _ _ (by simp <;> omega), Below.heap_alloc _ _ _ (by simp)]; exact heap_new _ _ rfl
  have g1 : W1.heap[w.heap.size + 1]? = some (.cells #[.slice (some ⟨w.heap.size, 0, none⟩) 2 2] 39 (0, 0)) := by rw [← hW1, Below.heap_alloc _ _ _ (by simp <;> omega), Below.heap_alloc _ _ _ (by simp <;> omega), Below.heap_alloc _ _ _ (by simp <;> omega), Below.heap_alloc _ _ _ (by simp)]; exact heap_new _ _ (by simp)
  have g2 : W1.heap[w.heap.size + 1 + 1]? = some (.cells (ivs [2]).toArray 3 (0, 0)) := by rw [← hW1, Below.heap_alloc _ _ _ (by simp <;> omega), Below.heap_alloc _ _ _ (by simp <;> omega), Below.heap_alloc _ _ _ (by simp)]; exact heap_new _ _ (by simp)
  have g3 : W1.heap[w.heap.size + 1 + 1 + 1]? = some (.cells #[.int .i64 11, .int .i64 0, .int .i64 0, .int .i64 4, .int .i64 0, .int .i64 0, .int .i64 28, .int .i64 0, .int .i64 0] 47 (0, 0)) := by rw [← hW1, Below.heap_alloc _ _ _ (by simp <;> omega), Below.heap_alloc _ _ _ (by simp)]; exact heap_new _ _ (by simp)
  have g4 : W1.heap[w.heap.size + 1 + 1 + 1 + 1]? = some (.cells #[.int .i64 0, .slice (some ⟨w.heap.size + 1 + 1, 0, none⟩) 1 1, .slice none 0 0, .slice none 0 0, .slice (some ⟨w.heap.size + 1 + 1 + 1, 0, none⟩) 3 3] 50 (0, 0)) := by rw [← hW1, Below.heap_alloc _ _ _ (by simp)]; exact heap_new _ _ (by simp)
  have g5 : W1.heap[w.heap.size + 1 + 1 + 1 + 1 + 1]? = some (.cells #[.slice (some ⟨w.heap.size + 1, 0, none⟩) 1 1, .slice (some ⟨w.heap.size + 1 + 1 + 1 + 1, 0, none⟩) 1 1, .slice none 0 0, .slice none 0 0] 27 (0, 0)) := by rw [← hW1]; exact heap_new _ _ (by simp)
  have HPG := hide (show ∀ W : World, Below W1.heap.size W1 W → PgAt W.heap.size W (.slice (some ⟨w.heap.size + 1, 0, none⟩) 1 1) (.slice (some ⟨w.heap.size + 1 + 1 + 1 + 1, 0, none⟩) 1 1) (.slice none 0 0) (.slice none 0 0) awP19 from fun W h => aw19_pg ((h.block _ (lt_of_block g0)).trans g0) ((h.block _ (lt_of_block g1)).trans g1) ((h.block _ (lt_of_block g2)).trans g2) ((h.block _ (lt_of_block g3)).trans g3) ((h.block _ (lt_of_block g4)).trans g4))
  have HTB := hide (show ∀ W : World, Below W1.heap.size W1 W → Tb W ∧ 0 < W.heap.size from fun W h => ⟨hT.keep ((bel_tr b1 h).block 0 hw0), Nat.lt_of_lt_of_le hw0 (bel_tr b1 h).size⟩)
  have HBX := hide (show ∀ W : World, Below W1.heap.size W1 W → W.cell? ⟨w.heap.size + 1 + 1 + 1 + 1 + 1, 0, none⟩ = some (.slice (some ⟨w.heap.size + 1, 0, none⟩) 1 1) ∧ W.cell? ⟨w.heap.size + 1 + 1 + 1 + 1 + 1, 1, none⟩ = some (.slice (some ⟨w.heap.size + 1 + 1 + 1 + 1, 0, none⟩) 1 1) ∧ W.cell? ⟨w.heap.size + 1 + 1 + 1 + 1 + 1, 2, none⟩ = some (.slice none 0 0) ∧ W.cell? ⟨w.heap.size + 1 + 1 + 1 + 1 + 1, 3, none⟩ = some (.slice none 0 0) ∧ w.heap.size + 1 + 1 + 1 + 1 + 1 < W.heap.size from fun W h => by
    have h1 := (h.block _ (lt_of_block g5)).trans g5
    exact ⟨cell_of h1 rfl, cell_of h1 rfl, cell_of h1 rfl, cell_of h1 rfl, lt_of_block h1⟩)
  have HOF := hide (mapsOf_any (HPG.out W1 (Below.refl _ _)) (Nat.le_refl _) (HTB.out W1 (Below.refl _ _)).1 (HTB.out W1 (Below.refl _ _)).2 0)
  have HLA := hide (fun (W : World) (h : Below W1.heap.size W1 W) => layout_any (HPG.out W h) (Nat.le_refl _) (HTB.out W h).1 (HTB.out W h).2 0 (by omega))
  have HB1 := hide b1
  obtain ⟨k0, k1, k2, k3, k4⟩ := HBX.out W1 (Below.refl _ _)
  clear hT hw0 z1 b1 g0 g1 g2 g3 g4 g5
  have HW1 := hide hW1
  clear hW1
  go_enter Tryd.func7, Tryd.ntmps7
  go_upto_region 2 with (fail)
  rw [HW1.out]
  go_wp2_with fail
  refine HOF.out.mono ?_
  rintro e w2 ⟨hb2, (⟨hc, _⟩ | ⟨_, hi, _⟩ | ⟨k, f, F, v, _, hk, hf, hF, rfl, hv⟩)⟩
  · rw [aw19_check] at hc
    exact absurd rfl hc
  · cases hi
  · obtain rfl : k = 0 := by omega
    cases hf
    have hs := aw19_sel
    rw [hF] at hs
    have hs2 : selP awF19 F.ah awF19.co.length = [(0, [])] := hs
    rw [hs2] at hv
    have HB2 := hide hb2
    have HV := hide hv
    clear hb2 hv hs hs2 hF hk k0 k1 k2 k3 k4 HOF
    obtain ⟨k0, k1, k2, k3, k4⟩ := HBX.out w2 HB2.out
    obtain ⟨la, lc, hlf, hel0⟩ := HV.out
    obtain ⟨g, o, _, _, hla, _⟩ := hel0 0 _ rfl
    have hlf2 : v = .slice (some ⟨g, o, none⟩) 1 lc := by rw [← hla]; exact hlf
    clear hlf hla hel0
    subst hlf2
    go_wp2_with fail
    refine (HLA.out _ HB2.out).mono ?_
    rintro e w3 ⟨hb3, (⟨hc, _⟩ | ⟨_, hi, _⟩ | ⟨k, l, v, _, hk, hl, rfl, hv⟩)⟩
    · rw [aw19_check] at hc
      exact absurd rfl hc
    · cases hi
    · obtain rfl : k = 0 := by omega
      cases hl
      have hM := HV.out.below hb3
      obtain ⟨ao, cap, hlf, hel⟩ := hM
      cases hlf
      obtain ⟨_, _, u1, u2, hgo, hg, _, c1, c2, h1, h2⟩ := hel 0 _ rfl
      cases hgo
      obtain ⟨x1, q1, rfl, e1⟩ := h1
      obtain ⟨x2, q2, rfl, e2⟩ := h2
      obtain ⟨p1, o1, rfl, hp1, f1⟩ := e1 0 true rfl
      obtain ⟨x3, q3, rfl, e3⟩ := hv
      obtain ⟨p3, o3, rfl, hp3, f3⟩ := e3 0 false rfl
      obtain ⟨p4, o4, hx4, _, f4⟩ := e3 1 true rfl
      cases hx4
      have HB3 := hide (bel_tr HB1.out (bel_tr HB2.out hb3))
      rw [Nat.zero_mul, Nat.add_zero] at c1 c2
      rw [Nat.add_zero] at f1 f3
      clear hb3 hel e1 e2 e3 hk
      go_wp2
      go_ret
      exact ⟨rfl, HB3.out⟩
end
end Go.Proofs.YtkdojpnihinpbaaDoor

namespace Go.Proofs.YtkdojpnihinpbaaDoor
open Go.RowKit
theorem selP_le {f : Fd} {M : List (Option (List Int))} {k : Nat} : ∀ d : Nat, ∃ r, selP f M (k + d) = selP f M k ++ r
  | 0 => ⟨[], by simp⟩
  | d + 1 => by
    obtain ⟨r, hr⟩ := selP_le (f := f) (M := M) (k := k) d
    have h : ∃ q, selP f M (k + d + 1) = selP f M (k + d) ++ q := by
      unfold selP
      rw [List.range_succ, List.filterMap_append]
      exact ⟨_, rfl⟩
    obtain ⟨q, hq⟩ := h
    exact ⟨r ++ q, by rw [← Nat.add_assoc, hq, hr, List.append_assoc]⟩
theorem selP_at {f : Fd} {M : List (Option (List Int))} {x L : Nat} {s : List Int} (hx : x < L) (h : M[x]? = some (some s)) (hs : safeB (coAt f x).o = true) : (selP f M L)[(selP f M x).length]? = some (x, s) := by
  obtain ⟨r, hr⟩ := selP_le (f := f) (M := M) (k := x + 1) (L - (x + 1))
  rw [show x + 1 + (L - (x + 1)) = L by omega] at hr
  rw [hr, selP_some h hs, List.getElem?_append_left (by simp), List.getElem?_append_right (Nat.le_refl _), Nat.sub_self]
  rfl
def StK (f : Fd) (M : List (Option (List Int))) (L : Nat) (w4 : World) (a i : Value) (wr : World) : Prop := ∃ x q : Nat, i = .int .i64 (x : Int) ∧ x ≤ L ∧ a = .int .i64 (q : Int) ∧ q = (selP f M x).length ∧ Below w4.heap.size w4 wr
section
variable {B : Nat} {w : World} {p : Pg}
set_option maxRecDepth 100000 in
set_option maxHeartbeats 4000000 in
theorem mapsStacks_law {v1 v2 v3 v4 : Value} (P : PgAt B w v1 v2 v3 v4 p) (hB : B ≤ w.heap.size) (hT : Tb w) (hb0 : 0 < B) (m : Int) : Calls Tryd.prog 4 #[.agg #[v1, v2, v3, v4], .int .i64 m] w fun e w' => e = .returned (.bool true) ∧ Below w.heap.size w w' := by
  obtain ⟨a1, d1, hv1⟩ := sl_form P.ty
  obtain ⟨a2, d2, hv2⟩ := sl_form P.fu
  obtain ⟨a3, d3, hv3⟩ := sl_form P.ta
  obtain ⟨a4, d4, hv4⟩ := sl_form P.st
  subst hv1 hv2 hv3 hv4
  obtain ⟨W1, hW1⟩ : ∃ W1, w.alloc (.cells #[.slice a1 p.ty.length d1, .slice a2 p.fu.length d2, .slice a3 p.ta.length d3, .slice a4 p.st.length d4] 27) = W1 := ⟨_, rfl⟩
  have b1 : Below w.heap.size w W1 := by rw [← hW1]; exact (Below.refl _ _).alloc (Nat.le_refl _) _
  have e1 : W1.heap[w.heap.size]? = some (.cells #[.slice a1 p.ty.length d1, .slice a2 p.fu.length d2, .slice a3 p.ta.length d3, .slice a4 p.st.length d4] 27 (0, 0)) := by rw [← hW1]; exact heap_new _ _ rfl
  have HKP := hide (show ∀ W : World, Below W1.heap.size W1 W → PgAt B W (.slice a1 p.ty.length d1) (.slice a2 p.fu.length d2) (.slice a3 p.ta.length d3) (.slice a4 p.st.length d4) p ∧ B ≤ W.heap.size ∧ Tb W from fun W h => ⟨P.keep (Nat.le_refl _) (fun j hj => (bel_tr b1 h).block j (Nat.lt_of_lt_of_le hj hB)), Nat.le_trans hB (bel_tr b1 h).size, hT.keep ((bel_tr b1 h).block 0 (Nat.lt_of_lt_of_le hb0 hB))⟩)
  have HBX := hide (show ∀ W : World, Below W1.heap.size W1 W → (W.cell? ⟨w.heap.size, 0, none⟩ = some (.slice a1 p.ty.length d1) ∧ W.cell? ⟨w.heap.size, 1, none⟩ = some (.slice a2 p.fu.length d2) ∧ W.cell? ⟨w.heap.size, 2, none⟩ = some (.slice a3 p.ta.length d3) ∧ W.cell? ⟨w.heap.size, 3, none⟩ = some (.slice a4 p.st.length d4)) ∧ w.heap.size < W.heap.size from fun W h => by
    have h1 := (h.block _ (lt_of_block e1)).trans e1
    exact ⟨⟨cell_of h1 rfl, cell_of h1 rfl, cell_of h1 rfl, cell_of h1 rfl⟩, lt_of_block h1⟩)
  have HOF := hide (mapsOf_any (HKP.out W1 (Below.refl _ _)).1 (HKP.out W1 (Below.refl _ _)).2.1 (HKP.out W1 (Below.refl _ _)).2.2 hb0 m)
  have HST := hide (fun (W : World) (h : Below W1.heap.size W1 W) => stacks_any (HKP.out W h).1 (HKP.out W h).2.1 (HKP.out W h).2.2 hb0 m)
  have HAW := hide (fun (W : World) (h : Below W1.heap.size W1 W) => awake19_any W (HKP.out W h).2.2)
  have HB1 := hide (show ∀ W : World, Below W1.heap.size W1 W → Below w.heap.size w W from fun W h => bel_tr b1 h)
  obtain ⟨⟨k0, k1, k2, k3⟩, k4⟩ := HBX.out W1 (Below.refl _ _)
  clear P hB hT b1 e1
  go_enter Tryd.func4, Tryd.ntmps4
  go_wp2_with fail
  refine HOF.out.mono ?_
  rintro e w2 ⟨hb2, (⟨hc, rfl⟩ | ⟨hc, hi, rfl⟩ | ⟨k, f, F, v, hc, hm, hf, hF, rfl, hv⟩)⟩
  · have HB2 := hide (show Below W1.heap.size W1 w2 from hb2)
    have HC := hide hc
    clear hb2 k0 k1 k2 k3 k4 HOF
    obtain ⟨⟨k0, k1, k2, k3⟩, k4⟩ := HBX.out w2 HB2.out
    obtain ⟨ce, hce⟩ : ∃ c, (checkP p).2.2 = c := ⟨_, rfl⟩
    have HCE := hide hce
    rw [hce] at hc ⊢
    clear hce
    go_wp2_with fail
    refine (HST.out w2 HB2.out).mono ?_
    rintro e w3 ⟨hb3, (⟨_, rfl⟩ | ⟨hc2, _, _⟩ | ⟨_, _, _, _, _, hc2, _⟩)⟩
    · have HB3 := hide (bel_tr HB2.out hb3)
      rw [HCE.out]
      have q0 : (ce != 0) = true := by simpa using hc
      have q1 : (ce != ce) = false := by simp
      clear hb3 hc k0 k1 k2 k3 k4
      go_wp2_with fail
      refine (HAW.out w3 HB3.out).mono ?_
      rintro e w4 ⟨rfl, hb4⟩
      have HB4 := hide (bel_tr HB3.out hb4)
      clear hb4
      go_wp2
      go_ret
      exact ⟨rfl, HB1.out w4 HB4.out⟩
    · exact absurd hc2 HC.out
    · exact absurd hc2 HC.out
  · have HB2 := hide (show Below W1.heap.size W1 w2 from hb2)
    have HC := hide hc
    have HI := hide hi
    clear hb2 k0 k1 k2 k3 k4 HOF hc hi
    obtain ⟨⟨k0, k1, k2, k3⟩, k4⟩ := HBX.out w2 HB2.out
    go_wp2_with fail
    refine (HST.out w2 HB2.out).mono ?_
    rintro e w3 ⟨hb3, (⟨hc2, _⟩ | ⟨_, _, rfl⟩ | ⟨k, f, _, _, _, _, hm2, hf2, _⟩)⟩
    · exact absurd HC.out hc2
    · have HB3 := hide (bel_tr HB2.out hb3)
      clear hb3 k0 k1 k2 k3 k4
      go_wp2_with fail
      refine (HAW.out w3 HB3.out).mono ?_
      rintro e w4 ⟨rfl, hb4⟩
      have HB4 := hide (bel_tr HB3.out hb4)
      clear hb4
      go_wp2
      go_ret
      exact ⟨rfl, HB1.out w4 HB4.out⟩
    · exfalso
      have h := HI.out
      rw [hm2] at h
      have h2 := get_lt hf2
      have h3 := of_decide_eq_false h
      omega
  · have HB2 := hide (show Below W1.heap.size W1 w2 from hb2)
    have HC := hide hc
    subst hm
    have HF := hide hf
    have HFF := hide hF
    have HV := hide hv
    obtain ⟨la, lc, hlf, _⟩ := hv
    subst hlf
    clear hb2 hf hF hc k0 k1 k2 k3 k4 HOF
    obtain ⟨⟨k0, k1, k2, k3⟩, k4⟩ := HBX.out w2 HB2.out
    go_wp2_with fail
    refine (HST.out w2 HB2.out).mono ?_
    rintro e w3 ⟨hb3, (⟨hc2, _⟩ | ⟨_, hi, _⟩ | ⟨k', f', F', sb, cb, _, hm2, hf2, hF2, hla, hnc, rfl, _, _, hsl, hcb⟩)⟩
    · exact absurd HC.out hc2
    · exfalso
      have h2 := get_lt HF.out
      have h3 := of_decide_eq_false hi
      omega
    · obtain rfl : k' = k := by omega
      have h9 := HF.out
      rw [hf2] at h9
      cases h9
      have h9 := HFF.out
      rw [hF2] at h9
      cases h9
      have HB3 := hide (bel_tr HB2.out hb3)
      have HV3 := hide (HV.out.below hb3)
      have HSL := hide hsl
      have HCB := hide hcb
      have HLA := hide hla
      have HNC := hide hnc
      obtain ⟨_, o1, o2, _⟩ := check_ok HC.out
      have HH := hide (hok_of o1 o2)
      have HHF := hide (HH.out.fu f (List.mem_of_getElem? hf2))
      have HI := hide (follow_inv HH.out HHF.out hF2)
      obtain ⟨L, hL⟩ : ∃ L, f.co.length = L := ⟨_, rfl⟩
      have HL := hide hL
      rw [hL] at HV3 HSL HLA HNC ⊢
      clear hb3 hsl hcb hla hnc hf2 hF2 hm2 hL o1 o2 k0 k1 k2 k3 k4 HV HST
      obtain ⟨ln, hln⟩ : ∃ q, (selP f F.ah L).length = q := ⟨_, rfl⟩
      have HLN := hide hln
      rw [hln]
      have hlnb : (ln : Int) ≤ 65536 := by
        have := selP_len (f := f) (M := F.ah) L
        have := HNC.out
        omega
      clear hln
      go_wp2_with fail
      refine (HAW.out w3 HB3.out).mono ?_
      rintro e w4 ⟨rfl, hb4⟩
      have HB4 := hide (bel_tr HB3.out hb4)
      have HV4 := hide (HV3.out.below hb4)
      have HS4 := hide (show ∀ W : World, Below w4.heap.size w4 W → ∀ (x : Nat) (s : List Int), F.ah[x]? = some (some s) → ∃ a c, W.cell? ⟨sb, x, none⟩ = some (.slice a s.length c) ∧ sb < W.heap.size ∧ IsAt (fun _ => False) W (.slice a s.length c) s from fun W h x s hs => by
        have hmap : (F.ah.map fun o => o.getD [])[x]? = some s := by rw [List.getElem?_map, hs]; rfl
        obtain ⟨g, o, c, n, u, hv, _, _, hg, hc, hu⟩ := lst_at HSL.out hmap
        cases hv
        have h34 := bel_tr hb4 h
        obtain ⟨ua, uc, rfl⟩ := sl_form hu
        refine ⟨ua, uc, ?_, Nat.lt_of_lt_of_le hg h34.size, ?_⟩
        · rw [Nat.zero_add] at hc
          exact (h34.cell (p := ⟨sb, x, none⟩) hg).trans hc
        · exact is_of_sl (ints_keep (Nat.le_refl _) (fun j hj => h34.block j hj) hu) h34.size (fun _ _ h => h))
      have HC4 := hide (show ∀ W : World, Below w4.heap.size w4 W → ∀ (x : Nat) (o : Option (List Int)), F.ah[x]? = some o → W.cell? ⟨cb, x, none⟩ = some (.bool o.isSome) ∧ cb < W.heap.size from fun W h x o ho => by
        have h34 := bel_tr hb4 h
        have hl := lt_of_block HCB.out
        exact ⟨(h34.cell (p := ⟨cb, x, none⟩) hl).trans (cell_of HCB.out (by rw [List.getElem?_toArray, List.getElem?_map, ho]; rfl)), Nat.lt_of_lt_of_le hl h34.size⟩)
      obtain ⟨g, o, c, n, x1, x2, x3, x4, hv, hn, hlt, hg, ⟨_, y1, _, _, y4⟩, r1, _, _, r4⟩ := fd_at (HKP.out w4 HB4.out).1.fu HF.out
      cases hv
      obtain ⟨b1, e1, rfl⟩ := sl_form r1
      obtain ⟨b4, e4, rfl⟩ := sl_form r4
      have hgw : g < w4.heap.size := Nat.lt_of_lt_of_le hg (HKP.out w4 HB4.out).2.1
      have HFD := hide (show ∀ W : World, Below w4.heap.size w4 W → W.cell? ⟨w.heap.size, 1, none⟩ = some (.slice (some ⟨g, o, none⟩) p.fu.length d2) ∧ W.cell? ⟨g, o + k' * 5 + 1, none⟩ = some (.slice b1 f.lo.length e1) ∧ W.cell? ⟨g, o + k' * 5 + 4, none⟩ = some (.slice b4 L e4) ∧ w.heap.size < W.heap.size ∧ g < W.heap.size from fun W h => ⟨(HBX.out W (bel_tr HB4.out h)).1.2.1, (h.cell (p := ⟨g, o + k' * 5 + 1, none⟩) hgw).trans y1, by rw [← HL.out]; exact (h.cell (p := ⟨g, o + k' * 5 + 4, none⟩) hgw).trans y4, (HBX.out W (bel_tr HB4.out h)).2, Nat.lt_of_lt_of_le hgw h.size⟩)
      have HR4 := hide (show ∀ W : World, Below w4.heap.size w4 W → SlAt 3 InsP B W (.slice b4 f.co.length e4) f.co ∧ B ≤ W.heap.size ∧ IsAt (fun _ => False) W (.slice b1 f.lo.length e1) f.lo from fun W h => by
        have hk : ∀ j, j < B → W.heap[j]? = w4.heap[j]? := fun j hj => h.block j (Nat.lt_of_lt_of_le hj (HKP.out w4 HB4.out).2.1)
        have hbW := Nat.le_trans (HKP.out w4 HB4.out).2.1 h.size
        exact ⟨ins_keep (Nat.le_refl _) hk r4, hbW, is_of_sl (ints_keep (Nat.le_refl _) hk r1) hbW (fun _ _ h => h)⟩)
      have dk : decide (k' < p.fu.length) = true := by simpa using hlt
      clear hb4 hn hg y1 y4 r1 r4 hgw HSL HCB HV3
      go_wp2
      go_loopw [10, 11] (fun a i wr => StK f F.ah L w4 a i wr) (fun _ i _ => L - (intOf i).toNat)
      case atStart => exact ⟨0, 0, rfl, Nat.zero_le _, rfl, rfl, Below.refl _ _⟩
      case round =>
        obtain ⟨x, q, rfl, hx, rfl, hq, hb⟩ := hrel
        have HB := hide hb
        have HQ := hide hq
        clear hb hq
        by_cases hxl : x < L
        · have hxc : x < f.co.length := by rw [HL.out]; exact hxl
          obtain ⟨ii, hii⟩ : ∃ i, f.co[x]? = some i := ⟨f.co[x], by simp⟩
          have hco : coAt f x = ii := by unfold coAt; rw [hii]; rfl
          obtain ⟨hr4, hbw, _⟩ := HR4.out wr HB.out
          obtain ⟨gc, oc, ec, hv4, hgc, i0, _, _⟩ := ins_atM hr4 hii
          cases hv4
          have hgcw : gc < wr.heap.size := Nat.lt_of_lt_of_le hgc hbw
          obtain ⟨m1, m2, m3, m4, m5⟩ := HFD.out wr HB.out
          obtain ⟨oo, ho⟩ : ∃ oo, F.ah[x]? = some oo := ⟨F.ah[x]'(by rw [HLA.out]; exact hxl), by simp⟩
          obtain ⟨hcm, hcl⟩ := HC4.out wr HB.out x oo ho
          have d1 : decide (x < L) = true := by simpa using hxl
          have d3 : (x : Int) ≤ 65536 := by have := HNC.out; omega
          have SKIP := hide (show F.ah[x]? = some none ∨ safeB (coAt f x).o = false → StK f F.ah L w4 (.int .i64 (q : Int)) (.int .i64 ((x + 1 : Nat) : Int)) wr from fun h => ⟨x + 1, q, rfl, hxl, rfl, by rw [selP_none h]; exact HQ.out, HB.out⟩)
          have HO := hide ho
          have HII := hide hco
          clear ho hii hco hr4 hgc hbw
          go_upto_region 12 with (fail)
          go_cut [13] from 55 to 76 (fun v wq => v = .bool (safeB ii.o) ∧ wq = wr)
          case first =>
            by_cases h11 : ii.o = 11
            · have q11 : (ii.o == 11) = true := by simpa using h11
              have HE := hide (show safeB ii.o = true by simp [safeB, h11])
              clear h11
              go_wp2_with fail
              go_meet
              exact ⟨by rw [HE.out], rfl⟩
            have q11 : (ii.o == 11) = false := by simpa using h11
            by_cases h12 : ii.o = 12
            · have q12 : (ii.o == 12) = true := by simpa using h12
              have HE := hide (show safeB ii.o = true by simp [safeB, h12])
              clear h12
              go_wp2_with fail
              go_meet
              exact ⟨by rw [HE.out], rfl⟩
            have q12 : (ii.o == 12) = false := by simpa using h12
            by_cases h19 : ii.o = 19
            · have q19 : (ii.o == 19) = true := by simpa using h19
              have HE := hide (show safeB ii.o = true by simp [safeB, h19])
              clear h19
              go_wp2_with fail
              go_meet
              exact ⟨by rw [HE.out], rfl⟩
            have q19 : (ii.o == 19) = false := by simpa using h19
            by_cases h29 : ii.o = 29
            · have q29 : (ii.o == 29) = true := by simpa using h29
              have HE := hide (show safeB ii.o = true by simp [safeB, h29])
              clear h29
              go_wp2_with fail
              go_meet
              exact ⟨by rw [HE.out], rfl⟩
            have q29 : (ii.o == 29) = false := by simpa using h29
            by_cases h22 : ii.o = 22
            · have q22 : (ii.o == 22) = true := by simpa using h22
              have HE := hide (show safeB ii.o = true by simp [safeB, h22])
              clear h22
              go_wp2_with fail
              go_meet
              exact ⟨by rw [HE.out], rfl⟩
            have q22 : (ii.o == 22) = false := by simpa using h22
            by_cases h23 : ii.o = 23
            · have q23 : (ii.o == 23) = true := by simpa using h23
              have HE := hide (show safeB ii.o = true by simp [safeB, h23])
              clear h23
              go_wp2_with fail
              go_meet
              exact ⟨by rw [HE.out], rfl⟩
            have q23 : (ii.o == 23) = false := by simpa using h23
            have HE := hide (show safeB ii.o = false by simp [safeB, h11, h12, h19, h29, h22, h23])
            clear h11 h12 h19 h29 h22 h23
            go_wp2_with fail
            go_meet
            exact ⟨by rw [HE.out], rfl⟩
          case rest =>
            obtain ⟨hv13, hwc⟩ := hcut
            subst hv13
            obtain rfl : wr = wc := hwc.symm
            cases oo with
            | none =>
              have HR := hide (SKIP.out (.inl HO.out))
              have hcm2 : wr.cell? ⟨cb, x, none⟩ = some (.bool false) := hcm
              clear SKIP hcm
              go_wp2
              go_roundw
              case rel => exact HR.out
              case measure => first | exact meas_int hxl (by omega) | (rw [intOf_int, intOf_int]; omega)
            | some s =>
              have hcm2 : wr.cell? ⟨cb, x, none⟩ = some (.bool true) := hcm
              clear hcm
              by_cases hs : safeB ii.o = true
              · rw [hs]
                have HSF := hide (show safeB (coAt f x).o = true by rw [HII.out]; exact hs)
                have hat := selP_at hxl HO.out HSF.out
                rw [← HQ.out] at hat
                have hql : q < ln := by rw [← HLN.out]; exact get_lt hat
                obtain ⟨lao, lcap, hlv, hel⟩ := HV4.out.below HB.out
                cases hlv
                obtain ⟨gl, ol, u1, u2, rfl, hgl, c0, c1, c2, hu1, hu2⟩ := hel q _ hat
                obtain ⟨y1, z1, rfl⟩ := hu1.form
                obtain ⟨y2, z2, rfl⟩ := hu2.form
                rw [nzs_len] at hu1 hu2 c1 c2
                obtain ⟨y3, z3, c3, hsbl, hI3⟩ := HS4.out wr HB.out x s HO.out
                have hsl3 : s.length ≤ 300000000 := by
                  have := (HI.out.st x s HO.out).2
                  have := HHF.out.nc
                  omega
                have hlo3 : f.lo.length ≤ 300000000 := by have := HHF.out.nl; omega
                have HBS := hide (show ∀ W : World, Below wr.heap.size wr W → Calls Tryd.prog 9 #[.slice y3 s.length z3] W fun e W' => ∃ u, e = .returned u ∧ BsAt W' u (nzs s) ∧ Below W.heap.size W W' from fun W h => bits_any (hI3.keep (Kp.of_below h)) hsl3)
                have HBL := hide (show ∀ W : World, Below wr.heap.size wr W → Calls Tryd.prog 9 #[.slice b1 f.lo.length e1] W fun e W' => ∃ u, e = .returned u ∧ BsAt W' u (nzs f.lo) ∧ Below W.heap.size W W' from fun W h => bits_any ((HR4.out wr HB.out).2.2.keep (Kp.of_below h)) hlo3)
                have HSS := hide (show ∀ (W : World) (u : Value), Below wr.heap.size wr W → BsAt W u (nzs s) → Calls Tryd.prog 8 #[.slice y2 s.length z2, u] W fun e W' => e = .returned (.bool true) ∧ Below W.heap.size W W' from fun W u h hu => by
                  have h1 := sameBits_any (hu2.below h) hu (by rw [nzs_len]; exact hsl3)
                  simpa using h1)
                have HSLo := hide (show ∀ (W : World) (u : Value), Below wr.heap.size wr W → BsAt W u (nzs f.lo) → Calls Tryd.prog 8 #[.slice y1 f.lo.length z1, u] W fun e W' => e = .returned (.bool true) ∧ Below W.heap.size W W' from fun W u h hu => by
                  have h1 := sameBits_any (hu1.below h) hu (by rw [nzs_len]; exact hlo3)
                  simpa using h1)
                have HCL := hide (show ∀ W : World, Below wr.heap.size wr W → (fun W => W.cell? ⟨gl, ol + q * 3, none⟩ = some (.int .i64 (x : Int)) ∧ W.cell? ⟨gl, ol + q * 3 + 1, none⟩ = some (.slice y1 f.lo.length z1) ∧ W.cell? ⟨gl, ol + q * 3 + 2, none⟩ = some (.slice y2 s.length z2) ∧ W.cell? ⟨sb, x, none⟩ = some (.slice y3 s.length z3) ∧ W.cell? ⟨w.heap.size, 1, none⟩ = some (.slice (some ⟨g, o, none⟩) p.fu.length d2) ∧ W.cell? ⟨g, o + k' * 5 + 1, none⟩ = some (.slice b1 f.lo.length e1)) W from fun W h => ⟨(h.cell (p := ⟨gl, ol + q * 3, none⟩) hgl).trans c0, (h.cell (p := ⟨gl, ol + q * 3 + 1, none⟩) hgl).trans c1, (h.cell (p := ⟨gl, ol + q * 3 + 2, none⟩) hgl).trans c2, (h.cell (p := ⟨sb, x, none⟩) hsbl).trans c3, (h.cell (p := ⟨w.heap.size, 1, none⟩) m4).trans m1, (h.cell (p := ⟨g, o + k' * 5 + 1, none⟩) m5).trans m2⟩)
                have HR := hide (show ∀ W : World, Below wr.heap.size wr W → StK f F.ah L w4 (.int .i64 ((q + 1 : Nat) : Int)) (.int .i64 ((x + 1 : Nat) : Int)) W from fun W h => ⟨x + 1, q + 1, rfl, hxl, rfl, by rw [selP_some HO.out HSF.out, List.length_append, List.length_singleton, HQ.out], bel_tr HB.out h⟩)
                have dq : decide (q < ln) = true := by simpa using hql
                have dq2 : decide ((ln : Int) ≤ (q : Int)) = false := by simp; omega
                have dq3 : decide (ln ≤ q) = false := by simp; omega
                have dq4 : ¬ (ln ≤ q) := by omega
                have dqb : (q : Int) ≤ 65536 := by omega
                clear SKIP hs hat hel c0 c1 c2 hu1 hu2 c3 hI3 hwc
                go_upto_region 14 with (fail)
                refine wp_region_held_drew (S := (fun W => W.cell? ⟨gl, ol + q * 3, none⟩ = some (.int .i64 (x : Int)) ∧ W.cell? ⟨gl, ol + q * 3 + 1, none⟩ = some (.slice y1 f.lo.length z1) ∧ W.cell? ⟨gl, ol + q * 3 + 2, none⟩ = some (.slice y2 s.length z2) ∧ W.cell? ⟨sb, x, none⟩ = some (.slice y3 s.length z3) ∧ W.cell? ⟨w.heap.size, 1, none⟩ = some (.slice (some ⟨g, o, none⟩) p.fu.length d2) ∧ W.cell? ⟨g, o + k' * 5 + 1, none⟩ = some (.slice b1 f.lo.length e1))) (by kernel_rfl) (HCL.out _ (below_drew (Below.refl _ _))) (fun hHeld1 => ?_)
                refine wpAnyH_take (i := 0) (oi := { dst := some 86, op := Go.Op.move (Go.Operand.tmp 10), type := 3, pos := "law.go:60", after := #[], guard := none }) (v := ?v2) rfl (by kernel_rfl) (by kernel_rfl) (by kernel_rfl) (fun _ _ _ h => h) (Or.inl ⟨by rfl, ?hy2⟩) (by assumption) ?_
                case hy2 => (intro W hSw; (try dsimp only at hSw); go_simp; try with_reducible rfl)
                try simp only [Act.put, List.setIfInBounds_toArray, List.set_cons_zero, List.set_cons_succ]
                refine wpAnyH_take (i := 1) (oi := { dst := some 87, op := Go.Op.move (Go.Operand.tmp 5), type := 41, pos := "law.go:60", after := #[], guard := none }) (v := ?v3) rfl (by kernel_rfl) (by kernel_rfl) (by kernel_rfl) (fun _ _ _ h => h) (Or.inl ⟨by rfl, ?hy3⟩) (by assumption) ?_
                case hy3 => (intro W hSw; (try dsimp only at hSw); go_simp; try with_reducible rfl)
                try simp only [Act.put, List.setIfInBounds_toArray, List.set_cons_zero, List.set_cons_succ]
                refine wpAnyH_take (i := 2) (oi := { dst := some 88, op := Go.Op.call { callee := Go.Callee.builtin Go.Builtin.len, args := #[Go.Operand.tmp 87], argTypes := #[41] }, type := 3, pos := "law.go:60", after := #[{ on := 1, ground := Go.Ground.data }], guard := none }) (v := ?v4) rfl (by kernel_rfl) (by kernel_rfl) (by kernel_rfl) (fun _ _ _ h => h) (Or.inl ⟨by rfl, ?hy4⟩) (by assumption) ?_
                case hy4 => (intro W hSw; (try dsimp only at hSw); go_simp; try with_reducible rfl)
                try simp only [Act.put, List.setIfInBounds_toArray, List.set_cons_zero, List.set_cons_succ]
                refine wpAnyH_take (i := 3) (oi := { dst := some 89, op := Go.Op.binOp Go.BinOp.geq 3 (Go.Operand.tmp 86) (Go.Operand.tmp 88) 3, type := 4, pos := "law.go:60", after := #[{ on := 0, ground := Go.Ground.data }, { on := 2, ground := Go.Ground.data }], guard := none }) (v := ?v5) rfl (by kernel_rfl) (by kernel_rfl) (by kernel_rfl) (fun _ _ _ h => h) (Or.inl ⟨by rfl, ?hy5⟩) (by assumption) ?_
                case hy5 => (intro W hSw; (try dsimp only at hSw); go_simp; try with_reducible rfl)
                try simp only [Act.put, List.setIfInBounds_toArray, List.set_cons_zero, List.set_cons_succ]
                refine wpAnyH_take (i := 4) (oi := { dst := some 90, op := Go.Op.move (Go.Operand.tmp 89), type := 4, pos := "law.go:60", after := #[{ on := 3, ground := Go.Ground.data }], guard := none }) (v := ?v6) rfl (by kernel_rfl) (by kernel_rfl) (by kernel_rfl) (fun _ _ _ h => h) (Or.inl ⟨by rfl, ?hy6⟩) (by assumption) ?_
                case hy6 => (intro W hSw; (try dsimp only at hSw); go_simp; try with_reducible rfl)
                try simp only [Act.put, List.setIfInBounds_toArray, List.set_cons_zero, List.set_cons_succ]
                refine wpAnyH_take (i := 5) (oi := { dst := some 91, op := Go.Op.move (Go.Operand.tmp 5), type := 41, pos := "law.go:60", after := #[{ on := 4, ground := Go.Ground.guard }], guard := some (4, false) }) (v := ?v7) rfl (by kernel_rfl) (by kernel_rfl) (by kernel_rfl) (fun _ _ _ h => h) (Or.inl ⟨by rfl, ?hy7⟩) (by assumption) ?_
                case hy7 => (intro W hSw; (try dsimp only at hSw); go_simp; try with_reducible rfl)
                try simp only [Act.put, List.setIfInBounds_toArray, List.set_cons_zero, List.set_cons_succ]
                refine wpAnyH_take (i := 6) (oi := { dst := some 92, op := Go.Op.move (Go.Operand.tmp 10), type := 3, pos := "law.go:60", after := #[{ on := 4, ground := Go.Ground.guard }], guard := some (4, false) }) (v := ?v8) rfl (by kernel_rfl) (by kernel_rfl) (by kernel_rfl) (fun _ _ _ h => h) (Or.inl ⟨by rfl, ?hy8⟩) (by assumption) ?_
                case hy8 => (intro W hSw; (try dsimp only at hSw); go_simp; try with_reducible rfl)
                try simp only [Act.put, List.setIfInBounds_toArray, List.set_cons_zero, List.set_cons_succ]
                refine wpAnyH_take (i := 7) (oi := { dst := some 93, op := Go.Op.indexAddr 41 (Go.Operand.tmp 91) (Go.Operand.tmp 92), type := 0, pos := "law.go:60", after := #[{ on := 5, ground := Go.Ground.data }, { on := 6, ground := Go.Ground.data }, { on := 4, ground := Go.Ground.guard }], guard := some (4, false) }) (v := ?v9) rfl (by kernel_rfl) (by kernel_rfl) (by kernel_rfl) (fun _ _ _ h => h) (Or.inl ⟨by rfl, ?hy9⟩) (by assumption) ?_
                case hy9 => (intro W hSw; (try dsimp only at hSw); go_simp; try with_reducible rfl)
                try simp only [Act.put, List.setIfInBounds_toArray, List.set_cons_zero, List.set_cons_succ]
                refine wpAnyH_take (i := 8) (oi := { dst := some 94, op := Go.Op.fieldAddr 52 (Go.Operand.tmp 93) 0, type := 0, pos := "law.go:60", after := #[{ on := 7, ground := Go.Ground.data }, { on := 4, ground := Go.Ground.guard }], guard := some (4, false) }) (v := ?v10) rfl (by kernel_rfl) (by kernel_rfl) (by kernel_rfl) (fun _ _ _ h => h) (Or.inl ⟨by rfl, ?hy10⟩) (by assumption) ?_
                case hy10 => (intro W hSw; (try dsimp only at hSw); go_simp; try with_reducible rfl)
                try simp only [Act.put, List.setIfInBounds_toArray, List.set_cons_zero, List.set_cons_succ]
                refine wpAnyH_take (i := 9) (oi := { dst := some 95, op := Go.Op.load 3 (Go.Operand.tmp 94), type := 3, pos := "law.go:60", after := #[{ on := 8, ground := Go.Ground.data }, { on := 4, ground := Go.Ground.guard }], guard := some (4, false) }) (v := ?v11) rfl (by kernel_rfl) (by kernel_rfl) (by kernel_rfl) (fun _ _ _ h => h) (Or.inl ⟨by rfl, ?hy11⟩) (by assumption) ?_
                case hy11 => (intro W hSw; (try dsimp only at hSw); go_simp; try with_reducible rfl)
                try simp only [Act.put, List.setIfInBounds_toArray, List.set_cons_zero, List.set_cons_succ]
                refine wpAnyH_take (i := 10) (oi := { dst := some 96, op := Go.Op.move (Go.Operand.tmp 11), type := 3, pos := "law.go:60", after := #[{ on := 4, ground := Go.Ground.guard }], guard := some (4, false) }) (v := ?v12) rfl (by kernel_rfl) (by kernel_rfl) (by kernel_rfl) (fun _ _ _ h => h) (Or.inl ⟨by rfl, ?hy12⟩) (by assumption) ?_
                case hy12 => (intro W hSw; (try dsimp only at hSw); go_simp; try with_reducible rfl)
                try simp only [Act.put, List.setIfInBounds_toArray, List.set_cons_zero, List.set_cons_succ]
                refine wpAnyH_take (i := 11) (oi := { dst := some 97, op := Go.Op.binOp Go.BinOp.neq 3 (Go.Operand.tmp 95) (Go.Operand.tmp 96) 3, type := 4, pos := "law.go:60", after := #[{ on := 9, ground := Go.Ground.data }, { on := 10, ground := Go.Ground.data }, { on := 4, ground := Go.Ground.guard }], guard := some (4, false) }) (v := ?v13) rfl (by kernel_rfl) (by kernel_rfl) (by kernel_rfl) (fun _ _ _ h => h) (Or.inl ⟨by rfl, ?hy13⟩) (by assumption) ?_
                case hy13 => (intro W hSw; (try dsimp only at hSw); go_simp; try with_reducible rfl)
                try simp only [Act.put, List.setIfInBounds_toArray, List.set_cons_zero, List.set_cons_succ]
                refine wpAnyH_take (i := 12) (oi := { dst := some 98, op := Go.Op.pick (Go.Operand.tmp 90) (Go.Operand.const (Go.Value.bool true)) (Go.Operand.tmp 97), type := 4, pos := "law.go:60", after := #[{ on := 4, ground := Go.Ground.data }, { on := 11, ground := Go.Ground.data }], guard := none }) (v := ?v14) rfl (by kernel_rfl) (by kernel_rfl) (by kernel_rfl) (fun _ _ _ h => h) (Or.inl ⟨by rfl, ?hy14⟩) (by assumption) ?_
                case hy14 => (intro W hSw; (try dsimp only at hSw); go_simp; try with_reducible rfl)
                try simp only [Act.put, List.setIfInBounds_toArray, List.set_cons_zero, List.set_cons_succ]
                refine wpAnyH_take (i := 13) (oi := { dst := some 99, op := Go.Op.move (Go.Operand.tmp 98), type := 4, pos := "law.go:60", after := #[{ on := 12, ground := Go.Ground.data }, { on := 4, ground := Go.Ground.chain }], guard := none }) (v := ?v15) rfl (by kernel_rfl) (by kernel_rfl) (by kernel_rfl) (fun _ _ _ h => h) (Or.inl ⟨by rfl, ?hy15⟩) (by assumption) ?_
                case hy15 => (intro W hSw; (try dsimp only at hSw); go_simp; try with_reducible rfl)
                try simp only [Act.put, List.setIfInBounds_toArray, List.set_cons_zero, List.set_cons_succ]
                refine wpAnyH_take (i := 14) (oi := { dst := some 100, op := Go.Op.move (Go.Operand.tmp 5), type := 41, pos := "law.go:60", after := #[{ on := 13, ground := Go.Ground.guard }], guard := some (13, false) }) (v := ?v16) rfl (by kernel_rfl) (by kernel_rfl) (by kernel_rfl) (fun _ _ _ h => h) (Or.inl ⟨by rfl, ?hy16⟩) (by assumption) ?_
                case hy16 => (intro W hSw; (try dsimp only at hSw); go_simp; try with_reducible rfl)
                try simp only [Act.put, List.setIfInBounds_toArray, List.set_cons_zero, List.set_cons_succ]
                refine wpAnyH_take (i := 15) (oi := { dst := some 101, op := Go.Op.move (Go.Operand.tmp 10), type := 3, pos := "law.go:60", after := #[{ on := 13, ground := Go.Ground.guard }], guard := some (13, false) }) (v := ?v17) rfl (by kernel_rfl) (by kernel_rfl) (by kernel_rfl) (fun _ _ _ h => h) (Or.inl ⟨by rfl, ?hy17⟩) (by assumption) ?_
                case hy17 => (intro W hSw; (try dsimp only at hSw); go_simp; try with_reducible rfl)
                try simp only [Act.put, List.setIfInBounds_toArray, List.set_cons_zero, List.set_cons_succ]
                refine wpAnyH_take (i := 16) (oi := { dst := some 102, op := Go.Op.indexAddr 41 (Go.Operand.tmp 100) (Go.Operand.tmp 101), type := 0, pos := "law.go:60", after := #[{ on := 14, ground := Go.Ground.data }, { on := 15, ground := Go.Ground.data }, { on := 13, ground := Go.Ground.guard }], guard := some (13, false) }) (v := ?v18) rfl (by kernel_rfl) (by kernel_rfl) (by kernel_rfl) (fun _ _ _ h => h) (Or.inl ⟨by rfl, ?hy18⟩) (by assumption) ?_
                case hy18 => (intro W hSw; (try dsimp only at hSw); go_simp; try with_reducible rfl)
                try simp only [Act.put, List.setIfInBounds_toArray, List.set_cons_zero, List.set_cons_succ]
                refine wpAnyH_take (i := 17) (oi := { dst := some 103, op := Go.Op.fieldAddr 52 (Go.Operand.tmp 102) 2, type := 0, pos := "law.go:60", after := #[{ on := 16, ground := Go.Ground.data }, { on := 13, ground := Go.Ground.guard }], guard := some (13, false) }) (v := ?v19) rfl (by kernel_rfl) (by kernel_rfl) (by kernel_rfl) (fun _ _ _ h => h) (Or.inl ⟨by rfl, ?hy19⟩) (by assumption) ?_
                case hy19 => (intro W hSw; (try dsimp only at hSw); go_simp; try with_reducible rfl)
                try simp only [Act.put, List.setIfInBounds_toArray, List.set_cons_zero, List.set_cons_succ]
                refine wpAnyH_take (i := 18) (oi := { dst := some 104, op := Go.Op.load 28 (Go.Operand.tmp 103), type := 28, pos := "law.go:60", after := #[{ on := 17, ground := Go.Ground.data }, { on := 13, ground := Go.Ground.guard }], guard := some (13, false) }) (v := ?v20) rfl (by kernel_rfl) (by kernel_rfl) (by kernel_rfl) (fun _ _ _ h => h) (Or.inl ⟨by rfl, ?hy20⟩) (by assumption) ?_
                case hy20 => (intro W hSw; (try dsimp only at hSw); go_simp; try with_reducible rfl)
                try simp only [Act.put, List.setIfInBounds_toArray, List.set_cons_zero, List.set_cons_succ]
                refine wpAnyH_take (i := 19) (oi := { dst := some 105, op := Go.Op.move (Go.Operand.tmp 7), type := 24, pos := "law.go:60", after := #[{ on := 13, ground := Go.Ground.guard }], guard := some (13, false) }) (v := ?v21) rfl (by kernel_rfl) (by kernel_rfl) (by kernel_rfl) (fun _ _ _ h => h) (Or.inl ⟨by rfl, ?hy21⟩) (by assumption) ?_
                case hy21 => (intro W hSw; (try dsimp only at hSw); go_simp; try with_reducible rfl)
                try simp only [Act.put, List.setIfInBounds_toArray, List.set_cons_zero, List.set_cons_succ]
                refine wpAnyH_take (i := 20) (oi := { dst := some 106, op := Go.Op.move (Go.Operand.tmp 11), type := 3, pos := "law.go:60", after := #[{ on := 13, ground := Go.Ground.guard }], guard := some (13, false) }) (v := ?v22) rfl (by kernel_rfl) (by kernel_rfl) (by kernel_rfl) (fun _ _ _ h => h) (Or.inl ⟨by rfl, ?hy22⟩) (by assumption) ?_
                case hy22 => (intro W hSw; (try dsimp only at hSw); go_simp; try with_reducible rfl)
                try simp only [Act.put, List.setIfInBounds_toArray, List.set_cons_zero, List.set_cons_succ]
                refine wpAnyH_take (i := 21) (oi := { dst := some 107, op := Go.Op.indexAddr 24 (Go.Operand.tmp 105) (Go.Operand.tmp 106), type := 0, pos := "law.go:60", after := #[{ on := 19, ground := Go.Ground.data }, { on := 20, ground := Go.Ground.data }, { on := 13, ground := Go.Ground.guard }], guard := some (13, false) }) (v := ?v23) rfl (by kernel_rfl) (by kernel_rfl) (by kernel_rfl) (fun _ _ _ h => h) (Or.inl ⟨by rfl, ?hy23⟩) (by assumption) ?_
                case hy23 => (intro W hSw; (try dsimp only at hSw); go_simp; try with_reducible rfl)
                try simp only [Act.put, List.setIfInBounds_toArray, List.set_cons_zero, List.set_cons_succ]
                refine wpAnyH_take (i := 22) (oi := { dst := some 108, op := Go.Op.load 37 (Go.Operand.tmp 107), type := 37, pos := "law.go:60", after := #[{ on := 21, ground := Go.Ground.data }, { on := 13, ground := Go.Ground.guard }], guard := some (13, false) }) (v := ?v24) rfl (by kernel_rfl) (by kernel_rfl) (by kernel_rfl) (fun _ _ _ h => h) (Or.inl ⟨by rfl, ?hy24⟩) (by assumption) ?_
                case hy24 => (intro W hSw; (try dsimp only at hSw); go_simp; try with_reducible rfl)
                try simp only [Act.put, List.setIfInBounds_toArray, List.set_cons_zero, List.set_cons_succ]
                refine wpAnyH_ready (rs := [23]) (by kernel_rfl) (by simp) ?_
                refine AllReadyH.cons (o := { dst := some 109, op := Go.Op.call { callee := Go.Callee.value (Go.Operand.func 9), args := #[Go.Operand.tmp 108], argTypes := #[37] }, type := 28, pos := "law.go:60", after := #[{ on := 22, ground := Go.Ground.data }, { on := 13, ground := Go.Ground.chain }, { on := 13, ground := Go.Ground.guard }], guard := some (13, false) }) rfl (fun K hK => ?_) AllReadyH.nil
                go_simp
                go_at_call 9
                refine (HBS.out _ (below_drew (Below.refl _ _))).mono ?_
                rintro e w5 ⟨bu, rfl, hbu, hb5⟩
                have HB5 := hide (show Below wr.heap.size wr w5 from bel_tr (below_drew (Below.refl _ _)) hb5)
                have HSC := hide (HSS.out w5 bu HB5.out hbu)
                obtain ⟨p5, r5, rfl⟩ := hbu.form
                clear hb5 hbu
                go_wp2_with fail
                refine hK.out _ _ (HCL.out w5 HB5.out) (fun hHeld25 => ?_)
                clear hK K
                try simp only [Act.put, List.setIfInBounds_toArray, List.set_cons_zero, List.set_cons_succ]
                refine wpAnyH_ready (rs := [24]) (by kernel_rfl) (by simp) ?_
                refine AllReadyH.cons (o := { dst := some 110, op := Go.Op.call { callee := Go.Callee.value (Go.Operand.func 8), args := #[Go.Operand.tmp 104, Go.Operand.tmp 109], argTypes := #[28, 28] }, type := 4, pos := "law.go:60", after := #[{ on := 18, ground := Go.Ground.data }, { on := 23, ground := Go.Ground.data }, { on := 23, ground := Go.Ground.chain }, { on := 13, ground := Go.Ground.guard }], guard := some (13, false) }) rfl (fun K hK => ?_) AllReadyH.nil
                go_simp
                go_at_call 8
                refine HSC.out.mono ?_
                rintro e w6 ⟨rfl, hb6⟩
                have HB6 := hide (show Below wr.heap.size wr w6 from bel_tr HB5.out hb6)
                clear hb6
                go_wp2_with fail
                refine hK.out _ _ (HCL.out w6 HB6.out) (fun hHeld26 => ?_)
                clear hK K
                try simp only [Act.put, List.setIfInBounds_toArray, List.set_cons_zero, List.set_cons_succ]
                refine wpAnyH_take (i := 25) (oi := { dst := some 111, op := Go.Op.unOp Go.UnOp.not 4 (Go.Operand.tmp 110), type := 4, pos := "law.go:60", after := #[{ on := 24, ground := Go.Ground.data }, { on := 13, ground := Go.Ground.guard }], guard := some (13, false) }) (v := ?v27) rfl (by kernel_rfl) (by kernel_rfl) (by kernel_rfl) (fun _ _ _ h => h) (Or.inl ⟨by rfl, ?hy27⟩) (by assumption) ?_
                case hy27 => (intro W hSw; (try dsimp only at hSw); go_simp; try with_reducible rfl)
                try simp only [Act.put, List.setIfInBounds_toArray, List.set_cons_zero, List.set_cons_succ]
                refine wpAnyH_take (i := 26) (oi := { dst := some 112, op := Go.Op.pick (Go.Operand.tmp 99) (Go.Operand.const (Go.Value.bool true)) (Go.Operand.tmp 111), type := 4, pos := "law.go:60", after := #[{ on := 13, ground := Go.Ground.data }, { on := 25, ground := Go.Ground.data }], guard := none }) (v := ?v28) rfl (by kernel_rfl) (by kernel_rfl) (by kernel_rfl) (fun _ _ _ h => h) (Or.inl ⟨by rfl, ?hy28⟩) (by assumption) ?_
                case hy28 => (intro W hSw; (try dsimp only at hSw); go_simp; try with_reducible rfl)
                try simp only [Act.put, List.setIfInBounds_toArray, List.set_cons_zero, List.set_cons_succ]
                refine wpAnyH_take (i := 27) (oi := { dst := some 113, op := Go.Op.move (Go.Operand.tmp 112), type := 4, pos := "law.go:60", after := #[{ on := 26, ground := Go.Ground.data }, { on := 24, ground := Go.Ground.chain }], guard := none }) (v := ?v29) rfl (by kernel_rfl) (by kernel_rfl) (by kernel_rfl) (fun _ _ _ h => h) (Or.inl ⟨by rfl, ?hy29⟩) (by assumption) ?_
                case hy29 => (intro W hSw; (try dsimp only at hSw); go_simp; try with_reducible rfl)
                try simp only [Act.put, List.setIfInBounds_toArray, List.set_cons_zero, List.set_cons_succ]
                refine wpAnyH_take (i := 28) (oi := { dst := some 114, op := Go.Op.move (Go.Operand.tmp 5), type := 41, pos := "law.go:60", after := #[{ on := 27, ground := Go.Ground.guard }], guard := some (27, false) }) (v := ?v30) rfl (by kernel_rfl) (by kernel_rfl) (by kernel_rfl) (fun _ _ _ h => h) (Or.inl ⟨by rfl, ?hy30⟩) (by assumption) ?_
                case hy30 => (intro W hSw; (try dsimp only at hSw); go_simp; try with_reducible rfl)
                try simp only [Act.put, List.setIfInBounds_toArray, List.set_cons_zero, List.set_cons_succ]
                refine wpAnyH_take (i := 29) (oi := { dst := some 115, op := Go.Op.move (Go.Operand.tmp 10), type := 3, pos := "law.go:60", after := #[{ on := 27, ground := Go.Ground.guard }], guard := some (27, false) }) (v := ?v31) rfl (by kernel_rfl) (by kernel_rfl) (by kernel_rfl) (fun _ _ _ h => h) (Or.inl ⟨by rfl, ?hy31⟩) (by assumption) ?_
                case hy31 => (intro W hSw; (try dsimp only at hSw); go_simp; try with_reducible rfl)
                try simp only [Act.put, List.setIfInBounds_toArray, List.set_cons_zero, List.set_cons_succ]
                refine wpAnyH_take (i := 30) (oi := { dst := some 116, op := Go.Op.indexAddr 41 (Go.Operand.tmp 114) (Go.Operand.tmp 115), type := 0, pos := "law.go:60", after := #[{ on := 28, ground := Go.Ground.data }, { on := 29, ground := Go.Ground.data }, { on := 27, ground := Go.Ground.guard }], guard := some (27, false) }) (v := ?v32) rfl (by kernel_rfl) (by kernel_rfl) (by kernel_rfl) (fun _ _ _ h => h) (Or.inl ⟨by rfl, ?hy32⟩) (by assumption) ?_
                case hy32 => (intro W hSw; (try dsimp only at hSw); go_simp; try with_reducible rfl)
                try simp only [Act.put, List.setIfInBounds_toArray, List.set_cons_zero, List.set_cons_succ]
                refine wpAnyH_take (i := 31) (oi := { dst := some 117, op := Go.Op.fieldAddr 52 (Go.Operand.tmp 116) 1, type := 0, pos := "law.go:60", after := #[{ on := 30, ground := Go.Ground.data }, { on := 27, ground := Go.Ground.guard }], guard := some (27, false) }) (v := ?v33) rfl (by kernel_rfl) (by kernel_rfl) (by kernel_rfl) (fun _ _ _ h => h) (Or.inl ⟨by rfl, ?hy33⟩) (by assumption) ?_
                case hy33 => (intro W hSw; (try dsimp only at hSw); go_simp; try with_reducible rfl)
                try simp only [Act.put, List.setIfInBounds_toArray, List.set_cons_zero, List.set_cons_succ]
                refine wpAnyH_take (i := 32) (oi := { dst := some 118, op := Go.Op.load 28 (Go.Operand.tmp 117), type := 28, pos := "law.go:60", after := #[{ on := 31, ground := Go.Ground.data }, { on := 27, ground := Go.Ground.guard }], guard := some (27, false) }) (v := ?v34) rfl (by kernel_rfl) (by kernel_rfl) (by kernel_rfl) (fun _ _ _ h => h) (Or.inl ⟨by rfl, ?hy34⟩) (by assumption) ?_
                case hy34 => (intro W hSw; (try dsimp only at hSw); go_simp; try with_reducible rfl)
                try simp only [Act.put, List.setIfInBounds_toArray, List.set_cons_zero, List.set_cons_succ]
                refine wpAnyH_take (i := 33) (oi := { dst := some 119, op := Go.Op.fieldAddr 27 (Go.Operand.tmp 2) 1, type := 0, pos := "law.go:60", after := #[{ on := 27, ground := Go.Ground.guard }], guard := some (27, false) }) (v := ?v35) rfl (by kernel_rfl) (by kernel_rfl) (by kernel_rfl) (fun _ _ _ h => h) (Or.inl ⟨by rfl, ?hy35⟩) (by assumption) ?_
                case hy35 => (intro W hSw; (try dsimp only at hSw); go_simp; try with_reducible rfl)
                try simp only [Act.put, List.setIfInBounds_toArray, List.set_cons_zero, List.set_cons_succ]
                refine wpAnyH_take (i := 34) (oi := { dst := some 120, op := Go.Op.load 23 (Go.Operand.tmp 119), type := 23, pos := "law.go:60", after := #[{ on := 33, ground := Go.Ground.data }, { on := 27, ground := Go.Ground.guard }], guard := some (27, false) }) (v := ?v36) rfl (by kernel_rfl) (by kernel_rfl) (by kernel_rfl) (fun _ _ _ h => h) (Or.inl ⟨by rfl, ?hy36⟩) (by assumption) ?_
                case hy36 => (intro W hSw; (try dsimp only at hSw); go_simp; try with_reducible rfl)
                try simp only [Act.put, List.setIfInBounds_toArray, List.set_cons_zero, List.set_cons_succ]
                refine wpAnyH_take (i := 35) (oi := { dst := some 121, op := Go.Op.move (Go.Operand.tmp 1), type := 3, pos := "law.go:60", after := #[{ on := 27, ground := Go.Ground.guard }], guard := some (27, false) }) (v := ?v37) rfl (by kernel_rfl) (by kernel_rfl) (by kernel_rfl) (fun _ _ _ h => h) (Or.inl ⟨by rfl, ?hy37⟩) (by assumption) ?_
                case hy37 => (intro W hSw; (try dsimp only at hSw); go_simp; try with_reducible rfl)
                try simp only [Act.put, List.setIfInBounds_toArray, List.set_cons_zero, List.set_cons_succ]
                refine wpAnyH_take (i := 36) (oi := { dst := some 122, op := Go.Op.indexAddr 23 (Go.Operand.tmp 120) (Go.Operand.tmp 121), type := 0, pos := "law.go:60", after := #[{ on := 34, ground := Go.Ground.data }, { on := 35, ground := Go.Ground.data }, { on := 27, ground := Go.Ground.guard }], guard := some (27, false) }) (v := ?v38) rfl (by kernel_rfl) (by kernel_rfl) (by kernel_rfl) (fun _ _ _ h => h) (Or.inl ⟨by rfl, ?hy38⟩) (by assumption) ?_
                case hy38 => (intro W hSw; (try dsimp only at hSw); go_simp; try with_reducible rfl)
                try simp only [Act.put, List.setIfInBounds_toArray, List.set_cons_zero, List.set_cons_succ]
                refine wpAnyH_take (i := 37) (oi := { dst := some 123, op := Go.Op.fieldAddr 50 (Go.Operand.tmp 122) 1, type := 0, pos := "law.go:60", after := #[{ on := 36, ground := Go.Ground.data }, { on := 27, ground := Go.Ground.guard }], guard := some (27, false) }) (v := ?v39) rfl (by kernel_rfl) (by kernel_rfl) (by kernel_rfl) (fun _ _ _ h => h) (Or.inl ⟨by rfl, ?hy39⟩) (by assumption) ?_
                case hy39 => (intro W hSw; (try dsimp only at hSw); go_simp; try with_reducible rfl)
                try simp only [Act.put, List.setIfInBounds_toArray, List.set_cons_zero, List.set_cons_succ]
                refine wpAnyH_take (i := 38) (oi := { dst := some 124, op := Go.Op.load 37 (Go.Operand.tmp 123), type := 37, pos := "law.go:60", after := #[{ on := 37, ground := Go.Ground.data }, { on := 27, ground := Go.Ground.guard }], guard := some (27, false) }) (v := ?v40) rfl (by kernel_rfl) (by kernel_rfl) (by kernel_rfl) (fun _ _ _ h => h) (Or.inl ⟨by rfl, ?hy40⟩) (by assumption) ?_
                case hy40 => (intro W hSw; (try dsimp only at hSw); go_simp; try with_reducible rfl)
                try simp only [Act.put, List.setIfInBounds_toArray, List.set_cons_zero, List.set_cons_succ]
                refine wpAnyH_ready (rs := [39]) (by kernel_rfl) (by simp) ?_
                refine AllReadyH.cons (o := { dst := some 125, op := Go.Op.call { callee := Go.Callee.value (Go.Operand.func 9), args := #[Go.Operand.tmp 124], argTypes := #[37] }, type := 28, pos := "law.go:60", after := #[{ on := 38, ground := Go.Ground.data }, { on := 27, ground := Go.Ground.chain }, { on := 27, ground := Go.Ground.guard }], guard := some (27, false) }) rfl (fun K hK => ?_) AllReadyH.nil
                go_simp
                go_at_call 9
                refine (HBL.out _ HB6.out).mono ?_
                rintro e w7 ⟨bu, rfl, hbu, hb7⟩
                have HB7 := hide (show Below wr.heap.size wr w7 from bel_tr HB6.out hb7)
                have HSD := hide (HSLo.out w7 bu HB7.out hbu)
                obtain ⟨p7, r7, rfl⟩ := hbu.form
                clear hb7 hbu
                go_wp2_with fail
                refine hK.out _ _ (HCL.out w7 HB7.out) (fun hHeld41 => ?_)
                clear hK K
                try simp only [Act.put, List.setIfInBounds_toArray, List.set_cons_zero, List.set_cons_succ]
                refine wpAnyH_ready (rs := [40]) (by kernel_rfl) (by simp) ?_
                refine AllReadyH.cons (o := { dst := some 126, op := Go.Op.call { callee := Go.Callee.value (Go.Operand.func 8), args := #[Go.Operand.tmp 118, Go.Operand.tmp 125], argTypes := #[28, 28] }, type := 4, pos := "law.go:60", after := #[{ on := 32, ground := Go.Ground.data }, { on := 39, ground := Go.Ground.data }, { on := 39, ground := Go.Ground.chain }, { on := 27, ground := Go.Ground.guard }], guard := some (27, false) }) rfl (fun K hK => ?_) AllReadyH.nil
                go_simp
                go_at_call 8
                refine HSD.out.mono ?_
                rintro e w8 ⟨rfl, hb8⟩
                have HB8 := hide (show Below wr.heap.size wr w8 from bel_tr HB7.out hb8)
                clear hb8
                go_wp2_with fail
                refine hK.out _ _ (HCL.out w8 HB8.out) (fun hHeld42 => ?_)
                clear hK K
                try simp only [Act.put, List.setIfInBounds_toArray, List.set_cons_zero, List.set_cons_succ]
                refine wpAnyH_take (i := 41) (oi := { dst := some 127, op := Go.Op.unOp Go.UnOp.not 4 (Go.Operand.tmp 126), type := 4, pos := "law.go:60", after := #[{ on := 40, ground := Go.Ground.data }, { on := 27, ground := Go.Ground.guard }], guard := some (27, false) }) (v := ?v43) rfl (by kernel_rfl) (by kernel_rfl) (by kernel_rfl) (fun _ _ _ h => h) (Or.inl ⟨by rfl, ?hy43⟩) (by assumption) ?_
                case hy43 => (intro W hSw; (try dsimp only at hSw); go_simp; try with_reducible rfl)
                try simp only [Act.put, List.setIfInBounds_toArray, List.set_cons_zero, List.set_cons_succ]
                refine wpAnyH_take (i := 42) (oi := { dst := some 128, op := Go.Op.pick (Go.Operand.tmp 113) (Go.Operand.const (Go.Value.bool true)) (Go.Operand.tmp 127), type := 4, pos := "law.go:60", after := #[{ on := 27, ground := Go.Ground.data }, { on := 41, ground := Go.Ground.data }], guard := none }) (v := ?v44) rfl (by kernel_rfl) (by kernel_rfl) (by kernel_rfl) (fun _ _ _ h => h) (Or.inl ⟨by rfl, ?hy44⟩) (by assumption) ?_
                case hy44 => (intro W hSw; (try dsimp only at hSw); go_simp; try with_reducible rfl)
                try simp only [Act.put, List.setIfInBounds_toArray, List.set_cons_zero, List.set_cons_succ]
                refine wpAnyH_done (by kernel_rfl) ?_ _
                go_wp2
                go_roundw
                case rel => exact HR.out _ HB8.out
                case measure => first | exact meas_int hxl (by omega) | (rw [intOf_int, intOf_int]; omega)
              · have hs2 : safeB ii.o = false := by simpa using hs
                have HR := hide (SKIP.out (.inr (by rw [HII.out]; exact hs2)))
                rw [hs2]
                clear SKIP hs hs2
                go_wp2
                go_roundw
                case rel => exact HR.out
                case measure => first | exact meas_int hxl (by omega) | (rw [intOf_int, intOf_int]; omega)
        · obtain rfl : L = x := by omega
          obtain rfl : q = ln := by rw [HQ.out, HLN.out]
          have d1 : decide (L < L) = false := by simp
          have HE := hide (HB1.out wr (bel_tr HB4.out HB.out))
          go_wp2
          go_ret
          exact ⟨by simp, HE.out⟩
end
end Go.Proofs.YtkdojpnihinpbaaDoor
