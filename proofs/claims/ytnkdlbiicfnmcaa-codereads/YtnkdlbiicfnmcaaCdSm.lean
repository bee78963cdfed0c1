/- The document's Same of the same programs. -/
import Derived.Test.YtnkdlbiicfnmcaaCdSa
namespace Go.Proofs.Ytnkdlbiicfnmcaa
open Go.RowKit
def LpR (W : World) (n : Nat) (a : Value) (wr : World) : Prop := ∃ j : Nat, a = .int .i64 j ∧ j ≤ n ∧ Below W.heap.size W wr
theorem LpR.next {W wr wr' : World} {j n : Nat} (h : Below W.heap.size W wr) (h2 : Below wr.heap.size wr wr') (hlt : j < n) : Below W.heap.size W wr' ∧ j + 1 ≤ n := ⟨h.trans (h2.mono h.size), hlt⟩
theorem SlAt.get {α : Type} {k B : Nat} {P : World → List Value → α → Prop} {w : World} {a : Option Addr} {n c : Nat} {l : List α} (h : SlAt k P B w (.slice a n c) l) {j : Nat} {x : α} (hx : l[j]? = some x) : ∃ g o cs, a = some ⟨g, o, none⟩ ∧ g < B ∧ (∀ r u, cs[r]? = some u → w.cell? ⟨g, o + j * k + r, none⟩ = some u) ∧ P w cs x := by
  obtain ⟨ao, cp, hv, _, hel⟩ := h
  cases hv
  exact hel j x hx
theorem below_of_dr {w w' : World} (h : Below w.drew.heap.size w.drew w') : Below w.heap.size w w' := ⟨h.os, h.tape, h.output, h.size, h.block⟩
section
variable {w : World} {B : Nat}
set_option maxRecDepth 100000 in
set_option maxHeartbeats 2000000 in
theorem same_any {p : Pg} {v1 v2 v3 v4 u1 u2 u3 u4 : Value} (R : PgAt B w v1 v2 v3 v4 p) (S : PgAt B w u1 u2 u3 u4 p) (hB : B ≤ w.heap.size) : Calls Try.prog 15 #[.agg #[v1, v2, v3, v4], .agg #[u1, u2, u3, u4]] w fun e w' => e = .returned (.bool true) ∧ Below w.heap.size w w' := by
  obtain ⟨W1, hW1⟩ : ∃ W1, w.alloc (.cells #[v1, v2, v3, v4] 27) = W1 := ⟨_, rfl⟩
  have hz1 : W1.heap.size = w.heap.size + 1 := by rw [← hW1]; simp
  obtain ⟨W2, hW2⟩ : ∃ W2, W1.alloc (.cells #[u1, u2, u3, u4] 27) = W2 := ⟨_, rfl⟩
  have hz2 : W2.heap.size = w.heap.size + 2 := by rw [← hW2]; simp [hz1]
  have B2 : Below w.heap.size w W2 := by rw [← hW2, ← hW1]; exact ((Below.refl _ _).alloc (Nat.le_refl _) _).alloc (by simp) _
  have e1 : W2.heap[w.heap.size]? = some (.cells #[v1, v2, v3, v4] 27 (0, 0)) := by rw [← hW2, Below.heap_alloc _ _ _ (by omega), ← hW1]; exact heap_new _ _ rfl
  have e2 : W2.heap[W1.heap.size]? = some (.cells #[u1, u2, u3, u4] 27 (0, 0)) := by rw [← hW2]; exact heap_new _ _ rfl
  -- what every later world has
  have KP := hide (show ∀ wr, Below W2.heap.size W2 wr → PgAt B wr v1 v2 v3 v4 p ∧ PgAt B wr u1 u2 u3 u4 p ∧ wr.heap[w.heap.size]? = some (.cells #[v1, v2, v3, v4] 27 (0, 0)) ∧ wr.heap[W1.heap.size]? = some (.cells #[u1, u2, u3, u4] 27 (0, 0)) ∧ Below w.heap.size w wr from fun wr h =>
    have hk : ∀ j, j < B → wr.heap[j]? = w.heap[j]? := fun j hj => (h.block j (by omega)).trans (B2.block j (by omega))
    ⟨R.keep (Nat.le_refl _) hk, S.keep (Nat.le_refl _) hk, (h.block _ (by omega)).trans e1, (h.block _ (by omega)).trans e2, B2.trans (h.mono (by omega))⟩)
  obtain ⟨a1, n1, hv1, hl1, _⟩ := R.ty
  obtain ⟨a2, n2, hv2, hl2, _⟩ := R.fu
  obtain ⟨a3, n3, hv3, hl3, _⟩ := R.ta
  obtain ⟨a4, n4, hv4, hl4, _⟩ := R.st
  obtain ⟨b1, m1, hu1, _⟩ := S.ty
  obtain ⟨b2, m2, hu2, _⟩ := S.fu
  obtain ⟨b3, m3, hu3, _⟩ := S.ta
  obtain ⟨b4, m4, hu4, _⟩ := S.st
  subst hv1 hv2 hv3 hv4 hu1 hu2 hu3 hu4
  have HL1 := hide hl1
  have HL2 := hide hl2
  have HL3 := hide hl3
  have HL4 := hide hl4
  have KC := hide (show ∀ wr, Below W2.heap.size W2 wr → _ from fun wr h => (KP.out wr h).2.2)
  have c0 : W2.cell? ⟨w.heap.size, 0, none⟩ = some (.slice a1 p.ty.length n1) := cell_of e1 rfl
  have c1 : W2.cell? ⟨w.heap.size, 1, none⟩ = some (.slice a2 p.fu.length n2) := cell_of e1 rfl
  have c2 : W2.cell? ⟨w.heap.size, 2, none⟩ = some (.slice a3 p.ta.length n3) := cell_of e1 rfl
  have c3 : W2.cell? ⟨w.heap.size, 3, none⟩ = some (.slice a4 p.st.length n4) := cell_of e1 rfl
  have d0 : W2.cell? ⟨W1.heap.size, 0, none⟩ = some (.slice b1 p.ty.length m1) := cell_of e2 rfl
  have d1 : W2.cell? ⟨W1.heap.size, 1, none⟩ = some (.slice b2 p.fu.length m2) := cell_of e2 rfl
  have d2 : W2.cell? ⟨W1.heap.size, 2, none⟩ = some (.slice b3 p.ta.length m3) := cell_of e2 rfl
  have d3 : W2.cell? ⟨W1.heap.size, 3, none⟩ = some (.slice b4 p.st.length m4) := cell_of e2 rfl
  have x1 : ((p.ty.length : Int) == (p.ty.length : Int)) = true := by simp
  have x2 : ((p.fu.length : Int) == (p.fu.length : Int)) = true := by simp
  have x3 : ((p.ta.length : Int) == (p.ta.length : Int)) = true := by simp
  have x4 : ((p.st.length : Int) == (p.st.length : Int)) = true := by simp
  have HBB0 := hide hB
  have HZ2 := hide hz2
  clear R S hB B2 e1 e2 hz1 hz2 hl1 hl2 hl3 hl4
  generalize hN1 : p.ty.length = N1 at *
  generalize hN2 : p.fu.length = N2 at *
  generalize hN3 : p.ta.length = N3 at *
  generalize hN4 : p.st.length = N4 at *
  have HN1 := hide hN1
  have HN2 := hide hN2
  have HN3 := hide hN3
  have HN4 := hide hN4
  clear hN1 hN2 hN3 hN4
  go_enter Try.func15, Try.ntmps15
  go_wp2
  clear hW1 hW2
  go_loopw [5] (fun a wr => LpR W2 N1 a wr) (fun a _ => N1 - (intOf a).toNat)
  case atStart => exact ⟨0, rfl, Nat.zero_le _, Below.refl _ _⟩
  case round =>
    obtain ⟨j, rfl, hj, hb⟩ := hrel
    have HBB := hide hb
    obtain ⟨R, S, k1, k2, hbw⟩ := KP.out wr hb
    have q0 : wr.cell? ⟨w.heap.size, 0, none⟩ = some (.slice a1 N1 n1) := cell_of k1 rfl
    have q1 : wr.cell? ⟨W1.heap.size, 0, none⟩ = some (.slice b1 N1 m1) := cell_of k2 rfl
    by_cases hlt : j < N1
    · obtain ⟨x, hx⟩ : ∃ x, p.ty[j]? = some x := ⟨p.ty[j]'(by rw [HN1.out]; exact hlt), by simp⟩
      obtain ⟨g, o, cs, rfl, hgl, hcs, y1, rfl, r1⟩ := R.ty.get hx
      obtain ⟨g2, o2, ds, rfl, hgl2, hds, y2, rfl, r2⟩ := S.ty.get hx
      have t1 : wr.cell? ⟨g, o + j, none⟩ = some y1 := by have := hcs 0 _ rfl; simpa using this
      have t2 : wr.cell? ⟨g2, o2 + j, none⟩ = some y2 := by have := hds 0 _ rfl; simpa using this
      have C1 := hide (sameInts_any (w := wr.drew) (ints_keep (Nat.le_refl _) (fun _ _ => rfl) r1) (ints_keep (Nat.le_refl _) (fun _ _ => rfl) r2))
      obtain ⟨f1, g1, hy1, _⟩ := r1
      obtain ⟨f2, g2', hy2, _⟩ := r2
      subst hy1 hy2
      have l1 : decide (j < N1) = true := by simpa using hlt
      clear hcs hds hx hb R S k1 k2 hbw hgl hgl2
      go_wp2_with fail
      go_region_held3 (fun W => W.cell? ⟨w.heap.size, 0, none⟩ = some (.slice (some ⟨g, o, none⟩) N1 n1) ∧ W.cell? ⟨W1.heap.size, 0, none⟩ = some (.slice (some ⟨g2, o2, none⟩) N1 m1) ∧ W.cell? ⟨g, o + j, none⟩ = some (.slice f1 x.length g1) ∧ W.cell? ⟨g2, o2 + j, none⟩ = some (.slice f2 x.length g2')) (first | exact ⟨q0, q1, t1, t2⟩ | exact KK | go_keep) ((go_simp; go_at_call 32; refine C1.out.mono ?_; rintro e w3 ⟨rfl, hb3⟩; have KK : w3.cell? ⟨w.heap.size, 0, none⟩ = some (.slice (some ⟨g, o, none⟩) N1 n1) ∧ w3.cell? ⟨W1.heap.size, 0, none⟩ = some (.slice (some ⟨g2, o2, none⟩) N1 m1) ∧ w3.cell? ⟨g, o + j, none⟩ = some (.slice f1 x.length g1) ∧ w3.cell? ⟨g2, o2 + j, none⟩ = some (.slice f2 x.length g2') := ⟨(hb3.cell (World.block_lt_of_cell? wr _ q0)).trans q0, (hb3.cell (World.block_lt_of_cell? wr _ q1)).trans q1, (hb3.cell (World.block_lt_of_cell? wr _ t1)).trans t1, (hb3.cell (World.block_lt_of_cell? wr _ t2)).trans t2⟩))
      have HB3 := hide (LpR.next HBB.out (below_of_dr hb3) hlt)
      clear hb3 KK t1 t2 q0 q1 C1
      go_wp2
      go_roundw
      case rel => exact ⟨j + 1, by first | exact num_next hlt HL1.out | go_num, HB3.out.2, HB3.out.1⟩
      case measure => first | exact meas_int hlt HL1.out | (rw [intOf_int, intOf_int]; omega)
    · obtain rfl : j = N1 := by omega
      have l1 : decide (j < j) = false := by simp
      clear hb R S k1 k2 hbw
      generalize wr = W3 at *
      go_wp2
      have HBW3 := hide HBB.out
      clear HBB
      go_loopw [6] (fun a wr => LpR W2 N2 a wr) (fun a _ => N2 - (intOf a).toNat)
      case atStart => exact ⟨0, rfl, Nat.zero_le _, HBW3.out⟩
      case round =>
        obtain ⟨j, rfl, hj, hb⟩ := hrel
        have HBB := hide hb
        obtain ⟨R, S, k1, k2, hbw⟩ := KP.out wr hb
        have q0 : wr.cell? ⟨w.heap.size, 1, none⟩ = some (.slice a2 N2 n2) := cell_of k1 rfl
        have q1 : wr.cell? ⟨W1.heap.size, 1, none⟩ = some (.slice b2 N2 m2) := cell_of k2 rfl
        by_cases hlt : j < N2
        · obtain ⟨x, hx⟩ : ∃ x, p.fu[j]? = some x := ⟨p.fu[j]'(by rw [HN2.out]; exact hlt), by simp⟩
          obtain ⟨g, o, cs, rfl, hgl, hcs, y1, y2, y3, y4, rfl, _, r1, r2, r3, r4⟩ := R.fu.get hx
          obtain ⟨q, r, ds, rfl, hql, hds, z1, z2, z3, z4, rfl, _, s1, s2, s3, s4⟩ := S.fu.get hx
          have HR1 := hide r1
          have HR2 := hide r2
          have HR3 := hide r3
          have HR4 := hide r4
          have HS1 := hide s1
          have HS2 := hide s2
          have HS3 := hide s3
          have HS4 := hide s4
          obtain ⟨f1, g1, hy1, _⟩ := r1
          obtain ⟨f2, g2, hy2, _⟩ := r2
          obtain ⟨f3, g3, hy3, _⟩ := r3
          obtain ⟨f4, g4, hy4, hco, _⟩ := r4
          obtain ⟨h1, i1, hz1, _⟩ := s1
          obtain ⟨h2, i2, hz2, _⟩ := s2
          obtain ⟨h3, i3, hz3, _⟩ := s3
          obtain ⟨h4, i4, hz4, _⟩ := s4
          subst hy1 hy2 hy3 hy4 hz1 hz2 hz3 hz4
          have t0 : wr.cell? ⟨g, o + j * 5, none⟩ = some (.int .i64 x.pa) := by have := hcs 0 _ rfl; simpa using this
          have t1 : wr.cell? ⟨g, o + j * 5 + 1, none⟩ = some (.slice f1 x.lo.length g1) := by have := hcs 1 _ rfl; simpa using this
          have t2 : wr.cell? ⟨g, o + j * 5 + 2, none⟩ = some (.slice f2 x.re.length g2) := by have := hcs 2 _ rfl; simpa using this
          have t3 : wr.cell? ⟨g, o + j * 5 + 3, none⟩ = some (.slice f3 x.ar.length g3) := by have := hcs 3 _ rfl; simpa using this
          have t4 : wr.cell? ⟨g, o + j * 5 + 4, none⟩ = some (.slice f4 x.co.length g4) := by have := hcs 4 _ rfl; simpa using this
          have u0 : wr.cell? ⟨q, r + j * 5, none⟩ = some (.int .i64 x.pa) := by have := hds 0 _ rfl; simpa using this
          have u1 : wr.cell? ⟨q, r + j * 5 + 1, none⟩ = some (.slice h1 x.lo.length i1) := by have := hds 1 _ rfl; simpa using this
          have u2 : wr.cell? ⟨q, r + j * 5 + 2, none⟩ = some (.slice h2 x.re.length i2) := by have := hds 2 _ rfl; simpa using this
          have u3 : wr.cell? ⟨q, r + j * 5 + 3, none⟩ = some (.slice h3 x.ar.length i3) := by have := hds 3 _ rfl; simpa using this
          have u4 : wr.cell? ⟨q, r + j * 5 + 4, none⟩ = some (.slice h4 x.co.length i4) := by have := hds 4 _ rfl; simpa using this
          have HBr := hide (show B ≤ wr.heap.size by have := HBB.out.size; have := HBB0.out; have := HZ2.out; omega)
          have hgw : g < wr.heap.size := World.block_lt_of_cell? wr _ t0
          have hqw : q < wr.heap.size := World.block_lt_of_cell? wr _ u0
          have h0w : w.heap.size < wr.heap.size := World.block_lt_of_cell? wr _ q0
          have h1w : W1.heap.size < wr.heap.size := World.block_lt_of_cell? wr _ q1
          have l1 : decide (j < N2) = true := by simpa using hlt
          clear hcs hds hx hb R S k1 k2 hbw hgl hql hco
          go_wp2_with fail
          go_region_held3 (fun W => W.cell? ⟨w.heap.size, 1, none⟩ = some (.slice (some ⟨g, o, none⟩) N2 n2) ∧ W.cell? ⟨W1.heap.size, 1, none⟩ = some (.slice (some ⟨q, r, none⟩) N2 m2) ∧ W.cell? ⟨g, o + j * 5, none⟩ = some (.int .i64 x.pa) ∧ W.cell? ⟨g, o + j * 5 + 1, none⟩ = some (.slice f1 x.lo.length g1) ∧ W.cell? ⟨g, o + j * 5 + 2, none⟩ = some (.slice f2 x.re.length g2) ∧ W.cell? ⟨g, o + j * 5 + 3, none⟩ = some (.slice f3 x.ar.length g3) ∧ W.cell? ⟨g, o + j * 5 + 4, none⟩ = some (.slice f4 x.co.length g4) ∧ W.cell? ⟨q, r + j * 5, none⟩ = some (.int .i64 x.pa) ∧ W.cell? ⟨q, r + j * 5 + 1, none⟩ = some (.slice h1 x.lo.length i1) ∧ W.cell? ⟨q, r + j * 5 + 2, none⟩ = some (.slice h2 x.re.length i2) ∧ W.cell? ⟨q, r + j * 5 + 3, none⟩ = some (.slice h3 x.ar.length i3) ∧ W.cell? ⟨q, r + j * 5 + 4, none⟩ = some (.slice h4 x.co.length i4)) (first | exact ⟨q0, q1, t0, t1, t2, t3, t4, u0, u1, u2, u3, u4⟩ | go_keep) (fail)
          · obtain ⟨W5, hW5⟩ : ∃ W5, ((wr.alloc (.cells #[.int .i64 x.pa, .slice f1 x.lo.length g1, .slice f2 x.re.length g2, .slice f3 x.ar.length g3, .slice f4 x.co.length g4] 58)).alloc (.cells #[.int .i64 x.pa, .slice h1 x.lo.length i1, .slice h2 x.re.length i2, .slice h3 x.ar.length i3, .slice h4 x.co.length i4] 58)).drew = W5 := ⟨_, rfl⟩
            have hA5 : W5.heap[wr.heap.size]? = some (.cells #[.int .i64 x.pa, .slice f1 x.lo.length g1, .slice f2 x.re.length g2, .slice f3 x.ar.length g3, .slice f4 x.co.length g4] 58 (0, 0)) := by rw [← hW5]; exact (Below.heap_alloc _ _ _ (by simp)).trans (heap_new _ _ rfl)
            have hB5 : W5.heap[wr.heap.size + 1]? = some (.cells #[.int .i64 x.pa, .slice h1 x.lo.length i1, .slice h2 x.re.length i2, .slice h3 x.ar.length i3, .slice h4 x.co.length i4] 58 (0, 0)) := by rw [← hW5]; exact heap_new _ _ (by simp)
            have hBW : Below wr.heap.size wr W5 := by rw [← hW5]; exact below_drew (((Below.refl _ _).alloc (Nat.le_refl _) _).alloc (by simp) _)
            have KF := hide (show ∀ W, Below W5.heap.size W5 W → W.heap[wr.heap.size]? = some (.cells #[.int .i64 x.pa, .slice f1 x.lo.length g1, .slice f2 x.re.length g2, .slice f3 x.ar.length g3, .slice f4 x.co.length g4] 58 (0, 0)) ∧ W.heap[wr.heap.size + 1]? = some (.cells #[.int .i64 x.pa, .slice h1 x.lo.length i1, .slice h2 x.re.length i2, .slice h3 x.ar.length i3, .slice h4 x.co.length i4] 58 (0, 0)) ∧ (∀ j, j < B → W.heap[j]? = wr.heap[j]?) ∧ Below W2.heap.size W2 W from fun W h => ⟨(h.block _ (lt_of_block hA5)).trans hA5, (h.block _ (lt_of_block hB5)).trans hB5, fun j hj => (h.block j (by have := hBW.size; have := HBr.out; omega)).trans (hBW.block j (by have := HBr.out; omega)), HBB.out.trans ((hBW.trans (h.mono hBW.size)).mono HBB.out.size)⟩)
            rw [hW5]
            clear hA5 hB5 hBW hW5
            obtain ⟨o1, o2, o3, o4⟩ := KF.out W5 (Below.refl _ _)
            have ca0 : W5.cell? ⟨wr.heap.size, 0, none⟩ = some (.int .i64 x.pa) := cell_of o1 rfl
            have cb0 : W5.cell? ⟨wr.heap.size + 1, 0, none⟩ = some (.int .i64 x.pa) := cell_of o2 rfl
            have ca1 : W5.cell? ⟨wr.heap.size, 1, none⟩ = some (.slice f1 x.lo.length g1) := cell_of o1 rfl
            have cb1 : W5.cell? ⟨wr.heap.size + 1, 1, none⟩ = some (.slice h1 x.lo.length i1) := cell_of o2 rfl
            have ca2 : W5.cell? ⟨wr.heap.size, 2, none⟩ = some (.slice f2 x.re.length g2) := cell_of o1 rfl
            have cb2 : W5.cell? ⟨wr.heap.size + 1, 2, none⟩ = some (.slice h2 x.re.length i2) := cell_of o2 rfl
            have ca3 : W5.cell? ⟨wr.heap.size, 3, none⟩ = some (.slice f3 x.ar.length g3) := cell_of o1 rfl
            have cb3 : W5.cell? ⟨wr.heap.size + 1, 3, none⟩ = some (.slice h3 x.ar.length i3) := cell_of o2 rfl
            have ca4 : W5.cell? ⟨wr.heap.size, 4, none⟩ = some (.slice f4 x.co.length g4) := cell_of o1 rfl
            have cb4 : W5.cell? ⟨wr.heap.size + 1, 4, none⟩ = some (.slice h4 x.co.length i4) := cell_of o2 rfl
            have C1 := hide (sameInts_any (ints_keep (Nat.le_refl _) o3 HR1.out) (ints_keep (Nat.le_refl _) o3 HS1.out))
            have G5 := hide (Below.refl W5.heap.size W5)
            clear o1 o2 o3 o4 q0 q1 t0 t1 t2 t3 t4 u0 u1 u2 u3 u4
            have y0 : (x.pa == x.pa) = true := by simp
            have y4 : ((x.co.length : Int) == (x.co.length : Int)) = true := by simp
            go_wp2_with fail
            refine C1.out.mono ?_
            rintro e w6 ⟨rfl, hb1⟩
            have G6 := hide (G5.out.trans (hb1.mono G5.out.size))
            obtain ⟨o1, o2, o3, o4⟩ := KF.out w6 G6.out
            have dxa0 : w6.cell? ⟨wr.heap.size, 0, none⟩ = some (.int .i64 x.pa) := cell_of o1 rfl
            have dxb0 : w6.cell? ⟨wr.heap.size + 1, 0, none⟩ = some (.int .i64 x.pa) := cell_of o2 rfl
            have dxa1 : w6.cell? ⟨wr.heap.size, 1, none⟩ = some (.slice f1 x.lo.length g1) := cell_of o1 rfl
            have dxb1 : w6.cell? ⟨wr.heap.size + 1, 1, none⟩ = some (.slice h1 x.lo.length i1) := cell_of o2 rfl
            have dxa2 : w6.cell? ⟨wr.heap.size, 2, none⟩ = some (.slice f2 x.re.length g2) := cell_of o1 rfl
            have dxb2 : w6.cell? ⟨wr.heap.size + 1, 2, none⟩ = some (.slice h2 x.re.length i2) := cell_of o2 rfl
            have dxa3 : w6.cell? ⟨wr.heap.size, 3, none⟩ = some (.slice f3 x.ar.length g3) := cell_of o1 rfl
            have dxb3 : w6.cell? ⟨wr.heap.size + 1, 3, none⟩ = some (.slice h3 x.ar.length i3) := cell_of o2 rfl
            have dxa4 : w6.cell? ⟨wr.heap.size, 4, none⟩ = some (.slice f4 x.co.length g4) := cell_of o1 rfl
            have dxb4 : w6.cell? ⟨wr.heap.size + 1, 4, none⟩ = some (.slice h4 x.co.length i4) := cell_of o2 rfl
            have C2 := hide (sameInts_any (ints_keep (Nat.le_refl _) o3 HR2.out) (ints_keep (Nat.le_refl _) o3 HS2.out))
            clear o1 o2 o3 o4 hb1 C1 ca0 cb0 ca1 cb1 ca2 cb2 ca3 cb3 ca4 cb4
            go_wp2_with fail
            refine C2.out.mono ?_
            rintro e w7 ⟨rfl, hb2⟩
            have G7 := hide (G6.out.trans (hb2.mono G6.out.size))
            obtain ⟨o1, o2, o3, o4⟩ := KF.out w7 G7.out
            have exa0 : w7.cell? ⟨wr.heap.size, 0, none⟩ = some (.int .i64 x.pa) := cell_of o1 rfl
            have exb0 : w7.cell? ⟨wr.heap.size + 1, 0, none⟩ = some (.int .i64 x.pa) := cell_of o2 rfl
            have exa1 : w7.cell? ⟨wr.heap.size, 1, none⟩ = some (.slice f1 x.lo.length g1) := cell_of o1 rfl
            have exb1 : w7.cell? ⟨wr.heap.size + 1, 1, none⟩ = some (.slice h1 x.lo.length i1) := cell_of o2 rfl
            have exa2 : w7.cell? ⟨wr.heap.size, 2, none⟩ = some (.slice f2 x.re.length g2) := cell_of o1 rfl
            have exb2 : w7.cell? ⟨wr.heap.size + 1, 2, none⟩ = some (.slice h2 x.re.length i2) := cell_of o2 rfl
            have exa3 : w7.cell? ⟨wr.heap.size, 3, none⟩ = some (.slice f3 x.ar.length g3) := cell_of o1 rfl
            have exb3 : w7.cell? ⟨wr.heap.size + 1, 3, none⟩ = some (.slice h3 x.ar.length i3) := cell_of o2 rfl
            have exa4 : w7.cell? ⟨wr.heap.size, 4, none⟩ = some (.slice f4 x.co.length g4) := cell_of o1 rfl
            have exb4 : w7.cell? ⟨wr.heap.size + 1, 4, none⟩ = some (.slice h4 x.co.length i4) := cell_of o2 rfl
            have C3 := hide (sameInts_any (ints_keep (Nat.le_refl _) o3 HR3.out) (ints_keep (Nat.le_refl _) o3 HS3.out))
            clear o1 o2 o3 o4 hb2 C2 dxa0 dxb0 dxa1 dxb1 dxa2 dxb2 dxa3 dxb3 dxa4 dxb4
            go_wp2_with fail
            refine C3.out.mono ?_
            rintro e w8 ⟨rfl, hb3⟩
            have G8 := hide (G7.out.trans (hb3.mono G7.out.size))
            obtain ⟨o1, o2, o3, o4⟩ := KF.out w8 G8.out
            have fxa0 : w8.cell? ⟨wr.heap.size, 0, none⟩ = some (.int .i64 x.pa) := cell_of o1 rfl
            have fxb0 : w8.cell? ⟨wr.heap.size + 1, 0, none⟩ = some (.int .i64 x.pa) := cell_of o2 rfl
            have fxa1 : w8.cell? ⟨wr.heap.size, 1, none⟩ = some (.slice f1 x.lo.length g1) := cell_of o1 rfl
            have fxb1 : w8.cell? ⟨wr.heap.size + 1, 1, none⟩ = some (.slice h1 x.lo.length i1) := cell_of o2 rfl
            have fxa2 : w8.cell? ⟨wr.heap.size, 2, none⟩ = some (.slice f2 x.re.length g2) := cell_of o1 rfl
            have fxb2 : w8.cell? ⟨wr.heap.size + 1, 2, none⟩ = some (.slice h2 x.re.length i2) := cell_of o2 rfl
            have fxa3 : w8.cell? ⟨wr.heap.size, 3, none⟩ = some (.slice f3 x.ar.length g3) := cell_of o1 rfl
            have fxb3 : w8.cell? ⟨wr.heap.size + 1, 3, none⟩ = some (.slice h3 x.ar.length i3) := cell_of o2 rfl
            have fxa4 : w8.cell? ⟨wr.heap.size, 4, none⟩ = some (.slice f4 x.co.length g4) := cell_of o1 rfl
            have fxb4 : w8.cell? ⟨wr.heap.size + 1, 4, none⟩ = some (.slice h4 x.co.length i4) := cell_of o2 rfl
            clear o1 o2 o3 o4 hb3 C3 exa0 exb0 exa1 exb1 exa2 exb2 exa3 exb3 exa4 exb4
            have HCo := hide (show x.co.length ≤ 9223372036854775807 by obtain ⟨_, _, _, h, _⟩ := HR4.out; exact h)
            go_wp2
            go_loopw [9] (fun a wr => LpR W5 x.co.length a wr) (fun a _ => x.co.length - (intOf a).toNat)
            case atStart => exact ⟨0, rfl, Nat.zero_le _, G8.out⟩
            case round =>
              obtain ⟨k, rfl, hk, hb⟩ := hrel
              have HB9 := hide hb
              obtain ⟨o1, o2, o3, o4⟩ := KF.out _ hb
              have HO4 := hide o4
              clear fxa0 fxb0 fxa1 fxb1 fxa2 fxb2 fxa3 fxb3 fxa4 fxb4
              have p0 := cell_of (o := 4) o1 rfl
              have p1 := cell_of (o := 4) o2 rfl
              by_cases hkl : k < x.co.length
              · obtain ⟨y, hy⟩ : ∃ y, x.co[k]? = some y := ⟨x.co[k], by simp [hkl]⟩
                obtain ⟨gg, oo, es, hf4, _, hes, rfl, _⟩ := (ins_keep (Nat.le_refl _) o3 HR4.out).get hy
                obtain ⟨gh, oh, fs, hh4, _, hfs, rfl, _⟩ := (ins_keep (Nat.le_refl _) o3 HS4.out).get hy
                subst hf4
                subst hh4
                have i0 := hes 0 (.int .i64 y.o) rfl
                have k0 := hfs 0 (.int .i64 y.o) rfl
                have z0 : (y.o == y.o) = true := by simp
                have i1 := hes 1 (.int .i64 y.a) rfl
                have k1 := hfs 1 (.int .i64 y.a) rfl
                have z1 : (y.a == y.a) = true := by simp
                have i2 := hes 2 (.int .i64 y.b) rfl
                have k2 := hfs 2 (.int .i64 y.b) rfl
                have z2 : (y.b == y.b) = true := by simp
                rw [Nat.add_zero] at i0 k0
                have l2 : decide (k < x.co.length) = true := by simpa using hkl
                clear hes hfs hy o1 o2 o3 o4 hb
                go_wp2_with fail
                go_quiet (fail)
                go_wp2
                go_roundw
                case rel => exact ⟨k + 1, by first | exact num_next hkl HCo.out | go_num, hkl, below_drewN HB9.out _⟩
                case measure => first | exact meas_int hkl HCo.out | (rw [intOf_int, intOf_int]; omega)
              · obtain rfl : k = x.co.length := by omega
                have l2 : decide (x.co.length < x.co.length) = false := by simp
                clear o1 o2 o3 o4 hb
                go_wp2
                go_roundw
                case rel => exact ⟨j + 1, by first | exact num_next hlt HL2.out | go_num, hlt, HO4.out⟩
                case measure => first | exact meas_int hlt HL2.out | (rw [intOf_int, intOf_int]; omega)
          · obtain ⟨W5, hW5⟩ : ∃ W5, ((wr.alloc (.cells #[.int .i64 x.pa, .slice h1 x.lo.length i1, .slice h2 x.re.length i2, .slice h3 x.ar.length i3, .slice h4 x.co.length i4] 58)).alloc (.cells #[.int .i64 x.pa, .slice f1 x.lo.length g1, .slice f2 x.re.length g2, .slice f3 x.ar.length g3, .slice f4 x.co.length g4] 58)).drew = W5 := ⟨_, rfl⟩
            have hA5 : W5.heap[wr.heap.size + 1]? = some (.cells #[.int .i64 x.pa, .slice f1 x.lo.length g1, .slice f2 x.re.length g2, .slice f3 x.ar.length g3, .slice f4 x.co.length g4] 58 (0, 0)) := by rw [← hW5]; exact heap_new _ _ (by simp)
            have hB5 : W5.heap[wr.heap.size]? = some (.cells #[.int .i64 x.pa, .slice h1 x.lo.length i1, .slice h2 x.re.length i2, .slice h3 x.ar.length i3, .slice h4 x.co.length i4] 58 (0, 0)) := by rw [← hW5]; exact (Below.heap_alloc _ _ _ (by simp)).trans (heap_new _ _ rfl)
            have hBW : Below wr.heap.size wr W5 := by rw [← hW5]; exact below_drew (((Below.refl _ _).alloc (Nat.le_refl _) _).alloc (by simp) _)
            have KF := hide (show ∀ W, Below W5.heap.size W5 W → W.heap[wr.heap.size + 1]? = some (.cells #[.int .i64 x.pa, .slice f1 x.lo.length g1, .slice f2 x.re.length g2, .slice f3 x.ar.length g3, .slice f4 x.co.length g4] 58 (0, 0)) ∧ W.heap[wr.heap.size]? = some (.cells #[.int .i64 x.pa, .slice h1 x.lo.length i1, .slice h2 x.re.length i2, .slice h3 x.ar.length i3, .slice h4 x.co.length i4] 58 (0, 0)) ∧ (∀ j, j < B → W.heap[j]? = wr.heap[j]?) ∧ Below W2.heap.size W2 W from fun W h => ⟨(h.block _ (lt_of_block hA5)).trans hA5, (h.block _ (lt_of_block hB5)).trans hB5, fun j hj => (h.block j (by have := hBW.size; have := HBr.out; omega)).trans (hBW.block j (by have := HBr.out; omega)), HBB.out.trans ((hBW.trans (h.mono hBW.size)).mono HBB.out.size)⟩)
            rw [hW5]
            clear hA5 hB5 hBW hW5
            obtain ⟨o1, o2, o3, o4⟩ := KF.out W5 (Below.refl _ _)
            have ca0 : W5.cell? ⟨wr.heap.size + 1, 0, none⟩ = some (.int .i64 x.pa) := cell_of o1 rfl
            have cb0 : W5.cell? ⟨wr.heap.size, 0, none⟩ = some (.int .i64 x.pa) := cell_of o2 rfl
            have ca1 : W5.cell? ⟨wr.heap.size + 1, 1, none⟩ = some (.slice f1 x.lo.length g1) := cell_of o1 rfl
            have cb1 : W5.cell? ⟨wr.heap.size, 1, none⟩ = some (.slice h1 x.lo.length i1) := cell_of o2 rfl
            have ca2 : W5.cell? ⟨wr.heap.size + 1, 2, none⟩ = some (.slice f2 x.re.length g2) := cell_of o1 rfl
            have cb2 : W5.cell? ⟨wr.heap.size, 2, none⟩ = some (.slice h2 x.re.length i2) := cell_of o2 rfl
            have ca3 : W5.cell? ⟨wr.heap.size + 1, 3, none⟩ = some (.slice f3 x.ar.length g3) := cell_of o1 rfl
            have cb3 : W5.cell? ⟨wr.heap.size, 3, none⟩ = some (.slice h3 x.ar.length i3) := cell_of o2 rfl
            have ca4 : W5.cell? ⟨wr.heap.size + 1, 4, none⟩ = some (.slice f4 x.co.length g4) := cell_of o1 rfl
            have cb4 : W5.cell? ⟨wr.heap.size, 4, none⟩ = some (.slice h4 x.co.length i4) := cell_of o2 rfl
            have C1 := hide (sameInts_any (ints_keep (Nat.le_refl _) o3 HR1.out) (ints_keep (Nat.le_refl _) o3 HS1.out))
            have G5 := hide (Below.refl W5.heap.size W5)
            clear o1 o2 o3 o4 q0 q1 t0 t1 t2 t3 t4 u0 u1 u2 u3 u4
            have y0 : (x.pa == x.pa) = true := by simp
            have y4 : ((x.co.length : Int) == (x.co.length : Int)) = true := by simp
            go_wp2_with fail
            refine C1.out.mono ?_
            rintro e w6 ⟨rfl, hb1⟩
            have G6 := hide (G5.out.trans (hb1.mono G5.out.size))
            obtain ⟨o1, o2, o3, o4⟩ := KF.out w6 G6.out
            have dxa0 : w6.cell? ⟨wr.heap.size + 1, 0, none⟩ = some (.int .i64 x.pa) := cell_of o1 rfl
            have dxb0 : w6.cell? ⟨wr.heap.size, 0, none⟩ = some (.int .i64 x.pa) := cell_of o2 rfl
            have dxa1 : w6.cell? ⟨wr.heap.size + 1, 1, none⟩ = some (.slice f1 x.lo.length g1) := cell_of o1 rfl
            have dxb1 : w6.cell? ⟨wr.heap.size, 1, none⟩ = some (.slice h1 x.lo.length i1) := cell_of o2 rfl
            have dxa2 : w6.cell? ⟨wr.heap.size + 1, 2, none⟩ = some (.slice f2 x.re.length g2) := cell_of o1 rfl
            have dxb2 : w6.cell? ⟨wr.heap.size, 2, none⟩ = some (.slice h2 x.re.length i2) := cell_of o2 rfl
            have dxa3 : w6.cell? ⟨wr.heap.size + 1, 3, none⟩ = some (.slice f3 x.ar.length g3) := cell_of o1 rfl
            have dxb3 : w6.cell? ⟨wr.heap.size, 3, none⟩ = some (.slice h3 x.ar.length i3) := cell_of o2 rfl
            have dxa4 : w6.cell? ⟨wr.heap.size + 1, 4, none⟩ = some (.slice f4 x.co.length g4) := cell_of o1 rfl
            have dxb4 : w6.cell? ⟨wr.heap.size, 4, none⟩ = some (.slice h4 x.co.length i4) := cell_of o2 rfl
            have C2 := hide (sameInts_any (ints_keep (Nat.le_refl _) o3 HR2.out) (ints_keep (Nat.le_refl _) o3 HS2.out))
            clear o1 o2 o3 o4 hb1 C1 ca0 cb0 ca1 cb1 ca2 cb2 ca3 cb3 ca4 cb4
            go_wp2_with fail
            refine C2.out.mono ?_
            rintro e w7 ⟨rfl, hb2⟩
            have G7 := hide (G6.out.trans (hb2.mono G6.out.size))
            obtain ⟨o1, o2, o3, o4⟩ := KF.out w7 G7.out
            have exa0 : w7.cell? ⟨wr.heap.size + 1, 0, none⟩ = some (.int .i64 x.pa) := cell_of o1 rfl
            have exb0 : w7.cell? ⟨wr.heap.size, 0, none⟩ = some (.int .i64 x.pa) := cell_of o2 rfl
            have exa1 : w7.cell? ⟨wr.heap.size + 1, 1, none⟩ = some (.slice f1 x.lo.length g1) := cell_of o1 rfl
            have exb1 : w7.cell? ⟨wr.heap.size, 1, none⟩ = some (.slice h1 x.lo.length i1) := cell_of o2 rfl
            have exa2 : w7.cell? ⟨wr.heap.size + 1, 2, none⟩ = some (.slice f2 x.re.length g2) := cell_of o1 rfl
            have exb2 : w7.cell? ⟨wr.heap.size, 2, none⟩ = some (.slice h2 x.re.length i2) := cell_of o2 rfl
            have exa3 : w7.cell? ⟨wr.heap.size + 1, 3, none⟩ = some (.slice f3 x.ar.length g3) := cell_of o1 rfl
            have exb3 : w7.cell? ⟨wr.heap.size, 3, none⟩ = some (.slice h3 x.ar.length i3) := cell_of o2 rfl
            have exa4 : w7.cell? ⟨wr.heap.size + 1, 4, none⟩ = some (.slice f4 x.co.length g4) := cell_of o1 rfl
            have exb4 : w7.cell? ⟨wr.heap.size, 4, none⟩ = some (.slice h4 x.co.length i4) := cell_of o2 rfl
            have C3 := hide (sameInts_any (ints_keep (Nat.le_refl _) o3 HR3.out) (ints_keep (Nat.le_refl _) o3 HS3.out))
            clear o1 o2 o3 o4 hb2 C2 dxa0 dxb0 dxa1 dxb1 dxa2 dxb2 dxa3 dxb3 dxa4 dxb4
            go_wp2_with fail
            refine C3.out.mono ?_
            rintro e w8 ⟨rfl, hb3⟩
            have G8 := hide (G7.out.trans (hb3.mono G7.out.size))
            obtain ⟨o1, o2, o3, o4⟩ := KF.out w8 G8.out
            have fxa0 : w8.cell? ⟨wr.heap.size + 1, 0, none⟩ = some (.int .i64 x.pa) := cell_of o1 rfl
            have fxb0 : w8.cell? ⟨wr.heap.size, 0, none⟩ = some (.int .i64 x.pa) := cell_of o2 rfl
            have fxa1 : w8.cell? ⟨wr.heap.size + 1, 1, none⟩ = some (.slice f1 x.lo.length g1) := cell_of o1 rfl
            have fxb1 : w8.cell? ⟨wr.heap.size, 1, none⟩ = some (.slice h1 x.lo.length i1) := cell_of o2 rfl
            have fxa2 : w8.cell? ⟨wr.heap.size + 1, 2, none⟩ = some (.slice f2 x.re.length g2) := cell_of o1 rfl
            have fxb2 : w8.cell? ⟨wr.heap.size, 2, none⟩ = some (.slice h2 x.re.length i2) := cell_of o2 rfl
            have fxa3 : w8.cell? ⟨wr.heap.size + 1, 3, none⟩ = some (.slice f3 x.ar.length g3) := cell_of o1 rfl
            have fxb3 : w8.cell? ⟨wr.heap.size, 3, none⟩ = some (.slice h3 x.ar.length i3) := cell_of o2 rfl
            have fxa4 : w8.cell? ⟨wr.heap.size + 1, 4, none⟩ = some (.slice f4 x.co.length g4) := cell_of o1 rfl
            have fxb4 : w8.cell? ⟨wr.heap.size, 4, none⟩ = some (.slice h4 x.co.length i4) := cell_of o2 rfl
            clear o1 o2 o3 o4 hb3 C3 exa0 exb0 exa1 exb1 exa2 exb2 exa3 exb3 exa4 exb4
            have HCo := hide (show x.co.length ≤ 9223372036854775807 by obtain ⟨_, _, _, h, _⟩ := HR4.out; exact h)
            go_wp2
            go_loopw [9] (fun a wr => LpR W5 x.co.length a wr) (fun a _ => x.co.length - (intOf a).toNat)
            case atStart => exact ⟨0, rfl, Nat.zero_le _, G8.out⟩
            case round =>
              obtain ⟨k, rfl, hk, hb⟩ := hrel
              have HB9 := hide hb
              obtain ⟨o1, o2, o3, o4⟩ := KF.out _ hb
              have HO4 := hide o4
              clear fxa0 fxb0 fxa1 fxb1 fxa2 fxb2 fxa3 fxb3 fxa4 fxb4
              have p0 := cell_of (o := 4) o1 rfl
              have p1 := cell_of (o := 4) o2 rfl
              by_cases hkl : k < x.co.length
              · obtain ⟨y, hy⟩ : ∃ y, x.co[k]? = some y := ⟨x.co[k], by simp [hkl]⟩
                obtain ⟨gg, oo, es, hf4, _, hes, rfl, _⟩ := (ins_keep (Nat.le_refl _) o3 HR4.out).get hy
                obtain ⟨gh, oh, fs, hh4, _, hfs, rfl, _⟩ := (ins_keep (Nat.le_refl _) o3 HS4.out).get hy
                subst hf4
                subst hh4
                have i0 := hes 0 (.int .i64 y.o) rfl
                have k0 := hfs 0 (.int .i64 y.o) rfl
                have z0 : (y.o == y.o) = true := by simp
                have i1 := hes 1 (.int .i64 y.a) rfl
                have k1 := hfs 1 (.int .i64 y.a) rfl
                have z1 : (y.a == y.a) = true := by simp
                have i2 := hes 2 (.int .i64 y.b) rfl
                have k2 := hfs 2 (.int .i64 y.b) rfl
                have z2 : (y.b == y.b) = true := by simp
                rw [Nat.add_zero] at i0 k0
                have l2 : decide (k < x.co.length) = true := by simpa using hkl
                clear hes hfs hy o1 o2 o3 o4 hb
                go_wp2_with fail
                go_quiet (fail)
                go_wp2
                go_roundw
                case rel => exact ⟨k + 1, by first | exact num_next hkl HCo.out | go_num, hkl, below_drewN HB9.out _⟩
                case measure => first | exact meas_int hkl HCo.out | (rw [intOf_int, intOf_int]; omega)
              · obtain rfl : k = x.co.length := by omega
                have l2 : decide (x.co.length < x.co.length) = false := by simp
                clear o1 o2 o3 o4 hb
                go_wp2
                go_roundw
                case rel => exact ⟨j + 1, by first | exact num_next hlt HL2.out | go_num, hlt, HO4.out⟩
                case measure => first | exact meas_int hlt HL2.out | (rw [intOf_int, intOf_int]; omega)
        · obtain rfl : j = N2 := by omega
          have l1 : decide (j < j) = false := by simp
          clear hb R S k1 k2 hbw
          generalize wr = W3 at *
          go_wp2
          have HBW4 := hide HBB.out
          clear HBB
          go_loopw [10] (fun a wr => LpR W2 N3 a wr) (fun a _ => N3 - (intOf a).toNat)
          case atStart => exact ⟨0, rfl, Nat.zero_le _, HBW4.out⟩
          case round =>
            rename_i jj _ _
            obtain ⟨i, rfl, hi, hb⟩ := hrel
            have HBB := hide hb
            obtain ⟨R, S, k1, k2, hbw⟩ := KP.out wr hb
            have q0 : wr.cell? ⟨w.heap.size, 2, none⟩ = some (.slice a3 N3 n3) := cell_of k1 rfl
            have q1 : wr.cell? ⟨W1.heap.size, 2, none⟩ = some (.slice b3 N3 m3) := cell_of k2 rfl
            by_cases hil : i < N3
            · obtain ⟨x, hx⟩ : ∃ x, p.ta[i]? = some x := ⟨p.ta[i]'(by rw [HN3.out]; exact hil), by simp⟩
              obtain ⟨g, o, cs, rfl, hgl, hcs, y1, rfl, r1⟩ := R.ta.get hx
              obtain ⟨g2, o2, ds, rfl, hgl2, hds, y2, rfl, r2⟩ := S.ta.get hx
              have t1 : wr.cell? ⟨g, o + i, none⟩ = some y1 := by have := hcs 0 _ rfl; simpa using this
              have t2 : wr.cell? ⟨g2, o2 + i, none⟩ = some y2 := by have := hds 0 _ rfl; simpa using this
              have C1 := hide (sameInts_any (w := wr.drew) (ints_keep (Nat.le_refl _) (fun _ _ => rfl) r1) (ints_keep (Nat.le_refl _) (fun _ _ => rfl) r2))
              obtain ⟨f1, g1, hy1, _⟩ := r1
              obtain ⟨f2, g2', hy2, _⟩ := r2
              subst hy1 hy2
              have l3 : decide (i < N3) = true := by simpa using hil
              clear hcs hds hx hb R S k1 k2 hbw hgl hgl2
              go_wp2_with fail
              go_region_held3 (fun W => W.cell? ⟨w.heap.size, 2, none⟩ = some (.slice (some ⟨g, o, none⟩) N3 n3) ∧ W.cell? ⟨W1.heap.size, 2, none⟩ = some (.slice (some ⟨g2, o2, none⟩) N3 m3) ∧ W.cell? ⟨g, o + i, none⟩ = some (.slice f1 x.length g1) ∧ W.cell? ⟨g2, o2 + i, none⟩ = some (.slice f2 x.length g2')) (first | exact ⟨q0, q1, t1, t2⟩ | exact KK | go_keep) ((go_simp; go_at_call 32; refine C1.out.mono ?_; rintro e w3 ⟨rfl, hb3⟩; have KK : w3.cell? ⟨w.heap.size, 2, none⟩ = some (.slice (some ⟨g, o, none⟩) N3 n3) ∧ w3.cell? ⟨W1.heap.size, 2, none⟩ = some (.slice (some ⟨g2, o2, none⟩) N3 m3) ∧ w3.cell? ⟨g, o + i, none⟩ = some (.slice f1 x.length g1) ∧ w3.cell? ⟨g2, o2 + i, none⟩ = some (.slice f2 x.length g2') := ⟨(hb3.cell (World.block_lt_of_cell? wr _ q0)).trans q0, (hb3.cell (World.block_lt_of_cell? wr _ q1)).trans q1, (hb3.cell (World.block_lt_of_cell? wr _ t1)).trans t1, (hb3.cell (World.block_lt_of_cell? wr _ t2)).trans t2⟩))
              have HB3 := hide (LpR.next HBB.out (below_of_dr hb3) hil)
              clear hb3 KK t1 t2 q0 q1 C1
              go_wp2
              go_roundw
              case rel => exact ⟨i + 1, by first | exact num_next hil HL3.out | go_num, HB3.out.2, HB3.out.1⟩
              case measure => first | exact meas_int hil HL3.out | (rw [intOf_int, intOf_int]; omega)
            · obtain rfl : i = N3 := by omega
              have l3 : decide (i < i) = false := by simp
              clear hb R S k1 k2 hbw
              generalize wr = W4 at *
              go_wp2
              have HBW5 := hide HBB.out
              clear HBB
              go_loopw [11] (fun a wr => LpR W2 N4 a wr) (fun a _ => N4 - (intOf a).toNat)
              case atStart => exact ⟨0, rfl, Nat.zero_le _, HBW5.out⟩
              case round =>
                obtain ⟨h, rfl, hh, hb⟩ := hrel
                have HBB := hide hb
                obtain ⟨R, S, k1, k2, hbw⟩ := KP.out wr hb
                have HBF := hide hbw
                have q0 : wr.cell? ⟨w.heap.size, 3, none⟩ = some (.slice a4 N4 n4) := cell_of k1 rfl
                have q1 : wr.cell? ⟨W1.heap.size, 3, none⟩ = some (.slice b4 N4 m4) := cell_of k2 rfl
                by_cases hhl : h < N4
                · obtain ⟨x, hx⟩ : ∃ x, p.st[h]? = some x := ⟨p.st[h]'(by rw [HN4.out]; exact hhl), by simp⟩
                  obtain ⟨g, o, cs, rfl, hgl, hcs, rfl⟩ := R.st.get hx
                  obtain ⟨g2, o2, ds, rfl, hgl2, hds, rfl⟩ := S.st.get hx
                  have t1 : wr.cell? ⟨g, o + h, none⟩ = some (.string ⟨x.toArray⟩) := by have := hcs 0 _ rfl; simpa using this
                  have t2 : wr.cell? ⟨g2, o2 + h, none⟩ = some (.string ⟨x.toArray⟩) := by have := hds 0 _ rfl; simpa using this
                  have l4 : decide (h < N4) = true := by simpa using hhl
                  have z4 : (x == x) = true := by simp
                  clear hcs hds hx hb R S k1 k2 hbw hgl hgl2
                  go_wp2_with fail
                  go_quiet (fail)
                  go_wp2
                  go_roundw
                  case rel => exact ⟨h + 1, by first | exact num_next hhl HL4.out | go_num, hhl, below_drewN HBB.out _⟩
                  case measure => first | exact meas_int hhl HL4.out | (rw [intOf_int, intOf_int]; omega)
                · obtain rfl : h = N4 := by omega
                  have l4 : decide (h < h) = false := by simp
                  clear hb R S k1 k2 hbw
                  go_wp2
                  go_ret
                  exact ⟨rfl, HBF.out⟩
end
end Go.Proofs.Ytnkdlbiicfnmcaa
