/- The document's Reached: the walk. -/
import Derived.Test.YtimpmgbahgganaaRhMJp
import Derived.Handy
import Derived.Deep.LoopGhost
import Derived.Deep.CutRange
import Derived.Deep.RegionHeld3
namespace Go.Proofs.Ytimpmgbahgganaa
open Go.RowKit Go.Maps
section
variable {w : World} {B : Nat} {q : Rh} {h : Hs} {vt vp vs vo : Value}
theorem wrapI {x : Int} (h1 : -9223372036854775808 ≤ x) (h2 : x ≤ 9223372036854775807) : IntKind.i64.wrap x = x := by
  go_arith
theorem bdr {B : Nat} {a w : World} (h : Below B a w) : Below B a w.drew := ⟨h.os, h.tape, h.output, h.size, h.block⟩
theorem Qs.ne_block {v : Value} {xs : List Int} {b t : Nat} {c : Array Value} {f : Nat × Nat} (Q : Qs w B v xs) (hb : w.heap[b]? = some (.cells c t f)) (ht : t ≠ 3) : v.ownBlock ≠ some b := by
  intro e
  rcases Q.form with ⟨rfl, _⟩ | ⟨g, off, cap, cur, rfl, _, hg, _⟩
  · cases e
  · simp [Value.ownBlock] at e
    subst e
    rw [hg] at hb
    cases hb
    exact ht rfl
/-- Between two words of an object that is gone through. -/
structure MidS (W1 wr : World) (q : Rh) (o : Ro) (sb ob : Nat) (v : Value) (st : List Int) (S : List Bool) : Prop where
  qs : Qs wr (sb + 1) v st
  sty : wr.heap[sb]? = some (.cells (bools S).toArray 4 (0, 0))
  bo : Bo wr ob o
  bel : Below sb W1 wr
theorem MidS.under {W1 wr w1 : World} {o : Ro} {sb ob : Nat} {v : Value} {st : List Int} {S : List Bool} (M : MidS W1 wr q o sb ob v st S) (hs : sb ≤ wr.heap.size) (hb : Below wr.heap.size wr w1) : MidS W1 w1 q o sb ob v st S :=
  ⟨M.qs.below hb, (hb.block _ (lt_of_block M.sty)).trans M.sty, (hb.block _ (lt_of_block M.bo)).trans M.bo, M.bel.trans (hb.mono hs)⟩
theorem MidS.put {W1 wr : World} {o : Ro} {sb ob : Nat} {v : Value} {st : List Int} {S : List Bool} (M : MidS W1 wr q o sb ob v st S) (x : Int) (hl : st.length < 1000000000) :
    ∃ v' w', (Builtin.append_ #[31, 31] 31 #[v, .slice (some ⟨wr.heap.size, 0, none⟩) 1 1]).run Try.prog (wr.alloc (.cells #[.int .i64 x] 3)) = .ok v' w' ∧ MidS W1 w' q o sb ob v' (st ++ [x]) S ∧ wr.heap.size ≤ w'.heap.size := by
  have hb1 : Below wr.heap.size wr (wr.alloc (.cells #[.int .i64 x] 3)) := (Below.refl _ _).alloc (Nat.le_refl _) _
  have hsb := lt_of_block M.sty
  have M1 := M.under (by omega) hb1
  obtain ⟨v', w', hr, hq, hgr, _⟩ := M1.qs.app1 (by have := hb1.size; omega) (heap_new wr (.cells #[.int .i64 x] 3) rfl) hl
  have n1 := M1.qs.ne_block M1.sty (by decide)
  have n2 := M1.qs.ne_block M1.bo (by decide)
  refine ⟨v', w', hr, ⟨hq, (hgr.block _ (lt_of_block M1.sty) (fun e => n1 e.symm)).trans M1.sty, (hgr.block _ (lt_of_block M1.bo) (fun e => n2 e.symm)).trans M1.bo, ?_⟩, Nat.le_trans hb1.size hgr.size⟩
  have hb := M1.bel
  exact ⟨hgr.os.trans hb.os, hgr.tape.trans hb.tape, hgr.output.trans hb.output, Nat.le_trans hb.size hgr.size, fun j hj => (hgr.block j (by have := hb1.size; omega) (fun e => by have := (M1.qs.lt j e.symm).1; omega)).trans (hb.block j hj)⟩
/-- A word of the store. -/
theorem RH.store (R : RH B w q vt vp vs vo) (S : SimH h q) {x : Nat} (h1 : 1 ≤ x) (h2 : x ≤ h.s.ws.length) : ∃ g cap, vs = .slice (some ⟨g, 0, none⟩) q.r.st.length cap ∧ g < w.heap.size ∧ w.cell? ⟨g, x, none⟩ = some (.int .i64 (wd h.s x)) ∧ x < q.r.st.length := by
  obtain ⟨v, hv⟩ : ∃ v, h.s.ws[x - 1]? = some v := ⟨h.s.ws[x - 1]'(by omega), by simp⟩
  have hs := S.sim.st (x - 1) v hv
  rw [show x - 1 + 1 = x by omega] at hs
  have hw : wd h.s x = v := by unfold wd; rw [hv]; rfl
  obtain ⟨g, cap, e1, e2, _, _⟩ := row_cell R.rl.sto (j := x) (u := .int .i64 v) (by simp [ints, hs])
  exact ⟨g, cap, e1, World.block_lt_of_cell? w ⟨g, x, none⟩ e2, by rw [hw]; exact e2, get_lt hs⟩
def ReO (q : Rh) (h : Hs) (rs : List Int) (w : World) (e : Ending) (w' : World) : Prop := ∃ (sb : Nat) (F : Nat → Bool), e = .returned (.slice (some ⟨sb, 0, none⟩) q.ob.length q.ob.length) ∧ w'.heap[sb]? = some (.cells (bools (stay q F)).toArray 4 (0, 0)) ∧ w.heap.size ≤ sb ∧ (∀ a, F a = true ↔ Reach h rs a) ∧ Below w.heap.size w w'
set_option maxRecDepth 100000 in
set_option maxHeartbeats 4000000 in
theorem rreached_any (R : RH B w q vt vp vs vo) (S : SimH h q) (I : HInv h) {v : Value} {rs : List Int} (Rr : IntsAt w v rs) (hl : rs.length ≤ 2000000) :
    Calls Try.prog 41 #[rhv q vt vp vs vo, v] w (ReO q h rs w) := by
  obtain ⟨aot, cpt, rfl⟩ := R.tform
  obtain ⟨aop, cpp, rfl⟩ := R.rl.pform
  obtain ⟨aos, cps, rfl⟩ := R.rl.sform
  obtain ⟨aoo, cpo, rfl⟩ := R.oform
  obtain ⟨aov, cpv, hv⟩ : ∃ ao cap, v = .slice ao rs.length cap := by obtain ⟨ao, cap, h1, _⟩ := Rr; exact ⟨ao, cap, h1⟩
  obtain ⟨W1, hW1⟩ : ∃ W1, w.alloc (.cells #[.slice aot q.ty.length cpt, .int .i64 q.r.wd, .int .i64 q.r.ln, .slice aop q.r.ps.length cpp, .int .i64 q.r.fd, .slice aos q.r.st.length cps, .slice aoo q.ob.length cpo] 36) = W1 := ⟨_, rfl⟩
  have b1 : Below w.heap.size w W1 := by rw [← hW1]; exact (Below.refl _ _).alloc (Nat.le_refl _) _
  have z1 : W1.heap.size = w.heap.size + 1 := by rw [← hW1]; simp
  have e1 : Bx W1 w.heap.size q (.slice aot q.ty.length cpt) (.slice aop q.r.ps.length cpp) (.slice aos q.r.st.length cps) (.slice aoo q.ob.length cpo) := by rw [← hW1]; exact bx_new _ _ _ _ _ _
  have hbo := R.bo
  obtain ⟨i0, hi, hz0, hz1, hz2⟩ := info_parts Try.info4
  have hmk := run_make (P := Try.prog) W1 65 4 i0 (.bool false) Try.underlying65 hi hz0 .i64 .i64 q.ob.length q.ob.length (by omega) (Int.le_refl _) (by rw [hz2]; omega) (by omega)
  rw [hz1] at hmk
  simp only [Int.toNat_natCast, Nat.mul_one] at hmk
  rw [show (Value.bool false).cells = #[Value.bool false] from rfl, made_bools] at hmk
  clear hz0 hz1 hz2 hi
  obtain ⟨W2, hW2⟩ : ∃ W2, W1.alloc (.cells (bools (List.replicate q.ob.length false)).toArray 4) = W2 := ⟨_, rfl⟩
  rw [hW2] at hmk
  have b2 : Below W1.heap.size W1 W2 := by rw [← hW2]; exact (Below.refl _ _).alloc (Nat.le_refl _) _
  have z2 : W2.heap.size = W1.heap.size + 1 := by rw [← hW2]; simp
  have e2 : W2.heap[W1.heap.size]? = some (.cells (bools (stay q fun _ => false)).toArray 4 (0, 0)) := by
    rw [← hW2, heap_new _ _ rfl, show stay q (fun _ => false) = List.replicate q.ob.length false from by unfold stay; rw [List.map_const']]
  obtain ⟨W3, hW3⟩ : ∃ W3, W2.alloc (.cells #[] 3) = W3 := ⟨_, rfl⟩
  have b3 : Below W2.heap.size W2 W3 := by rw [← hW3]; exact (Below.refl _ _).alloc (Nat.le_refl _) _
  have e3 : W3.heap[W2.heap.size]? = some (.cells #[] 3 (0, 0)) := by rw [← hW3]; exact heap_new _ _ rfl
  have hb13 : Below W1.heap.size W1 W3 := b2.trans (b3.mono (by omega))
  obtain ⟨v4, w4, hrun, hq4, hb4⟩ := all_app e3 (Rr.below (b1.trans (hb13.mono (by omega)))) hl
  have b4 : Below W1.heap.size W1 w4 := hb13.trans (hb4.mono (by omega))
  have hp := pot_le (fun _ => false) I.inv.row
  have hfit := I.inv.fits
  have hsm := I.inv.small
  have HM := hide (show MidR W1 w4 h q rs W1.heap.size (rs.length + pot (fun _ => false) h.s.ps) v4 rs (fun _ => false) from ⟨by rw [← z2]; exact hq4, (hb4.block _ (by omega)).trans ((b3.block _ (by omega)).trans e2), rinv_new h rs, b4, Nat.le_refl _⟩)
  have HP : Hid (rs.length + pot (fun _ => false) h.s.ps ≤ 2200000) := hide (by omega)
  have HR := hide (show ∀ W : World, Below W1.heap.size W1 W → RH B W q (.slice aot q.ty.length cpt) (.slice aop q.r.ps.length cpp) (.slice aos q.r.st.length cps) (.slice aoo q.ob.length cpo) ∧ Bx W w.heap.size q (.slice aot q.ty.length cpt) (.slice aop q.r.ps.length cpp) (.slice aos q.r.st.length cps) (.slice aoo q.ob.length cpo) ∧ Below w.heap.size w W ∧ w.heap.size < W.heap.size from fun W hb => ⟨R.below (b1.trans (hb.mono (by omega))), (hb.block _ (by omega)).trans e1, b1.trans (hb.mono (by omega)), by have := hb.size; omega⟩)
  have HS := hide S
  have HI := hide I
  have HZ1 := hide z1
  subst hv
  obtain ⟨nob, hnob⟩ : ∃ n, q.ob.length = n := ⟨_, rfl⟩
  have c12 : W1.cell? ⟨w.heap.size, 6, none⟩ = some (.slice aoo q.ob.length cpo) := by
    obtain ⟨_, _, _, _, _, _, h6⟩ := c7_of e1
    exact h6
  have l1 : w.heap.size < W1.heap.size := by omega
  clear R S I Rr b1 z1 b2 z2 e2 b3 e3 hb13 hq4 hb4 b4 hp hfit hsm e1 hnob hW2
  generalize rs.length + pot (fun _ => false) h.s.ps = K0 at HM HP
  go_enter Try.func41, Try.ntmps41
  go_upto_region 2 with (fail)
  clear hW1 c12 l1
  subst hW3
  go_wp2_with (at_builtin; (refine wpList_append_eq rfl _ _ 31 rfl rfl rfl hrun ?_; clear hrun))
  have HC7 := hide (show ∀ W : World, Below W1.heap.size W1 W → C7 W w.heap.size (.slice aot q.ty.length cpt) (.int .i64 q.r.wd) (.int .i64 q.r.ln) (.slice aop q.r.ps.length cpp) (.int .i64 q.r.fd) (.slice aos q.r.st.length cps) (.slice aoo q.ob.length cpo) ∧ w.heap.size < W.heap.size from fun W hb => ⟨c7_of (HR.out W hb).2.1, (HR.out W hb).2.2.2⟩)
  obtain ⟨sb, hsb⟩ : ∃ s, W1.heap.size = s := ⟨_, rfl⟩
  rw [hsb] at HM HR HC7 ⊢
  have HSB := hide hsb
  have HSW := hide (show w.heap.size < sb from by have := HZ1.out; omega)
  clear hsb
  go_loopg [6] K0 (fun K vk wr => ∃ st F, K ≤ K0 ∧ Hid (MidR W1 wr h q rs sb K vk st F))
  case atStart => exact ⟨rs, _, Nat.le_refl _, HM⟩
  case round =>
    clear HM
    obtain ⟨st, F, hgk0, HM⟩ := hrel
    have HGK := hide hgk0
    clear hgk0
    have HBW := hide (show Below sb W1 wr from by have h := HM.out.bel; rw [HSB.out] at h; exact h)
    have HSL := hide (lt_of_block HM.out.sty)
    cases st with
    | nil =>
      obtain ⟨ao, cap, hv⟩ := HM.out.qs.len
      rw [hv]
      go_wp2
      go_ret
      exact ⟨sb, F, rfl, HM.out.sty, Nat.le_of_lt HSW.out, HM.out.inv.done, (HR.out wr HBW.out).2.2.1⟩
    | cons x st =>
      obtain ⟨g, off, cap, hv, cx, hcap, hq1, hq2⟩ := HM.out.qs.pop
      rw [hv]
      rw [HSB.out] at hq1 hq2
      have HQ1 := hide hq1
      have HQ2 := hide hq2
      have hnum := HM.out.num
      have hgk : gk - 1 < gk := by simp at hnum; omega
      have hsl : st.length ≤ 3000000 := by have := HP.out; have := HGK.out; simp at hnum; omega
      have hcap2 : (st.length : Int) + 1 ≤ (cap : Int) := by omega
      have hgw : g < wr.heap.size := World.block_lt_of_cell? wr ⟨g, off, none⟩ cx
      have HFI := hide (show ∀ W : World, Below wr.heap.size wr W → Calls Try.prog 32 #[rhv q (.slice aot q.ty.length cpt) (.slice aop q.r.ps.length cpp) (.slice aos q.r.st.length cps) (.slice aoo q.ob.length cpo), .int .i64 x] W fun e w' => ((baseA h x = none ∧ e = .returned (.int .i64 (-1))) ∨ ∃ (j : Nat) (o : Ro), q.ob[j]? = some o ∧ baseA h x = some o.a ∧ h.ob o.a = some (o.t, o.n) ∧ e = .returned (.int .i64 j)) ∧ Below W.heap.size W w' from fun W hb => rfind_sim (HR.out W (HBW.out.trans (hb.mono (Nat.le_of_lt HSL.out)))).1 HS.out HI.out x)
      clear hq1 hq2 hnum hcap
      go_upto_if 23 with (fail)
      go_cut [7] from 20 to 28 (fun v wc => Hid (Below wr.heap.size wr wc ∧ ((v = .int .i64 (-1) ∧ baseA h x = none) ∨ ∃ (j : Nat) (o : Ro), v = .int .i64 (j : Int) ∧ q.ob[j]? = some o ∧ baseA h x = some o.a ∧ h.ob o.a = some (o.t, o.n))))
      case first =>
        by_cases hx0 : x = 0
        · have hb0 := hide (show baseA h x = none from by rw [hx0]; exact HI.out.base0 (Int.le_refl _))
          have zz : (x != 0) = false := by simp [hx0]
          clear hx0
          go_wp2_with fail
          go_meet
          exact hide ⟨Below.refl _ _, .inl ⟨rfl, hb0.out⟩⟩
        · have zz : (x != 0) = true := by simpa using hx0
          have HS6 := hide (show ∀ W : World, Below wr.heap.size wr W → (fun W : World => W.cell? ⟨w.heap.size, 0, none⟩ = some (.slice aot q.ty.length cpt) ∧ W.cell? ⟨w.heap.size, 1, none⟩ = some (.int .i64 q.r.wd) ∧ W.cell? ⟨w.heap.size, 2, none⟩ = some (.int .i64 q.r.ln) ∧ W.cell? ⟨w.heap.size, 3, none⟩ = some (.slice aop q.r.ps.length cpp) ∧ W.cell? ⟨w.heap.size, 4, none⟩ = some (.int .i64 q.r.fd) ∧ W.cell? ⟨w.heap.size, 5, none⟩ = some (.slice aos q.r.st.length cps) ∧ W.cell? ⟨w.heap.size, 6, none⟩ = some (.slice aoo q.ob.length cpo) ∧ W.cell? ⟨g, off, none⟩ = some (.int .i64 x)) W from fun W hb => by
            obtain ⟨⟨k0, k1, k2, k3, k4, k5, k6⟩, _⟩ := HC7.out W (HBW.out.trans (hb.mono (Nat.le_of_lt HSL.out)))
            exact ⟨k0, k1, k2, k3, k4, k5, k6, (hb.cell (p := ⟨g, off, none⟩) hgw).trans cx⟩)
          go_upto_region 6 with (fail)
          refine wp_region_held_drew (S := (fun W : World => W.cell? ⟨w.heap.size, 0, none⟩ = some (.slice aot q.ty.length cpt) ∧ W.cell? ⟨w.heap.size, 1, none⟩ = some (.int .i64 q.r.wd) ∧ W.cell? ⟨w.heap.size, 2, none⟩ = some (.int .i64 q.r.ln) ∧ W.cell? ⟨w.heap.size, 3, none⟩ = some (.slice aop q.r.ps.length cpp) ∧ W.cell? ⟨w.heap.size, 4, none⟩ = some (.int .i64 q.r.fd) ∧ W.cell? ⟨w.heap.size, 5, none⟩ = some (.slice aos q.r.st.length cps) ∧ W.cell? ⟨w.heap.size, 6, none⟩ = some (.slice aoo q.ob.length cpo) ∧ W.cell? ⟨g, off, none⟩ = some (.int .i64 x))) (by kernel_rfl) (HS6.out _ ⟨rfl, rfl, rfl, Nat.le_refl _, fun _ _ => rfl⟩) (fun hHeld1 => ?_)
          refine wpAnyH_take (i := 0) (oi := { dst := some 24, op := Go.Op.load 36 (Go.Operand.tmp 2), type := 36, pos := "ref.go:129", after := #[], guard := none }) (v := ?v2) rfl (by kernel_rfl) (by kernel_rfl) (by kernel_rfl) (fun _ _ _ h => h) (Or.inl ⟨by rfl, ?hy2⟩) (by assumption) ?_
          case hy2 => (intro W hSw; (try dsimp only at hSw); go_simp; try with_reducible rfl)
          try simp only [Act.put, List.setIfInBounds_toArray, List.set_cons_zero, List.set_cons_succ]
          refine wpAnyH_take (i := 1) (oi := { dst := some 25, op := Go.Op.move (Go.Operand.tmp 6), type := 31, pos := "ref.go:129", after := #[], guard := none }) (v := ?v3) rfl (by kernel_rfl) (by kernel_rfl) (by kernel_rfl) (fun _ _ _ h => h) (Or.inl ⟨by rfl, ?hy3⟩) (by assumption) ?_
          case hy3 => (intro W hSw; (try dsimp only at hSw); go_simp; try with_reducible rfl)
          try simp only [Act.put, List.setIfInBounds_toArray, List.set_cons_zero, List.set_cons_succ]
          refine wpAnyH_take (i := 2) (oi := { dst := some 26, op := Go.Op.indexAddr 31 (Go.Operand.tmp 25) (Go.Operand.const (Go.Value.int Go.IntKind.i64 0)), type := 0, pos := "ref.go:129", after := #[{ on := 1, ground := Go.Ground.data }], guard := none }) (v := ?v4) rfl (by kernel_rfl) (by kernel_rfl) (by kernel_rfl) (fun _ _ _ h => h) (Or.inl ⟨by rfl, ?hy4⟩) (by assumption) ?_
          case hy4 => (intro W hSw; (try dsimp only at hSw); go_simp; try with_reducible rfl)
          try simp only [Act.put, List.setIfInBounds_toArray, List.set_cons_zero, List.set_cons_succ]
          refine wpAnyH_take (i := 3) (oi := { dst := some 27, op := Go.Op.load 3 (Go.Operand.tmp 26), type := 3, pos := "ref.go:129", after := #[{ on := 2, ground := Go.Ground.data }], guard := none }) (v := ?v5) rfl (by kernel_rfl) (by kernel_rfl) (by kernel_rfl) (fun _ _ _ h => h) (Or.inl ⟨by rfl, ?hy5⟩) (by assumption) ?_
          case hy5 => (intro W hSw; (try dsimp only at hSw); go_simp; try with_reducible rfl)
          try simp only [Act.put, List.setIfInBounds_toArray, List.set_cons_zero, List.set_cons_succ]
          refine wpAnyH_ready (rs := [4]) (by kernel_rfl) (by simp) ?_
          refine AllReadyH.cons (o := { dst := some 28, op := Go.Op.call { callee := Go.Callee.value (Go.Operand.func 32), args := #[Go.Operand.tmp 24, Go.Operand.tmp 27], argTypes := #[36, 3] }, type := 3, pos := "ref.go:129", after := #[{ on := 0, ground := Go.Ground.data }, { on := 3, ground := Go.Ground.data }], guard := none }) rfl (fun K hK => ?_) AllReadyH.nil
          go_simp
          go_at_call 32
          refine (HFI.out wr.drew ⟨rfl, rfl, rfl, Nat.le_refl _, fun _ _ => rfl⟩).mono ?_
          rintro e w3 ⟨hor, hb3⟩
          have HB3 := hide (show Below wr.heap.size wr w3 from ⟨hb3.os, hb3.tape, hb3.output, hb3.size, hb3.block⟩)
          have HOR := hide hor
          obtain ⟨ev, he⟩ : ∃ i : Int, e = .returned (.int .i64 i) := (by rcases hor with ⟨_, h1⟩ | ⟨j, o, _, _, _, h1⟩ ; exact ⟨_, h1⟩ ; exact ⟨_, h1⟩)
          subst he
          go_wp2_with fail
          refine hK.out _ _ (HS6.out _ HB3.out) (fun hHeld6 => ?_)
          clear hK K
          try simp only [Act.put, List.setIfInBounds_toArray, List.set_cons_zero, List.set_cons_succ]
          refine wpAnyH_take (i := 5) (oi := { dst := some 7, op := Go.Op.assign (Go.Operand.tmp 28), type := 3, pos := "ref.go:129", after := #[{ on := 4, ground := Go.Ground.data }, { on := 4, ground := Go.Ground.chain }, { on := 0, ground := Go.Ground.phase }, { on := 1, ground := Go.Ground.phase }, { on := 2, ground := Go.Ground.phase }, { on := 3, ground := Go.Ground.phase }, { on := 4, ground := Go.Ground.phase }], guard := none }) (v := ?v7) rfl (by kernel_rfl) (by kernel_rfl) (by kernel_rfl) (fun _ _ _ h => h) (Or.inl ⟨by rfl, ?hy7⟩) (by assumption) ?_
          case hy7 => (intro W hSw; (try dsimp only at hSw); go_simp; try with_reducible rfl)
          try simp only [Act.put, List.setIfInBounds_toArray, List.set_cons_zero, List.set_cons_succ]
          refine wpAnyH_done (by kernel_rfl) ?_ _
          clear hor hb3
          go_wp2_with fail
          go_meet
          refine hide ⟨HB3.out, ?_⟩
          rcases HOR.out with ⟨h1, h2⟩ | ⟨j, o, h1, h2, h3, h4⟩
          · cases h2; exact .inl ⟨rfl, h1⟩
          · cases h4; exact .inr ⟨j, o, rfl, h1, h2, h3⟩
      case rest =>
        obtain ⟨w2, hw2⟩ : ∃ W, W = wc := ⟨_, rfl⟩
        subst hw2
        have HB2 := hide hcut.out.1
        have HOR := hide hcut.out.2
        have HM2 := hide (HM.out.under HB2.out)
        have HQ3 := hide (And.intro (HQ1.out.below HB2.out) (fun hc => (HQ2.out hc).below HB2.out))
        clear hcut cx HFI
        go_upto_region 7 with (fail)
        go_cut [6] from 29 to 30 (fun v wc => Hid (wc = w2 ∧ Qs w2 (sb + 1) v st))
        case first =>
          by_cases hc1 : cap = 1
          · have HQ4 := hide (HQ3.out.2 hc1)
            subst hc1
            go_wp2_with fail
            go_meet
            exact hide ⟨rfl, HQ4.out⟩
          · have h1 : ¬ cap - 1 = 0 := by omega
            have h2 : 1 < cap := by omega
            have h3 : (1 : Int) < (cap : Int) := by omega
            have HQ4 := hide HQ3.out.1
            go_wp2_with fail
            go_meet
            exact hide ⟨rfl, HQ4.out⟩
        case rest =>
          obtain ⟨hwc, hq5⟩ := hcut.out
          rw [hwc]
          have HQ5 := hide hq5
          clear hcut hq5 HQ3 HQ1 HQ2 hwc
          rcases HOR.out with ⟨h7, hb0⟩ | ⟨j, o, h7, hj, hbx, hob⟩
          · rw [h7]
            have HN := hide (HM2.out.skip (by rw [HSB.out]; exact HQ5.out) (fun a ha => by rw [hb0] at ha; cases ha))
            have HKN := hide (show gk - 1 ≤ K0 from by have := HGK.out; omega)
            clear h7 hb0 HOR
            go_wp2
            go_roundg (gk - 1)
            case measure => exact hgk
            case rel => exact ⟨_, _, HKN.out, HN⟩
          · rw [h7]
            have hjl := get_lt hj
            have HJ := hide hj
            have HBX := hide hbx
            have HOB := hide hob
            have HKN := hide (show gk - 1 ≤ K0 from by have := HGK.out; omega)
            have hjn : (j : Int) < (q.ob.length : Int) := by omega
            have hj0 : decide ((j : Int) < 0) = false := by simp
            clear h7 hbx hob HOR hj
            have csj : w2.cell? ⟨sb, j, none⟩ = some (.bool (F o.a)) := by
              have h1 : (bools (stay q F))[j]? = some (.bool (F o.a)) := bools_get (stay_at HJ.out)
              simpa [World.cell?, HM2.out.sty] using h1
            cases hF : F o.a with
            | true =>
              rw [hF] at csj
              have HN := hide (HM2.out.skip (by rw [HSB.out]; exact HQ5.out) (fun a ha => by rw [HBX.out] at ha; cases ha; exact hF))
              clear hF
              go_wp2
              go_roundg (gk - 1)
              case measure => exact hgk
              case rel => exact ⟨_, _, HKN.out, HN⟩
            | false =>
              rw [hF] at csj
              have HF := hide hF
              obtain ⟨f, ip, p, O, hty, how⟩ := HS.out.obj HI.out HJ.out
              have hO := hide O
              have HTY := hide hty
              have HOW := hide how
              have W1s : Below sb W1 W1 := Below.refl _ _
              obtain ⟨R1, _, _, _⟩ := HR.out W1 W1s
              obtain ⟨ht1, hn1, ha1⟩ := R1.ok j o HJ.out
              obtain ⟨g0, cap0, hvo, hg0, y0, y1, y2⟩ := R1.object HJ.out
              cases hvo
              rw [HSB.out] at hg0
              obtain ⟨gs, caps, hvs, hgs, _, _⟩ := R1.store HS.out (x := o.a) O.a1 (by have := O.aw; have := O.pn; have := owords_pos (ptrs f) o.n; omega)
              cases hvs
              rw [HSB.out] at hgs
              have HST := hide (show ∀ k, k < p.n → o.a + k < q.r.st.length ∧ ∀ W : World, Below sb W1 W → W.cell? ⟨gs, o.a + k, none⟩ = some (.int .i64 (wd h.s (o.a + k))) ∧ gs < W.heap.size from fun k hk => by
                obtain ⟨gs', caps', hvs', _, hc, hlt⟩ := R1.store HS.out (x := o.a + k) (by have := O.a1; omega) (by have := O.aw; omega)
                cases hvs'
                exact ⟨hlt, fun W hb => ⟨(hb.cell (p := ⟨gs, o.a + k, none⟩) hgs).trans hc, by have := hb.size; rw [HSB.out] at this; omega⟩⟩)
              have hrs := R1.rl.bs
              obtain ⟨m, hm⟩ : ∃ m, ow q o = m := ⟨_, rfl⟩
              have HMM := hide hm
              have hmp : m = p.n := by rw [← hm]; exact how
              have haw := O.aw
              have haw2 := O.aw2
              have ha0 := O.a1
              have HMP := hide hmp
              have fz : w2.frozen? ⟨sb, j, none⟩ = false := by simp [World.frozen?, HM2.out.sty]
              have hsb2 : sb < w2.heap.size := lt_of_block HM2.out.sty
              have hb2W : Below sb W1 w2 := by have h := HM2.out.bel; rw [HSB.out] at h; exact h
              -- the world with the mark
              have HSX := hide (show (w2.setCell ⟨sb, j, none⟩ (.bool true)).heap[sb]? = some (.cells (bools (stay q (upd F o.a true))).toArray 4 (0, 0)) ∧ Below sb W1 (w2.setCell ⟨sb, j, none⟩ (.bool true)) ∧ Qs (w2.setCell ⟨sb, j, none⟩ (.bool true)) (sb + 1) u6 st from by
                refine ⟨?_, hb2W.setCell (Nat.le_refl _) _, HQ5.out.keep fun g' hg' => ?_⟩
                · rw [heap_setCell_same w2 sb j _ HM2.out.sty, List.setIfInBounds_toArray, ← stay_set HS.out.nd HJ.out]
                  simp [bools, List.map_set]
                · have := (HQ5.out.lt g' hg').1
                  exact Below.heap_setCell _ _ _ g' (by show g' ≠ sb; omega))
              have HOC := hide (show ∀ W : World, Below sb W1 W → W.cell? ⟨g0, j * 3, none⟩ = some (.int .i64 o.a) ∧ W.cell? ⟨g0, j * 3 + 1, none⟩ = some (.int .i64 o.t) ∧ W.cell? ⟨g0, j * 3 + 2, none⟩ = some (.int .i64 o.n) ∧ g0 < W.heap.size from fun W hb => ⟨(hb.cell (p := ⟨g0, j * 3, none⟩) hg0).trans y0, (hb.cell (p := ⟨g0, j * 3 + 1, none⟩) hg0).trans y1, (hb.cell (p := ⟨g0, j * 3 + 2, none⟩) hg0).trans y2, by have := hb.size; rw [HSB.out] at this; omega⟩)
              clear hF hty how O R1 y0 y1 y2 hm hmp haw W1s
              go_upto_region 10 with (fail)
              generalize w2.setCell ⟨sb, j, none⟩ (.bool true) = W4 at *
              clear csj fz hsb2 hb2W
              obtain ⟨y0, y1, y2, hg0w⟩ := HOC.out W4 HSX.out.2.1
              obtain ⟨⟨k0, k1, k2, k3, k4, k5, k6⟩, hw4⟩ := HC7.out W4 HSX.out.2.1
              obtain ⟨W5, hW5⟩ : ∃ W5, W4.alloc (.cells #[.int .i64 (o.a : Int), .int .i64 (o.t : Int), .int .i64 (o.n : Int)] 82) = W5 := ⟨_, rfl⟩
              have b45 : Below W4.heap.size W4 W5 := by rw [← hW5]; exact (Below.refl _ _).alloc (Nat.le_refl _) _
              have eo : Bo W5 W4.heap.size o := by rw [← hW5]; exact heap_new _ _ rfl
              have hs4 : sb < W4.heap.size := lt_of_block HSX.out.1
              have HMS := hide (show MidS W1 W5 q o sb W4.heap.size u6 (st ++ outR h.s (ptrs f) o.n o.a 0) (stay q (upd F o.a true)) from ⟨by rw [show outR h.s (ptrs f) o.n o.a 0 = [] from rfl, List.append_nil]; exact HSX.out.2.2.below b45, (b45.block _ hs4).trans HSX.out.1, eo, HSX.out.2.1.trans (b45.mono (Nat.le_of_lt hs4))⟩)
              have cq0 : W5.cell? ⟨W4.heap.size, 0, none⟩ = some (.int .i64 (o.a : Int)) := (c3_of eo).1
              have hl5 : W4.heap.size < W5.heap.size := lt_of_block eo
              clear b45 eo
              go_upto_region 11 with (fail)
              clear hW5 k0 k1 k2 k3 k4 k5 k6 y0 y1 y2
              generalize W4.heap.size = ob at *
              go_wp2
              go_loopw [6, 9] (fun vk pv wr' => ∃ k : Nat, k ≤ m ∧ pv = .int .i64 ((o.a : Int) + (k : Int)) ∧ Hid (MidS W1 wr' q o sb ob vk (st ++ outR h.s (ptrs f) o.n o.a k) (stay q (upd F o.a true)))) (fun _ pv _ => (o.a + m) - (intOf pv).toNat)
              case atStart => exact ⟨0, Nat.zero_le _, by simp, HMS⟩
              case round =>
                obtain ⟨k, hk, rfl, HMS⟩ := hrel
                obtain ⟨w6, hw6⟩ : ∃ W, W = wr := ⟨_, rfl⟩
                subst hw6
                have HBS := hide HMS.out.bel
                have HS6 := hide (lt_of_block HMS.out.sty)
                have HS12 := hide (show ∀ W : World, Below w6.heap.size w6 W → (fun W : World => W.cell? ⟨w.heap.size, 0, none⟩ = some (.slice aot q.ty.length cpt) ∧ W.cell? ⟨w.heap.size, 1, none⟩ = some (.int .i64 q.r.wd) ∧ W.cell? ⟨w.heap.size, 2, none⟩ = some (.int .i64 q.r.ln) ∧ W.cell? ⟨w.heap.size, 3, none⟩ = some (.slice aop q.r.ps.length cpp) ∧ W.cell? ⟨w.heap.size, 4, none⟩ = some (.int .i64 q.r.fd) ∧ W.cell? ⟨w.heap.size, 5, none⟩ = some (.slice (some ⟨gs, 0, none⟩) q.r.st.length cps) ∧ W.cell? ⟨w.heap.size, 6, none⟩ = some (.slice (some ⟨g0, 0, none⟩) q.ob.length cpo) ∧ W.cell? ⟨ob, 0, none⟩ = some (.int .i64 (o.a : Int)) ∧ W.cell? ⟨ob, 1, none⟩ = some (.int .i64 (o.t : Int)) ∧ W.cell? ⟨ob, 2, none⟩ = some (.int .i64 (o.n : Int))) W from fun W hb => by
                  obtain ⟨⟨k0, k1, k2, k3, k4, k5, k6⟩, _⟩ := HC7.out W (HBS.out.trans (hb.mono (Nat.le_of_lt HS6.out)))
                  obtain ⟨c0, c1, c2⟩ := c3_of ((hb.block _ (lt_of_block HMS.out.bo)).trans HMS.out.bo)
                  exact ⟨k0, k1, k2, k3, k4, k5, k6, c0, c1, c2⟩)
                have HWD := hide (rwords_any (HR.out w6.drew (bdr HBS.out)).1 (o := o) ht1 hn1)
                rw [HMM.out] at HWD
                have hwm : IntKind.i64.wrap ((o.a : Int) + (m : Int)) = (o.a : Int) + (m : Int) := by
                  have := HMP.out
                  exact wrapI (by omega) (by omega)
                go_upto_region 12 with (fail)
                go_cut [56] from 49 to 55 (fun v wc => Hid (v = .bool (decide (k < m)) ∧ Below w6.heap.size w6 wc))
                case first =>
                  refine wp_region_held_drew (S := (fun W : World => W.cell? ⟨w.heap.size, 0, none⟩ = some (.slice aot q.ty.length cpt) ∧ W.cell? ⟨w.heap.size, 1, none⟩ = some (.int .i64 q.r.wd) ∧ W.cell? ⟨w.heap.size, 2, none⟩ = some (.int .i64 q.r.ln) ∧ W.cell? ⟨w.heap.size, 3, none⟩ = some (.slice aop q.r.ps.length cpp) ∧ W.cell? ⟨w.heap.size, 4, none⟩ = some (.int .i64 q.r.fd) ∧ W.cell? ⟨w.heap.size, 5, none⟩ = some (.slice (some ⟨gs, 0, none⟩) q.r.st.length cps) ∧ W.cell? ⟨w.heap.size, 6, none⟩ = some (.slice (some ⟨g0, 0, none⟩) q.ob.length cpo) ∧ W.cell? ⟨ob, 0, none⟩ = some (.int .i64 (o.a : Int)) ∧ W.cell? ⟨ob, 1, none⟩ = some (.int .i64 (o.t : Int)) ∧ W.cell? ⟨ob, 2, none⟩ = some (.int .i64 (o.n : Int)))) (by kernel_rfl) (HS12.out _ (bdr (Below.refl _ _))) (fun hHeld8 => ?_)
                  refine wpAnyH_take (i := 0) (oi := { dst := some 49, op := Go.Op.move (Go.Operand.tmp 9), type := 3, pos := "ref.go:137", after := #[], guard := none }) (v := ?v9) rfl (by kernel_rfl) (by kernel_rfl) (by kernel_rfl) (fun _ _ _ h => h) (Or.inl ⟨by rfl, ?hy9⟩) (by assumption) ?_
                  case hy9 => (intro W hSw; (try dsimp only at hSw); go_simp; try with_reducible rfl)
                  try simp only [Act.put, List.setIfInBounds_toArray, List.set_cons_zero, List.set_cons_succ]
                  refine wpAnyH_take (i := 1) (oi := { dst := some 50, op := Go.Op.fieldAddr 82 (Go.Operand.tmp 8) 0, type := 0, pos := "ref.go:137", after := #[], guard := none }) (v := ?v10) rfl (by kernel_rfl) (by kernel_rfl) (by kernel_rfl) (fun _ _ _ h => h) (Or.inl ⟨by rfl, ?hy10⟩) (by assumption) ?_
                  case hy10 => (intro W hSw; (try dsimp only at hSw); go_simp; try with_reducible rfl)
                  try simp only [Act.put, List.setIfInBounds_toArray, List.set_cons_zero, List.set_cons_succ]
                  refine wpAnyH_take (i := 2) (oi := { dst := some 51, op := Go.Op.load 3 (Go.Operand.tmp 50), type := 3, pos := "ref.go:137", after := #[{ on := 1, ground := Go.Ground.data }], guard := none }) (v := ?v11) rfl (by kernel_rfl) (by kernel_rfl) (by kernel_rfl) (fun _ _ _ h => h) (Or.inl ⟨by rfl, ?hy11⟩) (by assumption) ?_
                  case hy11 => (intro W hSw; (try dsimp only at hSw); go_simp; try with_reducible rfl)
                  try simp only [Act.put, List.setIfInBounds_toArray, List.set_cons_zero, List.set_cons_succ]
                  refine wpAnyH_take (i := 3) (oi := { dst := some 52, op := Go.Op.load 36 (Go.Operand.tmp 2), type := 36, pos := "ref.go:137", after := #[], guard := none }) (v := ?v12) rfl (by kernel_rfl) (by kernel_rfl) (by kernel_rfl) (fun _ _ _ h => h) (Or.inl ⟨by rfl, ?hy12⟩) (by assumption) ?_
                  case hy12 => (intro W hSw; (try dsimp only at hSw); go_simp; try with_reducible rfl)
                  try simp only [Act.put, List.setIfInBounds_toArray, List.set_cons_zero, List.set_cons_succ]
                  refine wpAnyH_take (i := 4) (oi := { dst := some 53, op := Go.Op.load 82 (Go.Operand.tmp 8), type := 82, pos := "ref.go:137", after := #[], guard := none }) (v := ?v13) rfl (by kernel_rfl) (by kernel_rfl) (by kernel_rfl) (fun _ _ _ h => h) (Or.inl ⟨by rfl, ?hy13⟩) (by assumption) ?_
                  case hy13 => (intro W hSw; (try dsimp only at hSw); go_simp; try with_reducible rfl)
                  try simp only [Act.put, List.setIfInBounds_toArray, List.set_cons_zero, List.set_cons_succ]
                  refine wpAnyH_ready (rs := [5]) (by kernel_rfl) (by simp) ?_
                  refine AllReadyH.cons (o := { dst := some 54, op := Go.Op.call { callee := Go.Callee.value (Go.Operand.func 30), args := #[Go.Operand.tmp 52, Go.Operand.tmp 53], argTypes := #[36, 82] }, type := 3, pos := "ref.go:137", after := #[{ on := 3, ground := Go.Ground.data }, { on := 4, ground := Go.Ground.data }], guard := none }) rfl (fun K hK => ?_) AllReadyH.nil
                  go_simp
                  go_at_call 30
                  refine HWD.out.mono ?_
                  rintro e w7 ⟨rfl, hb7⟩
                  have HB7 := hide (show Below w6.heap.size w6 w7 from ⟨hb7.os, hb7.tape, hb7.output, hb7.size, hb7.block⟩)
                  go_wp2_with fail
                  refine hK.out _ _ (HS12.out _ HB7.out) (fun hHeld14 => ?_)
                  clear hK K
                  try simp only [Act.put, List.setIfInBounds_toArray, List.set_cons_zero, List.set_cons_succ]
                  refine wpAnyH_take (i := 6) (oi := { dst := some 55, op := Go.Op.binOp Go.BinOp.add 3 (Go.Operand.tmp 51) (Go.Operand.tmp 54) 3, type := 3, pos := "ref.go:137", after := #[{ on := 2, ground := Go.Ground.data }, { on := 5, ground := Go.Ground.data }], guard := none }) (v := ?v15) rfl (by kernel_rfl) (by kernel_rfl) (by kernel_rfl) (fun _ _ _ h => h) (Or.inl ⟨by rfl, ?hy15⟩) (by assumption) ?_
                  case hy15 => (intro W hSw; (try dsimp only at hSw); go_simp; try with_reducible rfl)
                  try simp only [Act.put, List.setIfInBounds_toArray, List.set_cons_zero, List.set_cons_succ]
                  refine wpAnyH_take (i := 7) (oi := { dst := some 56, op := Go.Op.binOp Go.BinOp.lss 3 (Go.Operand.tmp 49) (Go.Operand.tmp 55) 3, type := 4, pos := "ref.go:137", after := #[{ on := 0, ground := Go.Ground.data }, { on := 6, ground := Go.Ground.data }], guard := none }) (v := ?v16) rfl (by kernel_rfl) (by kernel_rfl) (by kernel_rfl) (fun _ _ _ h => h) (Or.inl ⟨by rfl, ?hy16⟩) (by assumption) ?_
                  case hy16 => (intro W hSw; (try dsimp only at hSw); go_simp; try with_reducible rfl)
                  try simp only [Act.put, List.setIfInBounds_toArray, List.set_cons_zero, List.set_cons_succ]
                  refine wpAnyH_done (by kernel_rfl) ?_ _
                  clear hb7
                  go_wp2_with fail
                  go_meet
                  exact hide ⟨by first | rfl | (congr 1; exact decide_eq_decide.mpr (by omega)), HB7.out⟩
                case rest =>
                  obtain ⟨w7, hw7⟩ : ∃ W, W = wc := ⟨_, rfl⟩
                  subst hw7
                  obtain ⟨h56, hb7⟩ := hcut.out
                  rw [h56]
                  have HB7 := hide hb7
                  have HMS7 := hide (HMS.out.under (Nat.le_of_lt HS6.out) hb7)
                  have HBS7 := hide HMS7.out.bel
                  have HS7 := hide (lt_of_block HMS7.out.sty)
                  clear hcut hb7 h56 HWD hwm
                  by_cases hkm : k < m
                  · rw [decide_eq_true hkm]
                    obtain ⟨⟨k0, k1, k2, k3, k4, k5, k6⟩, hw7⟩ := HC7.out w7 HBS7.out
                    obtain ⟨c0, c1, c2⟩ := c3_of HMS7.out.bo
                    have hob7 : ob < w7.heap.size := lt_of_block HMS7.out.bo
                    have HPT := hide (rpointer_any (HR.out w7 HBS7.out).1 (i := k) HTY.out hn1 ha1 (by rw [HMM.out]; exact hkm))
                    have HO1 := hide (show outR h.s (ptrs f) o.n o.a (k + 1) = outR h.s (ptrs f) o.n o.a k ++ (if ptrB (ptrs f) o.n k = true then [wd h.s (o.a + k)] else []) from rfl)
                    have hkb : (o.a : Int) + (k : Int) ≤ 70000 := by have := HMP.out; omega
                    cases hp : ptrB (ptrs f) o.n k with
                    | false =>
                      rw [hp] at HPT HO1
                      have HON := hide (show outR h.s (ptrs f) o.n o.a (k + 1) = outR h.s (ptrs f) o.n o.a k from by rw [HO1.out]; simp)
                      clear hp HO1
                      go_wp2_with fail
                      refine HPT.out.mono ?_
                      rintro e w8 ⟨rfl, hb8⟩
                      have HMS8 := hide (HMS7.out.under (Nat.le_of_lt HS7.out) hb8)
                      clear hb8 HPT k0 k1 k2 k3 k4 k5 k6 hw7 c0 c1 c2 hob7
                      go_wp2
                      go_roundw
                      case rel => first | exact ⟨k + 1, hkm, by go_num, by rw [HON.out]; exact HMS8⟩ | ((repeat apply Exists.intro); exact ⟨⟨k + 1, hkm, by go_num, by rw [HON.out]; exact HMS8⟩, rfl⟩)
                      case measure => simp [intOf]; omega
                    | true =>
                      rw [hp] at HPT HO1
                      have HON := hide (show st ++ outR h.s (ptrs f) o.n o.a (k + 1) = (st ++ outR h.s (ptrs f) o.n o.a k) ++ [wd h.s (o.a + k)] from by rw [HO1.out, if_pos rfl, List.append_assoc])
                      clear hp HO1
                      go_wp2_with fail
                      refine HPT.out.mono ?_
                      rintro e w8 ⟨rfl, hb8⟩
                      have HMS8 := hide (HMS7.out.under (Nat.le_of_lt HS7.out) hb8)
                      clear hb8 HPT k0 k1 k2 k3 k4 k5 k6 hw7 c0 c1 c2 hob7
                      obtain ⟨⟨k0, k1, k2, k3, k4, k5, k6⟩, hw8⟩ := HC7.out w8 HMS8.out.bel
                      obtain ⟨hrl, hst⟩ := HST.out k (by rw [← HMP.out]; exact hkm)
                      obtain ⟨cst, hgs8⟩ := hst w8 HMS8.out.bel
                      obtain ⟨v9, w9, hrun, hM9, _⟩ := HMS8.out.put (wd h.s (o.a + k)) (by rw [List.length_append]; have := outR_le h.s (ptrs f) o.n o.a k; have := HMP.out; omega)
                      have HM9 := hide hM9
                      generalize wd h.s (o.a + k) = xx at *
                      have hrl2 : (o.a : Int) + (k : Int) < (q.r.st.length : Int) := by omega
                      clear hst hM9 hrl
                      go_wp2_with (at_builtin; (refine wpList_append_eq rfl _ _ 31 rfl rfl rfl hrun ?_; clear hrun))
                      go_wp2
                      go_roundw
                      case rel => first | exact ⟨k + 1, hkm, by go_num, by rw [HON.out]; exact HM9⟩ | ((repeat apply Exists.intro); exact ⟨⟨k + 1, hkm, by go_num, by rw [HON.out]; exact HM9⟩, rfl⟩)
                      case measure => simp [intOf]; omega
                  · obtain rfl : m = k := by omega
                    rw [decide_eq_false hkm]
                    have HN := hide (show MidR W1 w7 h q rs sb (gk - 1) _ (st ++ outR h.s (ptrs f) o.n o.a m) (upd F o.a true) from by
                      have hO' := hO.out
                      have hpn : 0 < p.n := by have := owords_pos (ptrs f) o.n; have := hO'.pn; omega
                      have hpf := pot_found (F := F) hO'.ps hO'.pa hpn HF.out
                      have hol := outR_le h.s (ptrs f) o.n o.a m
                      have hnum := HM2.out.num
                      have hmp := HMP.out
                      rw [List.length_cons] at hnum
                      exact ⟨by rw [HSB.out]; exact HMS7.out.qs, HMS7.out.sty, HM2.out.inv.takeR HI.out HBX.out hO'.ob hO'.ty (by have := owords_ge (ptrs f) o.n; have := hO'.pn; omega), by rw [HSB.out]; exact HMS7.out.bel, by rw [List.length_append]; omega⟩)
                    go_wp2
                    go_roundg (gk - 1)
                    case measure => exact hgk
                    case rel => exact ⟨_, _, HKN.out, HN⟩
end
end Go.Proofs.Ytimpmgbahgganaa
