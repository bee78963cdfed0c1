/- The document's Collect. -/
import Derived.Test.YtimpmgbahgganaaRhTJp
import Derived.Deep.LoopGhost
import Derived.Deep.CutRange
import Derived.Deep.RegionHeld3
import Derived.Deep.DrawnRows
namespace Go.Proofs.Ytimpmgbahgganaa
open Go.RowKit Go.Maps
attribute [local go_sem ↓] Go.wp_at_zero Go.wp_at_succ
/-- How Collect ends. -/
def CoO (B : Nat) (w : World) (q : Rh) (h : Hs) (vt vp vs vo : Value) (rs : List Int) (e : Ending) (w' : World) : Prop :=
  ((∃ x ∈ rs, namesB h x = false) ∧ e = .returned (.tuple #[.int .i64 0, .int .i64 1, rhv q vt vp vs vo]) ∧ Below w.heap.size w w') ∨
  ((∀ x ∈ rs, namesB h x = true) ∧ ∃ (F : Nat → Bool) (r' : Rs) (vp' vs' vo' : Value), (∀ a, F a = true ↔ Reach h rs a) ∧ e = .returned (.tuple #[.int .i64 (((gone h F).length : Nat) : Int), .int .i64 0, rhv { q with r := r', ob := kept q F } vt vp' vs' vo']) ∧ SimH (freeAll h (gone h F)) { q with r := r', ob := kept q F } ∧ HOut B w vt vp vs vo { q with r := r', ob := kept q F } vp' vs' vo' w' ∧ r'.fd + (kept q F).length = q.r.fd + q.ob.length)
/-- The first loop: roots that name something. -/
def CoR1 (h : Hs) (rs : List Int) (W : World) (a : Value) (wr : World) : Prop := ∃ j : Nat, a = .int .i64 j ∧ j ≤ rs.length ∧ (∀ (i : Nat) (x : Int), i < j → rs[i]? = some x → namesB h x = true) ∧ Below W.heap.size W wr
theorem names_base {h : Hs} {x : Int} (hx : x ≠ 0) : namesB h x = (baseA h x).isSome := by unfold namesB; rw [decide_eq_false hx, Bool.false_or]
section
variable {w : World} {B : Nat} {q : Rh} {h : Hs} {vt vp vs vo : Value}
set_option maxRecDepth 100000 in
set_option maxHeartbeats 8000000 in
theorem rcollect_any (R : RH B w q vt vp vs vo) (S : SimH h q) (I : HInv h) {v : Value} {rs : List Int} (Rr : IntsAt w v rs) (hl : rs.length ≤ 2000000) (hfd : q.r.fd + q.ob.length < 60000) :
    Calls Try.prog 20 #[rhv q vt vp vs vo, v] w (CoO B w q h vt vp vs vo rs) := by
  obtain ⟨aot, cpt, rfl⟩ := R.tform
  obtain ⟨aop, cpp, rfl⟩ := R.rl.pform
  obtain ⟨aos, cps, rfl⟩ := R.rl.sform
  obtain ⟨aoo, cpo, rfl⟩ := R.oform
  obtain ⟨aov, cpv, hv, hcells⟩ := Rr
  have HRR := hide (show IntsAt w v rs from ⟨aov, cpv, hv, hcells⟩)
  subst hv
  have T1 := two7_new w q (.slice aot q.ty.length cpt) (.slice aop q.r.ps.length cpp) (.slice aos q.r.st.length cps) (.slice aoo q.ob.length cpo)
  obtain ⟨W1, hW1⟩ : ∃ W1, (w.alloc (.cells #[.slice aot q.ty.length cpt, .int .i64 q.r.wd, .int .i64 q.r.ln, .slice aop q.r.ps.length cpp, .int .i64 q.r.fd, .slice aos q.r.st.length cps, .slice aoo q.ob.length cpo] 36)).alloc (.cells #[.slice none 0 0, .int .i64 0, .int .i64 0, .slice none 0 0, .int .i64 0, .slice none 0 0, .slice none 0 0] 36) = W1 := ⟨_, rfl⟩
  rw [hW1] at T1
  have HT := hide (show ∀ W : World, Below W1.heap.size W1 W → Two7 w W q (.slice aot q.ty.length cpt) (.slice aop q.r.ps.length cpp) (.slice aos q.r.st.length cps) (.slice aoo q.ob.length cpo) from fun W hb => T1.under hb)
  have HR := hide (show ∀ W : World, Below W1.heap.size W1 W → RH B W q (.slice aot q.ty.length cpt) (.slice aop q.r.ps.length cpp) (.slice aos q.r.st.length cps) (.slice aoo q.ob.length cpo) from fun W hb => R.below (T1.under hb).bel)
  have HR0 := hide R
  have HS := hide S
  have HI := hide I
  have HFD := hide hfd
  have hbo := R.bo
  have HC := hide hcells
  have HZ := hide (show w.heap.size + 1 < W1.heap.size from T1.size)
  have HW1 := hide hW1
  obtain ⟨n, hn⟩ : ∃ n, rs.length = n := ⟨_, rfl⟩
  rw [hn] at hl ⊢
  have HN := hide hn
  clear R S I hcells T1 hW1 hfd hn
  go_enter Try.func20, Try.ntmps20
  go_wp2
  rw [HW1.out]
  clear HW1
  go_loopw [7] (fun a wr => CoR1 h rs W1 a wr) (fun a _ => n - (intOf a).toNat)
  case atStart => exact ⟨0, rfl, Nat.zero_le _, fun i x hi => absurd hi (Nat.not_lt_zero _), Below.refl _ _⟩
  case round =>
    obtain ⟨j, rfl, hj, hall, hb⟩ := hrel
    have HALL := hide hall
    have HB := hide hb
    rw [HN.out] at hj
    clear hall hb
    by_cases hlt : j < n
    · skip
      obtain ⟨x, hx⟩ : ∃ x, rs[j]? = some x := ⟨rs[j]'(by rw [HN.out]; exact hlt), by simp⟩
      obtain ⟨hxm, g, o, hao, hg, hcx⟩ := HC.out j x hx
      subst hao
      have T := HT.out wr HB.out
      have hgw : g < wr.heap.size := by have := T.bel.size; omega
      have cx : wr.cell? ⟨g, o + j, none⟩ = some (.int .i64 x) := by rw [World.cell?_of_block (a := ⟨g, o + j, none⟩) (T.bel.block g hg)]; exact hcx
      have HS4 := hide (show ∀ W : World, Below wr.heap.size wr W → (fun W : World => W.cell? ⟨w.heap.size, 0, none⟩ = some (.slice aot q.ty.length cpt) ∧ W.cell? ⟨w.heap.size, 1, none⟩ = some (.int .i64 q.r.wd) ∧ W.cell? ⟨w.heap.size, 2, none⟩ = some (.int .i64 q.r.ln) ∧ W.cell? ⟨w.heap.size, 3, none⟩ = some (.slice aop q.r.ps.length cpp) ∧ W.cell? ⟨w.heap.size, 4, none⟩ = some (.int .i64 q.r.fd) ∧ W.cell? ⟨w.heap.size, 5, none⟩ = some (.slice aos q.r.st.length cps) ∧ W.cell? ⟨w.heap.size, 6, none⟩ = some (.slice aoo q.ob.length cpo) ∧ W.cell? ⟨g, o + j, none⟩ = some (.int .i64 x)) W from fun W hb => by
        obtain ⟨k0, k1, k2, k3, k4, k5, k6⟩ := c7_of (T.under hb).bx
        exact ⟨k0, k1, k2, k3, k4, k5, k6, (hb.cell (p := ⟨g, o + j, none⟩) hgw).trans cx⟩)
      have HTT := hide T
      have dl : decide (j < n) = true := by simpa using hlt
      have dj : (j : Int) < (n : Int) := by omega
      have HX := hide hx
      have HNXT := hide (show namesB h x = true → ∀ (i : Nat) (y : Int), i < j + 1 → rs[i]? = some y → namesB h y = true from fun hn i y hi hy => by
        rcases Nat.lt_or_ge i j with h1 | h1
        · exact HALL.out i y h1 hy
        · obtain rfl : i = j := by omega
          rw [hx] at hy; cases hy; exact hn)
      clear T hx hcx hg
      by_cases hx0 : x = 0
      · have HNX := hide (HNXT.out (by unfold namesB; rw [decide_eq_true hx0]; rfl))
        have z0 : (x != 0) = false := by simp [hx0]
        clear hx0
        go_upto_region 4 with (fail)
        refine wp_region_held_drew (S := (fun W : World => W.cell? ⟨w.heap.size, 0, none⟩ = some (.slice aot q.ty.length cpt) ∧ W.cell? ⟨w.heap.size, 1, none⟩ = some (.int .i64 q.r.wd) ∧ W.cell? ⟨w.heap.size, 2, none⟩ = some (.int .i64 q.r.ln) ∧ W.cell? ⟨w.heap.size, 3, none⟩ = some (.slice aop q.r.ps.length cpp) ∧ W.cell? ⟨w.heap.size, 4, none⟩ = some (.int .i64 q.r.fd) ∧ W.cell? ⟨w.heap.size, 5, none⟩ = some (.slice aos q.r.st.length cps) ∧ W.cell? ⟨w.heap.size, 6, none⟩ = some (.slice aoo q.ob.length cpo) ∧ W.cell? ⟨g, o + j, none⟩ = some (.int .i64 x))) (by kernel_rfl) (HS4.out _ (bdr (Below.refl _ _))) (fun hHeld1 => ?_)
        refine wpAnyH_take (i := 0) (oi := { dst := some 21, op := Go.Op.move (Go.Operand.tmp 1), type := 31, pos := "ref.go:149", after := #[], guard := none }) (v := ?v2) rfl (by kernel_rfl) (by kernel_rfl) (by kernel_rfl) (fun _ _ _ h => h) (Or.inl ⟨by rfl, ?hy2⟩) (by assumption) ?_
        case hy2 => (intro W hSw; (try dsimp only at hSw); go_simp; try with_reducible rfl)
        try simp only [Act.put, List.setIfInBounds_toArray, List.set_cons_zero, List.set_cons_succ]
        refine wpAnyH_take (i := 1) (oi := { dst := some 22, op := Go.Op.move (Go.Operand.tmp 7), type := 3, pos := "ref.go:149", after := #[], guard := none }) (v := ?v3) rfl (by kernel_rfl) (by kernel_rfl) (by kernel_rfl) (fun _ _ _ h => h) (Or.inl ⟨by rfl, ?hy3⟩) (by assumption) ?_
        case hy3 => (intro W hSw; (try dsimp only at hSw); go_simp; try with_reducible rfl)
        try simp only [Act.put, List.setIfInBounds_toArray, List.set_cons_zero, List.set_cons_succ]
        refine wpAnyH_take (i := 2) (oi := { dst := some 23, op := Go.Op.indexAddr 31 (Go.Operand.tmp 21) (Go.Operand.tmp 22), type := 0, pos := "ref.go:149", after := #[{ on := 0, ground := Go.Ground.data }, { on := 1, ground := Go.Ground.data }], guard := none }) (v := ?v4) rfl (by kernel_rfl) (by kernel_rfl) (by kernel_rfl) (fun _ _ _ h => h) (Or.inl ⟨by rfl, ?hy4⟩) (by assumption) ?_
        case hy4 => (intro W hSw; (try dsimp only at hSw); go_simp; try with_reducible rfl)
        try simp only [Act.put, List.setIfInBounds_toArray, List.set_cons_zero, List.set_cons_succ]
        refine wpAnyH_take (i := 3) (oi := { dst := some 24, op := Go.Op.load 3 (Go.Operand.tmp 23), type := 3, pos := "ref.go:149", after := #[{ on := 2, ground := Go.Ground.data }], guard := none }) (v := ?v5) rfl (by kernel_rfl) (by kernel_rfl) (by kernel_rfl) (fun _ _ _ h => h) (Or.inl ⟨by rfl, ?hy5⟩) (by assumption) ?_
        case hy5 => (intro W hSw; (try dsimp only at hSw); go_simp; try with_reducible rfl)
        try simp only [Act.put, List.setIfInBounds_toArray, List.set_cons_zero, List.set_cons_succ]
        refine wpAnyH_take (i := 4) (oi := { dst := some 25, op := Go.Op.binOp Go.BinOp.neq 3 (Go.Operand.tmp 24) (Go.Operand.const (Go.Value.int Go.IntKind.i64 0)) 3, type := 4, pos := "ref.go:149", after := #[{ on := 3, ground := Go.Ground.data }], guard := none }) (v := ?v6) rfl (by kernel_rfl) (by kernel_rfl) (by kernel_rfl) (fun _ _ _ h => h) (Or.inl ⟨by rfl, ?hy6⟩) (by assumption) ?_
        case hy6 => (intro W hSw; (try dsimp only at hSw); go_simp; try with_reducible rfl)
        try simp only [Act.put, List.setIfInBounds_toArray, List.set_cons_zero, List.set_cons_succ]
        refine wpAnyH_take (i := 5) (oi := { dst := some 26, op := Go.Op.move (Go.Operand.tmp 25), type := 4, pos := "ref.go:149", after := #[{ on := 4, ground := Go.Ground.data }], guard := none }) (v := ?v7) rfl (by kernel_rfl) (by kernel_rfl) (by kernel_rfl) (fun _ _ _ h => h) (Or.inl ⟨by rfl, ?hy7⟩) (by assumption) ?_
        case hy7 => (intro W hSw; (try dsimp only at hSw); go_simp; try with_reducible rfl)
        try simp only [Act.put, List.setIfInBounds_toArray, List.set_cons_zero, List.set_cons_succ]
        refine wpAnyH_take (i := 6) (oi := { dst := some 27, op := Go.Op.load 36 (Go.Operand.tmp 2), type := 36, pos := "ref.go:149", after := #[{ on := 5, ground := Go.Ground.guard }], guard := some (5, true) }) (v := undef) rfl (by kernel_rfl) (by kernel_rfl) (by kernel_rfl) (fun _ _ _ h => h) (Or.inr ⟨by rfl, rfl⟩) (by assumption) ?_
        try simp only [Act.put, List.setIfInBounds_toArray, List.set_cons_zero, List.set_cons_succ]
        refine wpAnyH_take (i := 7) (oi := { dst := some 28, op := Go.Op.move (Go.Operand.tmp 1), type := 31, pos := "ref.go:149", after := #[{ on := 5, ground := Go.Ground.guard }], guard := some (5, true) }) (v := undef) rfl (by kernel_rfl) (by kernel_rfl) (by kernel_rfl) (fun _ _ _ h => h) (Or.inr ⟨by rfl, rfl⟩) (by assumption) ?_
        try simp only [Act.put, List.setIfInBounds_toArray, List.set_cons_zero, List.set_cons_succ]
        refine wpAnyH_take (i := 8) (oi := { dst := some 29, op := Go.Op.move (Go.Operand.tmp 7), type := 3, pos := "ref.go:149", after := #[{ on := 5, ground := Go.Ground.guard }], guard := some (5, true) }) (v := undef) rfl (by kernel_rfl) (by kernel_rfl) (by kernel_rfl) (fun _ _ _ h => h) (Or.inr ⟨by rfl, rfl⟩) (by assumption) ?_
        try simp only [Act.put, List.setIfInBounds_toArray, List.set_cons_zero, List.set_cons_succ]
        refine wpAnyH_take (i := 9) (oi := { dst := some 30, op := Go.Op.indexAddr 31 (Go.Operand.tmp 28) (Go.Operand.tmp 29), type := 0, pos := "ref.go:149", after := #[{ on := 7, ground := Go.Ground.data }, { on := 8, ground := Go.Ground.data }, { on := 5, ground := Go.Ground.guard }], guard := some (5, true) }) (v := undef) rfl (by kernel_rfl) (by kernel_rfl) (by kernel_rfl) (fun _ _ _ h => h) (Or.inr ⟨by rfl, rfl⟩) (by assumption) ?_
        try simp only [Act.put, List.setIfInBounds_toArray, List.set_cons_zero, List.set_cons_succ]
        refine wpAnyH_take (i := 10) (oi := { dst := some 31, op := Go.Op.load 3 (Go.Operand.tmp 30), type := 3, pos := "ref.go:149", after := #[{ on := 9, ground := Go.Ground.data }, { on := 5, ground := Go.Ground.guard }], guard := some (5, true) }) (v := undef) rfl (by kernel_rfl) (by kernel_rfl) (by kernel_rfl) (fun _ _ _ h => h) (Or.inr ⟨by rfl, rfl⟩) (by assumption) ?_
        try simp only [Act.put, List.setIfInBounds_toArray, List.set_cons_zero, List.set_cons_succ]
        refine wpAnyH_take (i := 11) (oi := { dst := some 32, op := Go.Op.call { callee := Go.Callee.value (Go.Operand.func 32), args := #[Go.Operand.tmp 27, Go.Operand.tmp 31], argTypes := #[36, 3] }, type := 3, pos := "ref.go:149", after := #[{ on := 6, ground := Go.Ground.data }, { on := 10, ground := Go.Ground.data }, { on := 5, ground := Go.Ground.chain }, { on := 5, ground := Go.Ground.guard }], guard := some (5, true) }) (v := undef) rfl (by kernel_rfl) (by kernel_rfl) (by kernel_rfl) (fun _ _ _ h => h) (Or.inr ⟨by rfl, rfl⟩) (by assumption) ?_
        try simp only [Act.put, List.setIfInBounds_toArray, List.set_cons_zero, List.set_cons_succ]
        refine wpAnyH_take (i := 12) (oi := { dst := some 33, op := Go.Op.binOp Go.BinOp.lss 3 (Go.Operand.tmp 32) (Go.Operand.const (Go.Value.int Go.IntKind.i64 0)) 3, type := 4, pos := "ref.go:149", after := #[{ on := 11, ground := Go.Ground.data }, { on := 5, ground := Go.Ground.guard }], guard := some (5, true) }) (v := undef) rfl (by kernel_rfl) (by kernel_rfl) (by kernel_rfl) (fun _ _ _ h => h) (Or.inr ⟨by rfl, rfl⟩) (by assumption) ?_
        try simp only [Act.put, List.setIfInBounds_toArray, List.set_cons_zero, List.set_cons_succ]
        refine wpAnyH_take (i := 13) (oi := { dst := some 34, op := Go.Op.pick (Go.Operand.tmp 26) (Go.Operand.tmp 33) (Go.Operand.const (Go.Value.bool false)), type := 4, pos := "ref.go:149", after := #[{ on := 5, ground := Go.Ground.data }, { on := 12, ground := Go.Ground.data }], guard := none }) (v := ?v15) rfl (by kernel_rfl) (by kernel_rfl) (by kernel_rfl) (fun _ _ _ h => h) (Or.inl ⟨by rfl, ?hy15⟩) (by assumption) ?_
        case hy15 => (intro W hSw; (try dsimp only at hSw); go_simp; try with_reducible rfl)
        try simp only [Act.put, List.setIfInBounds_toArray, List.set_cons_zero, List.set_cons_succ]
        refine wpAnyH_done (by kernel_rfl) ?_ _
        go_wp2
        go_roundw
        case rel => exact ⟨j + 1, by go_num, by rw [HN.out]; exact hlt, HNX.out, bdr HB.out⟩
        case measure => simp [intOf]; omega
      · have z0 : (x != 0) = true := by simpa using hx0
        have HFI := hide (rfind_sim (HR.out wr.drew (bdr HB.out)) HS.out HI.out x)
        have HX0 := hide hx0
        clear hx0
        go_upto_region 4 with (fail)
        go_cut [34] from 21 to 33 (fun v wc => Hid (v = .bool (!namesB h x) ∧ Below wr.heap.size wr wc))
        case first =>
          refine wp_region_held_drew (S := (fun W : World => W.cell? ⟨w.heap.size, 0, none⟩ = some (.slice aot q.ty.length cpt) ∧ W.cell? ⟨w.heap.size, 1, none⟩ = some (.int .i64 q.r.wd) ∧ W.cell? ⟨w.heap.size, 2, none⟩ = some (.int .i64 q.r.ln) ∧ W.cell? ⟨w.heap.size, 3, none⟩ = some (.slice aop q.r.ps.length cpp) ∧ W.cell? ⟨w.heap.size, 4, none⟩ = some (.int .i64 q.r.fd) ∧ W.cell? ⟨w.heap.size, 5, none⟩ = some (.slice aos q.r.st.length cps) ∧ W.cell? ⟨w.heap.size, 6, none⟩ = some (.slice aoo q.ob.length cpo) ∧ W.cell? ⟨g, o + j, none⟩ = some (.int .i64 x))) (by kernel_rfl) (HS4.out _ (bdr (Below.refl _ _))) (fun hHeld16 => ?_)
          refine wpAnyH_take (i := 0) (oi := { dst := some 21, op := Go.Op.move (Go.Operand.tmp 1), type := 31, pos := "ref.go:149", after := #[], guard := none }) (v := ?v17) rfl (by kernel_rfl) (by kernel_rfl) (by kernel_rfl) (fun _ _ _ h => h) (Or.inl ⟨by rfl, ?hy17⟩) (by assumption) ?_
          case hy17 => (intro W hSw; (try dsimp only at hSw); go_simp; try with_reducible rfl)
          try simp only [Act.put, List.setIfInBounds_toArray, List.set_cons_zero, List.set_cons_succ]
          refine wpAnyH_take (i := 1) (oi := { dst := some 22, op := Go.Op.move (Go.Operand.tmp 7), type := 3, pos := "ref.go:149", after := #[], guard := none }) (v := ?v18) rfl (by kernel_rfl) (by kernel_rfl) (by kernel_rfl) (fun _ _ _ h => h) (Or.inl ⟨by rfl, ?hy18⟩) (by assumption) ?_
          case hy18 => (intro W hSw; (try dsimp only at hSw); go_simp; try with_reducible rfl)
          try simp only [Act.put, List.setIfInBounds_toArray, List.set_cons_zero, List.set_cons_succ]
          refine wpAnyH_take (i := 2) (oi := { dst := some 23, op := Go.Op.indexAddr 31 (Go.Operand.tmp 21) (Go.Operand.tmp 22), type := 0, pos := "ref.go:149", after := #[{ on := 0, ground := Go.Ground.data }, { on := 1, ground := Go.Ground.data }], guard := none }) (v := ?v19) rfl (by kernel_rfl) (by kernel_rfl) (by kernel_rfl) (fun _ _ _ h => h) (Or.inl ⟨by rfl, ?hy19⟩) (by assumption) ?_
          case hy19 => (intro W hSw; (try dsimp only at hSw); go_simp; try with_reducible rfl)
          try simp only [Act.put, List.setIfInBounds_toArray, List.set_cons_zero, List.set_cons_succ]
          refine wpAnyH_take (i := 3) (oi := { dst := some 24, op := Go.Op.load 3 (Go.Operand.tmp 23), type := 3, pos := "ref.go:149", after := #[{ on := 2, ground := Go.Ground.data }], guard := none }) (v := ?v20) rfl (by kernel_rfl) (by kernel_rfl) (by kernel_rfl) (fun _ _ _ h => h) (Or.inl ⟨by rfl, ?hy20⟩) (by assumption) ?_
          case hy20 => (intro W hSw; (try dsimp only at hSw); go_simp; try with_reducible rfl)
          try simp only [Act.put, List.setIfInBounds_toArray, List.set_cons_zero, List.set_cons_succ]
          refine wpAnyH_take (i := 4) (oi := { dst := some 25, op := Go.Op.binOp Go.BinOp.neq 3 (Go.Operand.tmp 24) (Go.Operand.const (Go.Value.int Go.IntKind.i64 0)) 3, type := 4, pos := "ref.go:149", after := #[{ on := 3, ground := Go.Ground.data }], guard := none }) (v := ?v21) rfl (by kernel_rfl) (by kernel_rfl) (by kernel_rfl) (fun _ _ _ h => h) (Or.inl ⟨by rfl, ?hy21⟩) (by assumption) ?_
          case hy21 => (intro W hSw; (try dsimp only at hSw); go_simp; try with_reducible rfl)
          try simp only [Act.put, List.setIfInBounds_toArray, List.set_cons_zero, List.set_cons_succ]
          refine wpAnyH_take (i := 5) (oi := { dst := some 26, op := Go.Op.move (Go.Operand.tmp 25), type := 4, pos := "ref.go:149", after := #[{ on := 4, ground := Go.Ground.data }], guard := none }) (v := ?v22) rfl (by kernel_rfl) (by kernel_rfl) (by kernel_rfl) (fun _ _ _ h => h) (Or.inl ⟨by rfl, ?hy22⟩) (by assumption) ?_
          case hy22 => (intro W hSw; (try dsimp only at hSw); go_simp; try with_reducible rfl)
          try simp only [Act.put, List.setIfInBounds_toArray, List.set_cons_zero, List.set_cons_succ]
          refine wpAnyH_take (i := 6) (oi := { dst := some 27, op := Go.Op.load 36 (Go.Operand.tmp 2), type := 36, pos := "ref.go:149", after := #[{ on := 5, ground := Go.Ground.guard }], guard := some (5, true) }) (v := ?v23) rfl (by kernel_rfl) (by kernel_rfl) (by kernel_rfl) (fun _ _ _ h => h) (Or.inl ⟨by rfl, ?hy23⟩) (by assumption) ?_
          case hy23 => (intro W hSw; (try dsimp only at hSw); go_simp; try with_reducible rfl)
          try simp only [Act.put, List.setIfInBounds_toArray, List.set_cons_zero, List.set_cons_succ]
          refine wpAnyH_take (i := 7) (oi := { dst := some 28, op := Go.Op.move (Go.Operand.tmp 1), type := 31, pos := "ref.go:149", after := #[{ on := 5, ground := Go.Ground.guard }], guard := some (5, true) }) (v := ?v24) rfl (by kernel_rfl) (by kernel_rfl) (by kernel_rfl) (fun _ _ _ h => h) (Or.inl ⟨by rfl, ?hy24⟩) (by assumption) ?_
          case hy24 => (intro W hSw; (try dsimp only at hSw); go_simp; try with_reducible rfl)
          try simp only [Act.put, List.setIfInBounds_toArray, List.set_cons_zero, List.set_cons_succ]
          refine wpAnyH_take (i := 8) (oi := { dst := some 29, op := Go.Op.move (Go.Operand.tmp 7), type := 3, pos := "ref.go:149", after := #[{ on := 5, ground := Go.Ground.guard }], guard := some (5, true) }) (v := ?v25) rfl (by kernel_rfl) (by kernel_rfl) (by kernel_rfl) (fun _ _ _ h => h) (Or.inl ⟨by rfl, ?hy25⟩) (by assumption) ?_
          case hy25 => (intro W hSw; (try dsimp only at hSw); go_simp; try with_reducible rfl)
          try simp only [Act.put, List.setIfInBounds_toArray, List.set_cons_zero, List.set_cons_succ]
          refine wpAnyH_take (i := 9) (oi := { dst := some 30, op := Go.Op.indexAddr 31 (Go.Operand.tmp 28) (Go.Operand.tmp 29), type := 0, pos := "ref.go:149", after := #[{ on := 7, ground := Go.Ground.data }, { on := 8, ground := Go.Ground.data }, { on := 5, ground := Go.Ground.guard }], guard := some (5, true) }) (v := ?v26) rfl (by kernel_rfl) (by kernel_rfl) (by kernel_rfl) (fun _ _ _ h => h) (Or.inl ⟨by rfl, ?hy26⟩) (by assumption) ?_
          case hy26 => (intro W hSw; (try dsimp only at hSw); go_simp; try with_reducible rfl)
          try simp only [Act.put, List.setIfInBounds_toArray, List.set_cons_zero, List.set_cons_succ]
          refine wpAnyH_take (i := 10) (oi := { dst := some 31, op := Go.Op.load 3 (Go.Operand.tmp 30), type := 3, pos := "ref.go:149", after := #[{ on := 9, ground := Go.Ground.data }, { on := 5, ground := Go.Ground.guard }], guard := some (5, true) }) (v := ?v27) rfl (by kernel_rfl) (by kernel_rfl) (by kernel_rfl) (fun _ _ _ h => h) (Or.inl ⟨by rfl, ?hy27⟩) (by assumption) ?_
          case hy27 => (intro W hSw; (try dsimp only at hSw); go_simp; try with_reducible rfl)
          try simp only [Act.put, List.setIfInBounds_toArray, List.set_cons_zero, List.set_cons_succ]
          refine wpAnyH_ready (rs := [11]) (by kernel_rfl) (by simp) ?_
          refine AllReadyH.cons (o := { dst := some 32, op := Go.Op.call { callee := Go.Callee.value (Go.Operand.func 32), args := #[Go.Operand.tmp 27, Go.Operand.tmp 31], argTypes := #[36, 3] }, type := 3, pos := "ref.go:149", after := #[{ on := 6, ground := Go.Ground.data }, { on := 10, ground := Go.Ground.data }, { on := 5, ground := Go.Ground.chain }, { on := 5, ground := Go.Ground.guard }], guard := some (5, true) }) rfl (fun K hK => ?_) AllReadyH.nil
          go_simp
          go_at_call 32
          refine HFI.out.mono ?_
          rintro e w3 ⟨hor, hb3⟩
          have HB3 := hide (show Below wr.heap.size wr w3 from ⟨hb3.os, hb3.tape, hb3.output, hb3.size, hb3.block⟩)
          rcases hor with ⟨hn0, rfl⟩ | ⟨i, oo, hi, hbx, _, rfl⟩
          · have HV := hide (show (!namesB h x) = true from by rw [names_base HX0.out, hn0]; rfl)
            clear hn0 hb3
            go_wp2_with fail
            refine hK.out _ _ (HS4.out _ HB3.out) (fun hHeld28 => ?_)
            clear hK K
            try simp only [Act.put, List.setIfInBounds_toArray, List.set_cons_zero, List.set_cons_succ]
            refine wpAnyH_take (i := 12) (oi := { dst := some 33, op := Go.Op.binOp Go.BinOp.lss 3 (Go.Operand.tmp 32) (Go.Operand.const (Go.Value.int Go.IntKind.i64 0)) 3, type := 4, pos := "ref.go:149", after := #[{ on := 11, ground := Go.Ground.data }, { on := 5, ground := Go.Ground.guard }], guard := some (5, true) }) (v := ?v29) rfl (by kernel_rfl) (by kernel_rfl) (by kernel_rfl) (fun _ _ _ h => h) (Or.inl ⟨by rfl, ?hy29⟩) (by assumption) ?_
            case hy29 => (intro W hSw; (try dsimp only at hSw); go_simp; try with_reducible rfl)
            try simp only [Act.put, List.setIfInBounds_toArray, List.set_cons_zero, List.set_cons_succ]
            refine wpAnyH_take (i := 13) (oi := { dst := some 34, op := Go.Op.pick (Go.Operand.tmp 26) (Go.Operand.tmp 33) (Go.Operand.const (Go.Value.bool false)), type := 4, pos := "ref.go:149", after := #[{ on := 5, ground := Go.Ground.data }, { on := 12, ground := Go.Ground.data }], guard := none }) (v := ?v30) rfl (by kernel_rfl) (by kernel_rfl) (by kernel_rfl) (fun _ _ _ h => h) (Or.inl ⟨by rfl, ?hy30⟩) (by assumption) ?_
            case hy30 => (intro W hSw; (try dsimp only at hSw); go_simp; try with_reducible rfl)
            try simp only [Act.put, List.setIfInBounds_toArray, List.set_cons_zero, List.set_cons_succ]
            refine wpAnyH_done (by kernel_rfl) ?_ _
            go_wp2_with fail
            go_meet
            exact hide ⟨by rw [HV.out], HB3.out⟩
          · have HV := hide (show (!namesB h x) = false from by rw [names_base HX0.out, hbx]; rfl)
            have di : decide ((i : Int) < 0) = false := by simp
            clear hi hbx hb3
            go_wp2_with fail
            refine hK.out _ _ (HS4.out _ HB3.out) (fun hHeld31 => ?_)
            clear hK K
            try simp only [Act.put, List.setIfInBounds_toArray, List.set_cons_zero, List.set_cons_succ]
            refine wpAnyH_take (i := 12) (oi := { dst := some 33, op := Go.Op.binOp Go.BinOp.lss 3 (Go.Operand.tmp 32) (Go.Operand.const (Go.Value.int Go.IntKind.i64 0)) 3, type := 4, pos := "ref.go:149", after := #[{ on := 11, ground := Go.Ground.data }, { on := 5, ground := Go.Ground.guard }], guard := some (5, true) }) (v := ?v32) rfl (by kernel_rfl) (by kernel_rfl) (by kernel_rfl) (fun _ _ _ h => h) (Or.inl ⟨by rfl, ?hy32⟩) (by assumption) ?_
            case hy32 => (intro W hSw; (try dsimp only at hSw); go_simp; try with_reducible rfl)
            try simp only [Act.put, List.setIfInBounds_toArray, List.set_cons_zero, List.set_cons_succ]
            refine wpAnyH_take (i := 13) (oi := { dst := some 34, op := Go.Op.pick (Go.Operand.tmp 26) (Go.Operand.tmp 33) (Go.Operand.const (Go.Value.bool false)), type := 4, pos := "ref.go:149", after := #[{ on := 5, ground := Go.Ground.data }, { on := 12, ground := Go.Ground.data }], guard := none }) (v := ?v33) rfl (by kernel_rfl) (by kernel_rfl) (by kernel_rfl) (fun _ _ _ h => h) (Or.inl ⟨by rfl, ?hy33⟩) (by assumption) ?_
            case hy33 => (intro W hSw; (try dsimp only at hSw); go_simp; try with_reducible rfl)
            try simp only [Act.put, List.setIfInBounds_toArray, List.set_cons_zero, List.set_cons_succ]
            refine wpAnyH_done (by kernel_rfl) ?_ _
            go_wp2_with fail
            go_meet
            exact hide ⟨by rw [HV.out], HB3.out⟩
        case rest =>
          obtain ⟨w3, hw3⟩ : ∃ W, W = wc := ⟨_, rfl⟩
          subst hw3
          obtain ⟨h34, hb3⟩ := hcut.out
          rw [h34]
          have HB3 := hide (HB.out.trans (hb3.mono HB.out.size))
          clear hcut hb3 h34 HFI HS4 cx
          cases hnm : namesB h x with
          | true =>
            have HNX := hide (HNXT.out hnm)
            clear hnm
            go_wp2
            go_roundw
            case rel => first | exact ⟨j + 1, by go_num, by rw [HN.out]; exact hlt, HNX.out, HB3.out⟩ | ((repeat apply Exists.intro); exact ⟨⟨j + 1, by go_num, by rw [HN.out]; exact hlt, HNX.out, HB3.out⟩, rfl⟩)
            case measure => simp [intOf]; omega
          | false =>
            have HBAD := hide (show ∃ x ∈ rs, namesB h x = false from ⟨x, List.mem_of_getElem? HX.out, hnm⟩)
            clear hnm
            have T3 := HT.out w3 HB3.out
            obtain ⟨d0, d1, d2, d3, d4, d5, d6⟩ := c7_of T3.bx
            obtain ⟨k0, k1, k2, k3, k4, k5, k6⟩ := c7_of T3.zr
            obtain ⟨f0, f1, f2, f3, f4, f5, f6⟩ := f7_of T3.zr
            have HT3 := hide T3
            have hz := T3.size
            have hz0 : w.heap.size < w3.heap.size := by omega
            clear T3
            go_wp2
            go_region
            all_goals go_wp2
            all_goals (refine bodyPost_ret (coll_res rfl rfl rfl (by first | exact c7_drew (set7_c7 HT3.out.zr _ _ _ _ _ _ _) | exact set7_c7 (w := w3.drew) HT3.out.zr _ _ _ _ _ _ _)) rfl ?_; exact .inl ⟨HBAD.out, rfl, by first | exact bdr (below_set7 HT3.out.bel (Nat.le_succ _) _ _ _ _ _ _ _) | exact below_set7 (bdr HT3.out.bel) (Nat.le_succ _) _ _ _ _ _ _ _⟩)
    · obtain rfl : n = j := by omega
      have dn : decide (n < n) = false := by simp
      have HNM := hide (show ∀ x ∈ rs, namesB h x = true from fun x hx => by obtain ⟨i, hi⟩ := List.getElem?_of_mem hx; exact HALL.out i x (by rw [← HN.out]; exact get_lt hi) hi)
      have HRE := hide (rreached_any (HR.out wr HB.out) HS.out HI.out (HRR.out.below (HT.out wr HB.out).bel) (by rw [HN.out]; exact hl))
      rw [HN.out] at HRE
      obtain ⟨⟨k0, k1, k2, k3, k4, k5, k6⟩, hlw⟩ := And.intro (c7_of (HT.out wr HB.out).bx) (lt_of_block (HT.out wr HB.out).bx)
      clear HALL
      go_wp2_with fail
      refine HRE.out.mono ?_
      rintro e w2 ⟨sb, F, rfl, hsty, hsb, hF, hb2⟩
      have HF := hide hF
      have HSTY := hide hsty
      have HSBL := hide hsb
      have HB2 := hide (HB.out.trans (hb2.mono HB.out.size))
      clear hF hsty hsb hb2 HRE k0 k1 k2 k3 k4 k5 k6 hlw
      have HC2 := hide (Co2.new HB2.out HSTY.out)
      go_wp2
      generalize hC : w2.heap.size = C at *
      clear hC
      go_loopw [9, 10, 11] (fun vg vl jv wr => ∃ j : Nat, j ≤ q.ob.length ∧ jv = .int .i64 j ∧ Hid (Co2 W1 wr q F sb C vg vl j)) (fun _ _ jv _ => q.ob.length - (intOf jv).toNat)
      case atStart => exact ⟨0, Nat.zero_le _, rfl, HC2⟩
      case round =>
        obtain ⟨j, hj, rfl, HM⟩ := hrel
        obtain ⟨w5, hw5⟩ : ∃ W, W = wr := ⟨_, rfl⟩
        subst hw5
        clear HC2
        by_cases hlt : j < q.ob.length
        · obtain ⟨o, ho⟩ : ∃ o, q.ob[j]? = some o := ⟨q.ob[j], by simp⟩
          have csj : w5.cell? ⟨sb, j, none⟩ = some (.bool (F o.a)) := by
            have h1 : (bools (stay q F))[j]? = some (.bool (F o.a)) := bools_get (stay_at ho)
            simpa [World.cell?, HM.out.sty] using h1
          have hsb5 : sb < w5.heap.size := lt_of_block HM.out.sty
          obtain ⟨g0, cap0, hvo, hg0, y0, y1, y2⟩ := (HR.out W1 (Below.refl _ _)).object ho
          cases hvo
          have c0 : w5.cell? ⟨g0, j * 3, none⟩ = some (.int .i64 o.a) := (HM.out.bel.cell (p := ⟨g0, j * 3, none⟩) hg0).trans y0
          have c1 : w5.cell? ⟨g0, j * 3 + 1, none⟩ = some (.int .i64 o.t) := (HM.out.bel.cell (p := ⟨g0, j * 3 + 1, none⟩) hg0).trans y1
          have c2 : w5.cell? ⟨g0, j * 3 + 2, none⟩ = some (.int .i64 o.n) := (HM.out.bel.cell (p := ⟨g0, j * 3 + 2, none⟩) hg0).trans y2
          have hg05 : g0 < w5.heap.size := Nat.lt_of_lt_of_le hg0 HM.out.bel.size
          obtain ⟨_, _, _, _, _, _, k6⟩ := c7_of (HT.out w5 HM.out.bel).bx
          have hlw : w.heap.size < w5.heap.size := lt_of_block (HT.out w5 HM.out.bel).bx
          have dl : decide (j < q.ob.length) = true := by simpa using hlt
          have dj : (j : Int) < (q.ob.length : Int) := by omega
          have HO := hide ho
          clear y0 y1 y2 ho
          cases hF : F o.a with
          | true =>
            rw [hF] at csj
            obtain ⟨vl', w3, hrun, hM'⟩ := HM.out.stay_ HO.out hF hbo
            have HM' := hide hM'
            clear hM' hF
            go_wp2_with (at_builtin; (refine wpList_append_eq rfl _ _ 34 rfl rfl rfl hrun ?_; clear hrun))
            go_wp2
            go_roundw
            case rel => exact ⟨j + 1, hlt, by go_num, HM'⟩
            case measure => simp [intOf]; omega
          | false =>
            rw [hF] at csj
            obtain ⟨vg', w3, hrun, hM'⟩ := HM.out.go_ HO.out hF hbo
            have HM' := hide hM'
            clear hM' hF
            go_wp2_with (at_builtin; (refine wpList_append_eq rfl _ _ 31 rfl rfl rfl hrun ?_; clear hrun))
            go_wp2
            go_roundw
            case rel => exact ⟨j + 1, hlt, by go_num, HM'⟩
            case measure => simp [intOf]; omega
        · obtain rfl : q.ob.length = j := by omega
          have dl : decide (q.ob.length < q.ob.length) = false := by simp
          have HC3 := hide (show Co3 W1 w5 C u9 u10 (left q F) (kept q F) from ⟨HM.out.bel, by have h := HM.out.gn; rw [kept_all.2] at h; exact h, by have h := HM.out.ls; rw [kept_all.1] at h; exact h, HM.out.hC⟩)
          obtain ⟨ag, cg, hvg⟩ := row_form HC3.out.gn
          obtain ⟨al, cl, hvl⟩ := owns_form HC3.out.ls
          have hnl : (left q F).length ≤ 65536 := by
            have h1 := kept_len (q := q) (F := F) q.ob.length
            rw [kept_all.1, kept_all.2, List.take_length] at h1
            omega
          obtain ⟨nl, hnle⟩ : ∃ n, (left q F).length = n := ⟨_, rfl⟩
          rw [hnle] at hvg hnl
          have HNL := hide hnle
          clear hnle HM HSTY HSBL
          rw [hvg, hvl] at HC3 ⊢
          clear hvg hvl
          have HSD := hide (srd_new (l := left q F) (fun a b x ha hb => nd_inj (left_nd HS.out) ha hb))
          go_wp2
          go_loopw [12] (fun iv wr => ∃ i : Nat, i ≤ nl ∧ iv = .int .i64 i ∧ ∃ l, Hid (Srd (left q F) l i ∧ Co3 W1 wr C (.slice ag nl cg) (.slice al (kept q F).length cl) l (kept q F))) (fun iv _ => nl - (intOf iv).toNat)
          case atStart => exact ⟨0, Nat.zero_le _, rfl, _, hide ⟨HSD.out, HC3.out⟩⟩
          case round =>
            obtain ⟨i, hi, rfl, l, HL⟩ := hrel
            obtain ⟨w6, hw6⟩ : ∃ W, W = wr := ⟨_, rfl⟩
            subst hw6
            clear HC3 HSD
            by_cases hil : i < nl
            · have di : decide (i < nl) = true := by simpa using hil
              have HSI := hide HL.out.1.begin'
              go_wp2
              go_loopw [13] (fun kv wr' => ∃ k : Nat, k ≤ i ∧ kv = .int .i64 k ∧ ∃ l, Hid (Srt (left q F) l i k ∧ Co3 W1 wr' C (.slice ag nl cg) (.slice al (kept q F).length cl) l (kept q F))) (fun kv _ => (intOf kv).toNat)
              case atStart => exact ⟨i, Nat.le_refl _, rfl, _, hide ⟨HSI.out, HL.out.2⟩⟩
              case round =>
                obtain ⟨k, hk, rfl, l2, HK⟩ := hrel
                obtain ⟨w7, hw7⟩ : ∃ W, W = wr := ⟨_, rfl⟩
                subst hw7
                cases k with
                | zero =>
                  have HNX := hide (show Srd (left q F) l2 (i + 1) ∧ Co3 W1 w7.drew C (.slice ag nl cg) (.slice al (kept q F).length cl) l2 (kept q F) from ⟨HK.out.1.stop0, HK.out.2.under (bdr (Below.refl _ _))⟩)
                  go_wp2
                  go_region
                  all_goals (go_wp2; go_roundw; (case rel => first | exact ⟨i + 1, hil, by go_num, _, HNX⟩ | ((repeat apply Exists.intro); exact ⟨⟨i + 1, hil, by go_num, _, HNX⟩, rfl⟩)); (case measure => simp [intOf]; omega))
                | succ k =>
                  have hl2 : l2.length = nl := HK.out.1.len.trans HNL.out
                  obtain ⟨x, hx⟩ : ∃ x, l2[k + 1]? = some x := ⟨l2[k + 1]'(by omega), by simp⟩
                  obtain ⟨y, hy⟩ : ∃ y, l2[k]? = some y := ⟨l2[k]'(by omega), by simp⟩
                  obtain ⟨g9, cap9, hv9, cx, fx, hCg, hg9⟩ := HK.out.2.at_ hx
                  obtain ⟨g8, cap8, hv8, cy, fy, _, _⟩ := HK.out.2.at_ hy
                  rw [hl2] at hv9 hv8
                  cases hv9
                  cases hv8
                  have dk0 : decide ((0 : Int) < ((k : Int) + 1)) = true := decide_eq_true (by omega)
                  have hkn : k + 1 < nl := by omega
                  have hkn0 : k < nl := by omega
                  have hki : (k : Int) ≤ 65536 := by omega
                  have hkw : IntKind.i64.wrap (k : Int) = (k : Int) := wrapI (by omega) (by omega)
                  have HX := hide hx
                  have HY := hide hy
                  clear hx hy
                  by_cases hlt2 : x < y
                  · have d1 : decide ((x : Int) < (y : Int)) = true := by simpa using hlt2
                    have d2 : decide (x < y) = true := by simpa using hlt2
                    have HNX := hide (show Srt (left q F) (swp l2 (k + 1) x y) i k ∧ ∀ W : World, Below w7.heap.size w7 W → Co3 W1 ((W.setCell ⟨g9, k + 1, none⟩ (.int .i64 (y : Int))).setCell ⟨g9, k, none⟩ (.int .i64 (x : Int))) C (.slice (some ⟨g9, 0, none⟩) nl cg) (.slice al (kept q F).length cl) (swp l2 (k + 1) x y) (kept q F) from ⟨HK.out.1.swap (by omega) hk HX.out HY.out hlt2, fun W hb => (HK.out.2.under hb).swap (k := k + 1) (by rw [hl2])⟩)
                    clear hlt2 hl2
                    go_wp2
                    go_region
                    all_goals go_wp2
                    all_goals go_region
                    all_goals (go_wp2; go_roundw; (case rel => first | exact ⟨k, by omega, by go_num, _, hide ⟨HNX.out.1, HNX.out.2 _ (bdr (bdr (Below.refl _ _)))⟩⟩ | ((repeat apply Exists.intro); exact ⟨⟨k, by omega, by go_num, _, hide ⟨HNX.out.1, HNX.out.2 _ (bdr (bdr (Below.refl _ _)))⟩⟩, rfl⟩)); (case measure => first | (simp [intOf]; done) | (simp [intOf]; omega)))
                  · have d1 : decide ((x : Int) < (y : Int)) = false := by simpa using hlt2
                    have d2 : decide (x < y) = false := by simpa using hlt2
                    have HNX := hide (show Srd (left q F) l2 (i + 1) ∧ Co3 W1 w7.drew C (.slice (some ⟨g9, 0, none⟩) nl cg) (.slice al (kept q F).length cl) l2 (kept q F) from ⟨HK.out.1.stop (by omega) hk HX.out HY.out (by omega), HK.out.2.under (bdr (Below.refl _ _))⟩)
                    clear hlt2 hl2
                    go_wp2
                    go_region
                    all_goals (go_wp2; go_roundw; (case rel => first | exact ⟨i + 1, hil, by go_num, _, HNX⟩ | ((repeat apply Exists.intro); exact ⟨⟨i + 1, hil, by go_num, _, HNX⟩, rfl⟩)); (case measure => simp [intOf]; omega))
            · obtain rfl : nl = i := by omega
              have di : decide (nl < nl) = false := by simp
              have hll : l.length = nl := HL.out.1.len.trans HNL.out
              have hlg : l = gone h F := Srd.done (by rw [hll]; exact HL.out.1) (gone_rise HI.out) (left_mem HS.out HI.out)
              subst hlg
              have hgl : (gone h F).length = nl := hll
              have hks := kept_sum (F := F) HS.out HI.out
              have HGL := hide hgl
              have hnq : q.r.fd + nl < 60000 := by have := HFD.out; omega
              have HSUM := hide (show (kept q F).length + nl = q.ob.length from by omega)
              have hB2 := hide (show B ≤ C from Nat.le_trans HR0.out.rl.hB (Nat.le_trans (HT.out W1 (Below.refl _ _)).bel.size HL.out.2.hC.1))
              have HC5 := hide (show Co5 B w W1 w6 q h F C (.slice aot q.ty.length cpt) (.slice aop q.r.ps.length cpp) (.slice aos q.r.st.length cps) (.slice aoo q.ob.length cpo) (.slice ag nl cg) (.slice al (kept q F).length cl) 0 q.r (.slice aop q.r.ps.length cpp) (.slice aos q.r.st.length cps) from ⟨(HT.out w6 HL.out.2.bel).bel, (HT.out w6 HL.out.2.bel).bx, (HT.out w6 HL.out.2.bel).zr, (HR.out w6 HL.out.2.bel).rl, fun _ h => .inl h, fun _ h => .inl h, HL.out.2.gn, HL.out.2.ls, frd_new HS.out, HL.out.2.hC, HZ.out⟩)
              clear hll hgl hks HL
              go_wp2
              go_loopw [14] (fun jv wr => ∃ j : Nat, j ≤ nl ∧ jv = .int .i64 j ∧ ∃ r vp' vs', Hid (Co5 B w W1 wr q h F C (.slice aot q.ty.length cpt) (.slice aop q.r.ps.length cpp) (.slice aos q.r.st.length cps) (.slice aoo q.ob.length cpo) (.slice ag nl cg) (.slice al (kept q F).length cl) j r vp' vs')) (fun jv _ => nl - (intOf jv).toNat)
              case atStart => exact ⟨0, Nat.zero_le _, rfl, _, _, _, HC5⟩
              case round =>
                obtain ⟨j, hj, rfl, r, vp', vs', HM⟩ := hrel
                obtain ⟨w7, hw7⟩ : ∃ W, W = wr := ⟨_, rfl⟩
                subst hw7
                clear HC5
                obtain ⟨ap, cp, hvp⟩ := HM.out.rl.pform
                obtain ⟨as_, cs, hvs⟩ := HM.out.rl.sform
                subst hvp hvs
                by_cases hjl : j < nl
                · obtain ⟨a, ha⟩ : ∃ a, (gone h F)[j]? = some a := ⟨(gone h F)[j]'(by rw [HGL.out]; exact hjl), by simp⟩
                  obtain ⟨g9, cap9, hv9, c9, _, _⟩ := row_cell HM.out.gn (natsI_at ha)
                  rw [HGL.out] at hv9
                  cases hv9
                  have hg9 : g9 < w7.heap.size := World.block_lt_of_cell? w7 ⟨g9, j, none⟩ c9
                  have hbw : w.heap.size < w7.heap.size := lt_of_block HM.out.bx
                  have HS25 := hide (show ∀ W : World, Below w7.heap.size w7 W → (fun W : World => W.cell? ⟨g9, j, none⟩ = some (.int .i64 (a : Int))) W from fun W hb => (hb.cell (p := ⟨g9, j, none⟩) hg9).trans c9)
                  have hCg : C ≤ g9 := (HM.out.gn.lt g9 rfl).1
                  have hne9 : g9 ≠ w.heap.size := by have := HM.out.hC.1; have := HM.out.hW; omega
                  obtain ⟨_, d1, d2, d3, d4, d5, _⟩ := c7_of HM.out.bx
                  have HFR := hide (rfree_any (a : Int) (HM.out.under (bdr (Below.refl w7.heap.size w7))).rl (by rw [HM.out.frd.fd]; omega))
                  have dl : decide (j < nl) = true := by simpa using hjl
                  have dj : (j : Int) < (nl : Int) := by omega
                  have HA := hide ha
                  clear ha c9
                  go_upto_region 25 with (fail)
                  refine wp_region_held_drew (S := (fun W : World => W.cell? ⟨g9, j, none⟩ = some (.int .i64 (a : Int)))) (by kernel_rfl) (HS25.out _ (bdr (Below.refl _ _))) (fun hHeld34 => ?_)
                  refine wpAnyH_take (i := 0) (oi := { dst := some 114, op := Go.Op.fieldAddr 36 (Go.Operand.tmp 2) 1, type := 0, pos := "ref.go:169", after := #[], guard := none }) (v := ?v35) rfl (by kernel_rfl) (by kernel_rfl) (by kernel_rfl) (fun _ _ _ h => h) (Or.inl ⟨by rfl, ?hy35⟩) (by assumption) ?_
                  case hy35 => (intro W hSw; (try dsimp only at hSw); go_simp; try with_reducible rfl)
                  try simp only [Act.put, List.setIfInBounds_toArray, List.set_cons_zero, List.set_cons_succ]
                  refine wpAnyH_take (i := 2) (oi := { dst := some 116, op := Go.Op.move (Go.Operand.tmp 9), type := 31, pos := "ref.go:169", after := #[], guard := none }) (v := ?v36) rfl (by kernel_rfl) (by kernel_rfl) (by kernel_rfl) (fun _ _ _ h => h) (Or.inl ⟨by rfl, ?hy36⟩) (by assumption) ?_
                  case hy36 => (intro W hSw; (try dsimp only at hSw); go_simp; try with_reducible rfl)
                  try simp only [Act.put, List.setIfInBounds_toArray, List.set_cons_zero, List.set_cons_succ]
                  refine wpAnyH_take (i := 3) (oi := { dst := some 117, op := Go.Op.move (Go.Operand.tmp 14), type := 3, pos := "ref.go:169", after := #[], guard := none }) (v := ?v37) rfl (by kernel_rfl) (by kernel_rfl) (by kernel_rfl) (fun _ _ _ h => h) (Or.inl ⟨by rfl, ?hy37⟩) (by assumption) ?_
                  case hy37 => (intro W hSw; (try dsimp only at hSw); go_simp; try with_reducible rfl)
                  try simp only [Act.put, List.setIfInBounds_toArray, List.set_cons_zero, List.set_cons_succ]
                  refine wpAnyH_take (i := 4) (oi := { dst := some 118, op := Go.Op.indexAddr 31 (Go.Operand.tmp 116) (Go.Operand.tmp 117), type := 0, pos := "ref.go:169", after := #[{ on := 2, ground := Go.Ground.data }, { on := 3, ground := Go.Ground.data }], guard := none }) (v := ?v38) rfl (by kernel_rfl) (by kernel_rfl) (by kernel_rfl) (fun _ _ _ h => h) (Or.inl ⟨by rfl, ?hy38⟩) (by assumption) ?_
                  case hy38 => (intro W hSw; (try dsimp only at hSw); go_simp; try with_reducible rfl)
                  try simp only [Act.put, List.setIfInBounds_toArray, List.set_cons_zero, List.set_cons_succ]
                  refine wpAnyH_take (i := 5) (oi := { dst := some 119, op := Go.Op.load 3 (Go.Operand.tmp 118), type := 3, pos := "ref.go:169", after := #[{ on := 4, ground := Go.Ground.data }], guard := none }) (v := ?v39) rfl (by kernel_rfl) (by kernel_rfl) (by kernel_rfl) (fun _ _ _ h => h) (Or.inl ⟨by rfl, ?hy39⟩) (by assumption) ?_
                  case hy39 => (intro W hSw; (try dsimp only at hSw); go_simp; try with_reducible rfl)
                  try simp only [Act.put, List.setIfInBounds_toArray, List.set_cons_zero, List.set_cons_succ]
                  refine wpAnyH_ready (rs := [1]) (by kernel_rfl) (by simp) ?_
                  refine AllReadyH.cons (o := { dst := some 115, op := Go.Op.load 33 (Go.Operand.tmp 114), type := 33, pos := "ref.go:169", after := #[{ on := 0, ground := Go.Ground.data }], guard := none }) rfl (fun K hK => ?_) AllReadyH.nil
                  go_simp
                  go_wp2_with fail
                  refine hK.out _ _ (HS25.out _ (bdr (Below.refl _ _))) (fun hHeld40 => ?_)
                  clear hK K
                  try simp only [Act.put, List.setIfInBounds_toArray, List.set_cons_zero, List.set_cons_succ]
                  refine wpAnyH_ready (rs := [6]) (by kernel_rfl) (by simp) ?_
                  refine AllReadyH.cons (o := { dst := some 120, op := Go.Op.call { callee := Go.Callee.value (Go.Operand.func 42), args := #[Go.Operand.tmp 115, Go.Operand.tmp 119], argTypes := #[33, 3] }, type := 90, pos := "ref.go:169", after := #[{ on := 1, ground := Go.Ground.data }, { on := 5, ground := Go.Ground.data }], guard := none }) rfl (fun K hK => ?_) AllReadyH.nil
                  go_simp
                  go_at_call 42
                  refine HFR.out.mono ?_
                  rintro e w8 (⟨hn0, _⟩ | ⟨ii, pp, vp2, vs2, hat, hpp, rfl, Z⟩)
                  · exact absurd hn0 (HM.out.frd.at_ HI.out HA.out)
                  have HB8 := hide (show Below w7.heap.size w7 w8 from ⟨Z.below.os, Z.below.tape, Z.below.output, Z.below.size, Z.below.block⟩)
                  have HN8 := hide ((HM.out.under (bdr (Below.refl w7.heap.size w7))).next HR0.out HI.out HA.out hat hpp Z)
                  obtain ⟨ap2, cp2, hvp2⟩ := Z.rl.pform
                  obtain ⟨as2, cs2, hvs2⟩ := Z.rl.sform
                  subst hvp2 hvs2
                  obtain ⟨e0, e1, e2, e3, e4, e5, e6⟩ := c7_of (HM.out.under HB8.out).bx
                  obtain ⟨f0, f1, f2, f3, f4, f5, f6⟩ := f7_of (HM.out.under HB8.out).bx
                  have hbw8 : w.heap.size < w8.heap.size := lt_of_block (HM.out.under HB8.out).bx
                  clear hat hpp Z HFR
                  go_wp2_with fail
                  refine hK.out _ _ (HS25.out _ HB8.out) (fun hHeld41 => ?_)
                  clear hK K
                  try simp only [Act.put, List.setIfInBounds_toArray, List.set_cons_zero, List.set_cons_succ]
                  refine wpAnyH_take (i := 7) (oi := { dst := some 113, op := Go.Op.move (Go.Operand.tmp 120), type := 90, pos := "ref.go:169", after := #[{ on := 6, ground := Go.Ground.data }], guard := none }) (v := ?v42) rfl (by kernel_rfl) (by kernel_rfl) (by kernel_rfl) (fun _ _ _ h => h) (Or.inl ⟨by rfl, ?hy42⟩) (by assumption) ?_
                  case hy42 => (intro W hSw; (try dsimp only at hSw); go_simp; try with_reducible rfl)
                  try simp only [Act.put, List.setIfInBounds_toArray, List.set_cons_zero, List.set_cons_succ]
                  refine wpAnyH_take (i := 8) (oi := { dst := some 121, op := Go.Op.extract (Go.Operand.tmp 113) 0, type := 25, pos := "ref.go:169", after := #[{ on := 7, ground := Go.Ground.data }], guard := none }) (v := ?v43) rfl (by kernel_rfl) (by kernel_rfl) (by kernel_rfl) (fun _ _ _ h => h) (Or.inl ⟨by rfl, ?hy43⟩) (by assumption) ?_
                  case hy43 => (intro W hSw; (try dsimp only at hSw); go_simp; try with_reducible rfl)
                  try simp only [Act.put, List.setIfInBounds_toArray, List.set_cons_zero, List.set_cons_succ]
                  refine wpAnyH_take (i := 9) (oi := { dst := some 122, op := Go.Op.extract (Go.Operand.tmp 113) 1, type := 33, pos := "ref.go:169", after := #[{ on := 7, ground := Go.Ground.data }], guard := none }) (v := ?v44) rfl (by kernel_rfl) (by kernel_rfl) (by kernel_rfl) (fun _ _ _ h => h) (Or.inl ⟨by rfl, ?hy44⟩) (by assumption) ?_
                  case hy44 => (intro W hSw; (try dsimp only at hSw); go_simp; try with_reducible rfl)
                  try simp only [Act.put, List.setIfInBounds_toArray, List.set_cons_zero, List.set_cons_succ]
                  refine wpAnyH_take (i := 10) (oi := { dst := some 123, op := Go.Op.fieldAddr 36 (Go.Operand.tmp 2) 1, type := 0, pos := "ref.go:169", after := #[{ on := 0, ground := Go.Ground.phase }, { on := 1, ground := Go.Ground.phase }, { on := 2, ground := Go.Ground.phase }, { on := 3, ground := Go.Ground.phase }, { on := 4, ground := Go.Ground.phase }, { on := 5, ground := Go.Ground.phase }, { on := 6, ground := Go.Ground.phase }, { on := 7, ground := Go.Ground.phase }, { on := 8, ground := Go.Ground.phase }, { on := 9, ground := Go.Ground.phase }], guard := none }) (v := ?v45) rfl (by kernel_rfl) (by kernel_rfl) (by kernel_rfl) (fun _ _ _ h => h) (Or.inl ⟨by rfl, ?hy45⟩) (by assumption) ?_
                  case hy45 => (intro W hSw; (try dsimp only at hSw); go_simp; try with_reducible rfl)
                  try simp only [Act.put, List.setIfInBounds_toArray, List.set_cons_zero, List.set_cons_succ]
                  refine wpAnyH_ready (rs := [11]) (by kernel_rfl) (by simp) ?_
                  refine AllReadyH.cons (o := { dst := none, op := Go.Op.store 33 (Go.Operand.tmp 123) (Go.Operand.tmp 122), type := 0, pos := "ref.go:169", after := #[{ on := 10, ground := Go.Ground.data }, { on := 9, ground := Go.Ground.data }, { on := 6, ground := Go.Ground.chain }, { on := 0, ground := Go.Ground.phase }, { on := 1, ground := Go.Ground.phase }, { on := 2, ground := Go.Ground.phase }, { on := 3, ground := Go.Ground.phase }, { on := 4, ground := Go.Ground.phase }, { on := 5, ground := Go.Ground.phase }, { on := 6, ground := Go.Ground.phase }, { on := 7, ground := Go.Ground.phase }, { on := 8, ground := Go.Ground.phase }, { on := 9, ground := Go.Ground.phase }], guard := none }) rfl (fun K hK => ?_) AllReadyH.nil
                  go_simp
                  go_wp2_with fail
                  refine hK.out _ _ ((World.cell?_of_block (a := ⟨g9, j, none⟩) (set5_other _ _ _ _ _ _ _ _ hne9)).trans (HS25.out _ HB8.out)) (fun hHeldZ => ?_)
                  clear hK K
                  try simp only [Act.put, List.setIfInBounds_toArray, List.set_cons_zero, List.set_cons_succ]
                  refine wpAnyH_done (by kernel_rfl) ?_ _
                  go_wp2
                  go_roundw
                  case rel => exact ⟨j + 1, hjl, by go_num, _, _, _, HN8⟩
                  case measure => simp [intOf]; omega
                · obtain rfl : nl = j := by omega
                  have dl : decide (nl < nl) = false := by simp
                  obtain ⟨d0, d1, d2, d3, d4, d5, d6⟩ := c7_of HM.out.bx
                  obtain ⟨f0, f1, f2, f3, f4, f5, f6⟩ := f7_of HM.out.bx
                  have hbw : w.heap.size < w7.heap.size := lt_of_block HM.out.bx
                  have hzw : w.heap.size + 1 < w7.heap.size := lt_of_block HM.out.zr
                  have HBX8 := hide (show Bx (w7.setCell ⟨w.heap.size, 6, none⟩ (.slice al (kept q F).length cl)) w.heap.size { q with r := r, ob := kept q F } (.slice aot q.ty.length cpt) (.slice ap r.ps.length cp) (.slice as_ r.st.length cs) (.slice al (kept q F).length cl) ∧ Zr (w7.setCell ⟨w.heap.size, 6, none⟩ (.slice al (kept q F).length cl)) (w.heap.size + 1) from ⟨by unfold Bx; rw [heap_setCell_same w7 w.heap.size 6 _ HM.out.bx]; rfl, (Below.heap_setCell _ _ _ _ (by show w.heap.size + 1 ≠ w.heap.size; omega)).trans HM.out.zr⟩)
                  have HOUT := hide (show ∀ v0 v1 v2 v3 v4 v5 v6, HOut B w (.slice aot q.ty.length cpt) (.slice aop q.r.ps.length cpp) (.slice aos q.r.st.length cps) (.slice aoo q.ob.length cpo) { q with r := r, ob := kept q F } (.slice ap r.ps.length cp) (.slice as_ r.st.length cs) (.slice al (kept q F).length cl) (set7 (w7.setCell ⟨w.heap.size, 6, none⟩ (.slice al (kept q F).length cl)) (w.heap.size + 1) v0 v1 v2 v3 v4 v5 v6).drew from fun v0 v1 v2 v3 v4 v5 v6 => HM.out.out HR0.out hB2.out v0 v1 v2 v3 v4 v5 v6)
                  have HSIM := hide (show SimH (freeAll h (gone h F)) { q with r := r, ob := kept q F } from Frd.simH HS.out HI.out (by rw [HGL.out]; exact HM.out.frd))
                  have HFDE := hide (show r.fd + (kept q F).length = q.r.fd + q.ob.length from by have h1 := HM.out.frd.fd; have h2 := HSUM.out; omega)
                  go_upto_region 27 with (fail)
                  generalize w7.setCell ⟨w.heap.size, 6, none⟩ (.slice al (kept q F).length cl) = W8 at *
                  clear d0 d1 d2 d3 d4 d5 d6 f0 f1 f2 f3 f4 f5 f6 hbw hzw
                  obtain ⟨d0, d1, d2, d3, d4, d5, d6⟩ := c7_of HBX8.out.1
                  obtain ⟨k0, k1, k2, k3, k4, k5, k6⟩ := c7_of HBX8.out.2
                  obtain ⟨f0, f1, f2, f3, f4, f5, f6⟩ := f7_of HBX8.out.2
                  have hbw : w.heap.size < W8.heap.size := lt_of_block HBX8.out.1
                  have hzw : w.heap.size + 1 < W8.heap.size := lt_of_block HBX8.out.2
                  go_region
                  all_goals go_wp2
                  all_goals (refine bodyPost_ret (coll_res rfl rfl rfl (by first | exact c7_drew (set7_c7 HBX8.out.2 _ _ _ _ _ _ _) | exact set7_c7 (w := W8.drew) HBX8.out.2 _ _ _ _ _ _ _)) rfl ?_; exact .inr ⟨HNM.out, F, r, _, _, _, HF.out, by rw [HGL.out], HSIM.out, HOUT.out _ _ _ _ _ _ _, HFDE.out⟩)
end
end Go.Proofs.Ytimpmgbahgganaa
