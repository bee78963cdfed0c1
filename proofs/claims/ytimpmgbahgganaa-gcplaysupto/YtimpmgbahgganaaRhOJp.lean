/- The document's Make of a heap: an object more, or none. -/
import Derived.Test.YtimpmgbahgganaaRhNlJp
import Derived.Deep.CutRange
import Derived.Deep.RegionHeld3
namespace Go.Proofs.Ytimpmgbahgganaa
open Go.RowKit Go.Maps
attribute [local go_sem ↓] Go.wp_at_zero Go.wp_at_succ

theorem Try.info82 : (Try.prog.info? 82).map (fun i => (i.zero, i.size, i.bytes)) = some (some (.agg #[.int .i64 0, .int .i64 0, .int .i64 0]), 3, 24) := by kernel_rfl
section
variable {B : Nat} {w w' : World} {q : Rh} {vt vp vs vo : Value} {h : Hs}
/-- What the document's Make comes to, where there is such a type and number. -/
inductive MkR (h : Hs) (q : Rh) (t n : Nat) : Int → Int → Rh → Prop
  | arg : clsN (ow q ⟨0, t, n⟩) = 0 → MkR h q t n 0 1 q
  | full : clsN (ow q ⟨0, t, n⟩) ≠ 0 → allocS h.s (ow q ⟨0, t, n⟩) = none → MkR h q t n 0 7 q
  | made (x : Nat) (s' : As) (r' : Rs) : clsN (ow q ⟨0, t, n⟩) ≠ 0 → allocS h.s (ow q ⟨0, t, n⟩) = some (x, s') → Sim s' r' → r'.fd = q.r.fd → MkR h q t n x 0 { q with r := r', ob := q.ob ++ [⟨x, t, n⟩] }
/-- The end of Make: the object is laid, the new arena is stored. -/
theorem make_end {w6 : World} {b t n x : Nat} {r' : Rs} {vp' vs' vo' : Value} (R : RH B w q vt vp vs vo) (hbel : Below w.heap.size w w6) (bx6 : Bx w6 w.heap.size q vt vp vs vo) (zr6 : Zr w6 (w.heap.size + 1)) (hb : w.heap.size + 1 < b)
    (own6 : w6.ownsRow b 82 3 vo' (q.ob.length + 1) (ocells q.ob ++ [.int .i64 (x : Int), .int .i64 (t : Int), .int .i64 (n : Int)])) (rl6 : RL B w6 r' vp' vs')
    (fp : ∀ g, vp'.ownBlock = some g → vp.ownBlock = some g ∨ w.heap.size + 1 < g) (fs : ∀ g, vs'.ownBlock = some g → vs.ownBlock = some g ∨ w.heap.size + 1 < g) (hob : q.ob.length < 65536) (ht : t < q.ty.length) (hn : n ≤ 1024) (hx : x ≤ 65537) :
    ∃ W7, set5 (w6.setCell ⟨w.heap.size, 6, none⟩ vo') w.heap.size (.int .i64 r'.wd) (.int .i64 r'.ln) vp' (.int .i64 r'.fd) vs' = W7 ∧
      Bx W7 w.heap.size { q with r := r', ob := q.ob ++ [⟨x, t, n⟩] } vt vp' vs' vo' ∧ Zr W7 (w.heap.size + 1) ∧ ∀ v0 v1 v2 v3 v4 v5 v6, HOut B w vt vp vs vo { q with r := r', ob := q.ob ++ [⟨x, t, n⟩] } vp' vs' vo' (set7 W7 (w.heap.size + 1) v0 v1 v2 v3 v4 v5 v6).drew := by
  obtain ⟨W7, hW7⟩ : ∃ W7, set5 (w6.setCell ⟨w.heap.size, 6, none⟩ vo') w.heap.size (.int .i64 r'.wd) (.int .i64 r'.ln) vp' (.int .i64 r'.fd) vs' = W7 := ⟨_, rfl⟩
  have k7 : ∀ g, g ≠ w.heap.size → W7.heap[g]? = w6.heap[g]? := fun g hg => by rw [← hW7, set5_other _ _ _ _ _ _ _ _ hg, Below.heap_setCell _ _ _ _ hg]
  have x7 : Bx W7 w.heap.size { q with r := r', ob := q.ob ++ [⟨x, t, n⟩] } vt vp' vs' vo' := by rw [← hW7]; exact set5_same (heap_setCell_same _ _ 6 vo' bx6) _ _ _ _ _
  have b7 : Below w.heap.size w W7 := by rw [← hW7]; exact below_set5 (hbel.setCell (Nat.le_refl _) _) (Nat.le_refl _) _ _ _ _ _
  have s7 : w6.heap.size = W7.heap.size := by rw [← hW7]; simp
  have z7 : Zr W7 (w.heap.size + 1) := (k7 _ (by omega)).trans zr6
  refine ⟨W7, hW7, x7, z7, fun v0 v1 v2 v3 v4 v5 v6 => ?_⟩
  clear hW7
  obtain ⟨W8, hW8⟩ : ∃ W8, set7 W7 (w.heap.size + 1) v0 v1 v2 v3 v4 v5 v6 = W8 := ⟨_, rfl⟩
  have k8 : ∀ g, g ≠ w.heap.size + 1 → W8.heap[g]? = W7.heap[g]? := fun g hg => by rw [← hW8]; exact set7_other _ _ _ _ _ _ _ _ _ _ hg
  have b8 : Below w.heap.size w W8 := by rw [← hW8]; exact below_set7 b7 (by omega) _ _ _ _ _ _ _
  have s8 : W7.heap.size = W8.heap.size := by rw [← hW8]; simp
  rw [hW8]
  clear hW8
  have keep : ∀ g, g ≠ w.heap.size → g ≠ w.heap.size + 1 → W8.drew.heap[g]? = w6.heap[g]? := fun g h2 h3 => (k8 g h3).trans (k7 g h2)
  have far : ∀ {u u' : Value}, (∀ g, u'.ownBlock = some g → u.ownBlock = some g ∨ w.heap.size + 1 < g) → (∀ g, u.ownBlock = some g → g < w.heap.size) → ∀ g, u'.ownBlock = some g → g ≠ w.heap.size ∧ g ≠ w.heap.size + 1 := fun {u u'} h1 h2 g hg => by
    rcases h1 g hg with h3 | h3
    · have := h2 g h3; omega
    · omega
  have gp := far fp (fun g hg => (R.rl.pcs.lt g hg).2)
  have gs := far fs (fun g hg => (R.rl.sto.lt g hg).2)
  have hd : Below w.heap.size w W8.drew := b8.drew
  have hB : B ≤ w.heap.size := R.rl.hB
  have own8 : W8.drew.ownsRow b 82 3 vo' (q.ob.length + 1) (ocells q.ob ++ [.int .i64 (x : Int), .int .i64 (t : Int), .int .i64 (n : Int)]) := ownsRow_keep own6 fun g hg => keep g (by have := (own6.lt g hg).1; omega) (by have := (own6.lt g hg).1; omega)
  refine ⟨⟨R.lay.below hd, rl6.keep (fun g hg => keep g (gp g hg).1 (gp g hg).2) (fun g hg => keep g (gs g hg).1 (gs g hg).2) (by show _ ≤ W8.heap.size; omega), ?_, R.bt, R.bf, by simp; omega, fun j o ho => ?_⟩, hd, fun g hg => ?_, fun g hg => ?_, fun g hg => .inr (by have := (own6.lt g hg).1; omega)⟩
  · have e : ocells (q.ob ++ [(⟨x, t, n⟩ : Ro)]) = ocells q.ob ++ [.int .i64 (x : Int), .int .i64 (t : Int), .int .i64 (n : Int)] := by rw [ocells_append]; rfl
    have e2 : (q.ob ++ [(⟨x, t, n⟩ : Ro)]).length = q.ob.length + 1 := by simp
    show W8.drew.ownsRow B 82 3 vo' (q.ob ++ [(⟨x, t, n⟩ : Ro)]).length (ocells (q.ob ++ [(⟨x, t, n⟩ : Ro)]))
    rw [e, e2]
    exact ownsRow_base_a own8 (by omega)
  · have h2 : (q.ob ++ [(⟨x, t, n⟩ : Ro)])[j]? = some o := ho
    rw [List.getElem?_append] at h2
    split at h2
    · exact R.ok j o h2
    · have h3 := List.mem_of_getElem? h2
      simp at h3; subst h3
      exact ⟨ht, hn, hx⟩
  · rcases fp g hg with h1 | h1
    · exact .inl h1
    · exact .inr (by omega)
  · rcases fs g hg with h1 | h1
    · exact .inl h1
    · exact .inr (by omega)
set_option maxHeartbeats 8000000 in
theorem rmake_ok (R : RH B w q vt vp vs vo) (S : SimH h q) (I : HInv h) {t n : Nat} (ht : t < q.ty.length) (hn : n ≤ 1024) (hroom : ∀ x s', clsN (ow q ⟨0, t, n⟩) ≠ 0 → allocS h.s (ow q ⟨0, t, n⟩) = some (x, s') → q.ob.length < 65536 ∧ x ≤ 65537) :
    Calls Try.prog 12 #[rhv q vt vp vs vo, .int .i64 t, .int .i64 n] w fun e w' => ∃ x c q' vp' vs' vo', e = .returned (.tuple #[.int .i64 x, .int .i64 c, rhv q' vt vp' vs' vo']) ∧ MkR h q t n x c q' ∧ HOut B w vt vp vs vo q' vp' vs' vo' w' := by
  obtain ⟨aot, cpt, rfl⟩ := R.tform
  obtain ⟨aop, cpp, rfl⟩ := R.rl.pform
  obtain ⟨aos, cps, rfl⟩ := R.rl.sform
  obtain ⟨aoo, cpo, rfl⟩ := R.oform
  have HR := hide R
  have bt := R.bt
  have hbo := R.bo
  have d0 : decide ((t : Int) < 0) = false := by simp
  have d1 : decide ((q.ty.length : Int) ≤ (t : Int)) = false := by simp; omega
  have d1' : decide (q.ty.length ≤ t) = false := by simp; omega
  have d2 : decide ((n : Int) < 0) = false := by simp
  have d3 : decide (1024 < (n : Int)) = false := by simp; omega
  have d3' : decide (1024 < n) = false := by simp; omega
  obtain ⟨W2, hW2⟩ : ∃ W2, ((w.alloc (.cells #[.slice aot q.ty.length cpt, .int .i64 q.r.wd, .int .i64 q.r.ln, .slice aop q.r.ps.length cpp, .int .i64 q.r.fd, .slice aos q.r.st.length cps, .slice aoo q.ob.length cpo] 36)).alloc (.cells #[.slice none 0 0, .int .i64 0, .int .i64 0, .slice none 0 0, .int .i64 0, .slice none 0 0, .slice none 0 0] 36)).alloc (.cells #[.int .i64 0, .int .i64 t, .int .i64 n] 82) = W2 := ⟨_, rfl⟩
  have M2 : Mk w W2 q (.slice aot q.ty.length cpt) (.slice aop q.r.ps.length cpp) (.slice aos q.r.st.length cps) (.slice aoo q.ob.length cpo) ⟨0, t, n⟩ := by
    have T1 := two7_new w q (.slice aot q.ty.length cpt) (.slice aop q.r.ps.length cpp) (.slice aos q.r.st.length cps) (.slice aoo q.ob.length cpo)
    rw [← hW2]
    exact ⟨T1.under ((Below.refl _ _).alloc (Nat.le_refl _) _), by unfold Bo; rw [heap_new _ _ (by simp)]; rfl⟩
  have Z2 := hide (show W2.heap.size = w.heap.size + 1 + 1 + 1 by rw [← hW2]; simp)
  have HW2 := hide hW2
  have HM2 := hide M2
  have HS := hide S
  have HI := hide I
  obtain ⟨x0, x1, x2, x3, x4, x5, x6, y0, y1, y2⟩ := M2.cells
  clear R M2 hW2 S I
  go_enter Try.func12, Try.ntmps12
  go_upto_region 6 with (fail)
  rw [HW2.out]
  clear HW2
  go_cut [10, 11, 12] from 35 to 43 (fun p e a wc => Mk6 B w wc q (.slice aot q.ty.length cpt) (.slice aop q.r.ps.length cpp) (.slice aos q.r.st.length cps) (.slice aoo q.ob.length cpo) ⟨0, t, n⟩ h p e a)
  case first =>
    --BEGIN A
    have hs : ∀ W : World, Below W2.heap.size W2 W → (W.cell? ⟨w.heap.size, 0, none⟩ = some (.slice aot q.ty.length cpt) ∧ W.cell? ⟨w.heap.size, 1, none⟩ = some (.int .i64 q.r.wd) ∧ W.cell? ⟨w.heap.size, 2, none⟩ = some (.int .i64 q.r.ln) ∧ W.cell? ⟨w.heap.size, 3, none⟩ = some (.slice aop q.r.ps.length cpp) ∧ W.cell? ⟨w.heap.size, 4, none⟩ = some (.int .i64 q.r.fd) ∧ W.cell? ⟨w.heap.size, 5, none⟩ = some (.slice aos q.r.st.length cps) ∧ W.cell? ⟨w.heap.size, 6, none⟩ = some (.slice aoo q.ob.length cpo) ∧
        W.cell? ⟨w.heap.size + 1 + 1, 0, none⟩ = some (.int .i64 0) ∧ W.cell? ⟨w.heap.size + 1 + 1, 1, none⟩ = some (.int .i64 t) ∧ W.cell? ⟨w.heap.size + 1 + 1, 2, none⟩ = some (.int .i64 n)) := fun W hb => by
      have := (HM2.out.under hb).cells
      simpa using this
    have HSS := hide hs
    have cw : ∀ W : World, Below W2.heap.size W2 W → Calls Try.prog 30 #[rhv q (.slice aot q.ty.length cpt) (.slice aop q.r.ps.length cpp) (.slice aos q.r.st.length cps) (.slice aoo q.ob.length cpo), .agg #[.int .i64 0, .int .i64 t, .int .i64 n]] W fun e w' => e = .returned (.int .i64 (ow q ⟨0, t, n⟩ : Nat)) ∧ Below W.heap.size W w' := fun W hb =>
      rwords_any (o := ⟨0, t, n⟩) ((HR.out.below HM2.out.two.bel).below hb) ht hn
    have CW := hide cw
    have ca : ∀ W : World, Below W2.heap.size W2 W → Calls Try.prog 29 #[rv q.r (.slice aop q.r.ps.length cpp) (.slice aos q.r.st.length cps), .int .i64 (ow q ⟨0, t, n⟩ : Nat)] W fun e w' => ∃ x c r' vp' vs', e = .returned (.tuple #[.int .i64 x, .int .i64 c, rv r' vp' vs']) ∧ AlS h.s q.r (.slice aop q.r.ps.length cpp) (.slice aos q.r.st.length cps) (ow q ⟨0, t, n⟩) x c r' vp' vs' ∧ ROut B W (.slice aop q.r.ps.length cpp) (.slice aos q.r.st.length cps) r' vp' vs' w' := fun W hb =>
      ralloc_sim HI.out.inv HS.out.sim (((HR.out.below HM2.out.two.bel).below hb).rl) _
    have CA := hide ca
    have B0 := hide (Below.refl W2.heap.size W2)
    have ZB := hide (fun (w3 w4 : World) (b4 : Below (w3.alloc zA).heap.size (w3.alloc zA) w4) => c5_of ((b4.block w3.heap.size (lt_of_block (heap_new w3 zA rfl))).trans (heap_new w3 zA rfl)))
    have ZA := hide (fun (w3 w4 : World) (b3 : Below (W2.alloc zA).drew.heap.size (W2.alloc zA).drew w3) (b4 : Below w3.heap.size w3 w4) => c5_of ((b4.block W2.heap.size (Nat.lt_of_lt_of_le (lt_of_block (heap_new W2 zA rfl)) b3.size)).trans ((b3.block W2.heap.size (lt_of_block (heap_new W2 zA rfl))).trans (heap_new W2 zA rfl))))
    clear hs cw ca
    go_region_held3 (fun W => W.cell? ⟨w.heap.size, 0, none⟩ = some (.slice aot q.ty.length cpt) ∧ W.cell? ⟨w.heap.size, 1, none⟩ = some (.int .i64 q.r.wd) ∧ W.cell? ⟨w.heap.size, 2, none⟩ = some (.int .i64 q.r.ln) ∧ W.cell? ⟨w.heap.size, 3, none⟩ = some (.slice aop q.r.ps.length cpp) ∧ W.cell? ⟨w.heap.size, 4, none⟩ = some (.int .i64 q.r.fd) ∧ W.cell? ⟨w.heap.size, 5, none⟩ = some (.slice aos q.r.st.length cps) ∧ W.cell? ⟨w.heap.size, 6, none⟩ = some (.slice aoo q.ob.length cpo) ∧
        W.cell? ⟨w.heap.size + 1 + 1, 0, none⟩ = some (.int .i64 0) ∧ W.cell? ⟨w.heap.size + 1 + 1, 1, none⟩ = some (.int .i64 t) ∧ W.cell? ⟨w.heap.size + 1 + 1, 2, none⟩ = some (.int .i64 n))
      (exact HSS.out _ (by with_reducible repeat (first | exact B0.out | refine bel_al ?_ _ | refine bel_dr ?_ | refine bel_tr b3 ?_ | refine bel_tr b4 ?_ | refine bel_st (show W2.heap.size ≤ W2.heap.size from Nat.le_refl _) ?_ | refine bel_st (show W2.heap.size ≤ w3.heap.size from hz3) ?_)))
      (first
        | (go_at_call 30; refine (CW.out _ (by with_reducible repeat (first | exact B0.out | refine bel_al ?_ _ | refine bel_dr ?_))).mono ?_; rintro e w3 ⟨rfl, b3⟩; have hz3 : W2.heap.size ≤ w3.heap.size := Nat.le_trans (by first | exact Nat.le_refl _ | exact (bel_al B0.out zA).size) b3.size)
        | (have kk := b3; clear kk; go_at_call 29; refine (CA.out _ (by with_reducible repeat (first | exact B0.out | refine bel_al ?_ _ | refine bel_dr ?_ | refine bel_tr b3 ?_))).mono ?_; rintro e w4 ⟨xx, cc, r', vp', vs', rfl, hal, hro⟩; have b4 := hro.below; obtain ⟨avp, cvp, hvp'⟩ := hro.rl.pform; obtain ⟨avs, cvs, hvs'⟩ := hro.rl.sform; subst hvp'; subst hvs'; (first | (rename Below (w3.alloc zA).heap.size (w3.alloc zA) w4 => b4; obtain ⟨⟨z0, z1, z2, z3, z4⟩, zf0, zf1, zf2, zf3, zf4⟩ := ZB.out w3 w4 b4) | (rename Below (W2.alloc zA).drew.heap.size (W2.alloc zA).drew w3 => b3; obtain ⟨⟨z0, z1, z2, z3, z4⟩, zf0, zf1, zf2, zf3, zf4⟩ := ZA.out w3 w4 b3 b4) | skip)))
    · go_wp2
      go_meet
      case rel => exact mk6_new HM2.out Z2.out (by with_reducible repeat (first | exact B0.out | refine bel_al ?_ _ | refine bel_dr ?_ | refine bel_tr b3 ?_ | refine bel_tr b4 ?_)) hro hz3 hal
    · go_wp2
      go_meet
      case rel => exact mk6_set HM2.out Z2.out (HR.out.rl) (by with_reducible repeat (first | exact B0.out | refine bel_al ?_ _ | refine bel_dr ?_ | refine bel_tr b3 ?_ | refine bel_tr b4 ?_)) hro (by simp; omega) hal hz3 (by simp) ((b4.block w3.heap.size (lt_of_block (heap_new w3 zA rfl))).trans (heap_new w3 zA rfl))
    · go_wp2
      go_meet
      case rel => exact mk6_set HM2.out Z2.out (HR.out.rl) (by with_reducible repeat (first | exact B0.out | refine bel_al ?_ _ | refine bel_dr ?_ | refine bel_tr b3 ?_ | refine bel_tr b4 ?_)) hro hz3 hal (Nat.le_refl _) (Nat.lt_of_lt_of_le (lt_of_block (heap_new W2 zA rfl)) b3.size) ((b4.block W2.heap.size (Nat.lt_of_lt_of_le (lt_of_block (heap_new W2 zA rfl)) b3.size)).trans ((b3.block W2.heap.size (lt_of_block (heap_new W2 zA rfl))).trans (heap_new W2 zA rfl)))
    --END A
  case rest =>
    obtain ⟨xx, cc, r', vp', vs', bb, rfl, rfl, rfl, hal, Mc, hbb, hbx, hrl, hfp, hfs⟩ := hcut.ex
    clear hcut x0 x1 x2 x3 x4 x5 x6 y0 y1 y2
    have HMc := hide Mc
    obtain ⟨x0, x1, x2, x3, x4, x5, x6, y0, y1, y2⟩ := Mc.cells
    obtain ⟨r0, r1, r2, r3, r4, r5, r6⟩ := c7_of Mc.two.zr
    obtain ⟨f0, f1, f2, f3, f4, f5, f6⟩ := f7_of Mc.two.zr
    have hne1 : ¬ w.heap.size + 1 = w.heap.size := by omega
    clear Mc
    cases hal with
    | arg hc =>
      have HC := hide hc
      clear hc hbx hrl hfp hfs
      go_wp2
      go_region
      all_goals go_wp2
      all_goals
        refine bodyPost_ret (v := .tuple #[.int .i64 0, .int .i64 1, rhv q (.slice aot q.ty.length cpt) (.slice aop q.r.ps.length cpp) (.slice aos q.r.st.length cps) (.slice aoo q.ob.length cpo)]) ?_ rfl ?_
        · simp [results, Try.results12, go_sem, r0, r1, r2, r3, r4, r5, r6]
        · exact ⟨0, 1, q, _, _, _, rfl, .arg HC.out, HOut.same HR.out (below_set7 HMc.out.two.bel (Nat.le_succ _) _ _ _ _ _ _ _).drew⟩
    | full hc ha =>
      have HC := hide (And.intro hc ha)
      clear hc ha hbx hrl hfp hfs
      go_wp2
      go_region
      all_goals go_wp2
      all_goals
        refine bodyPost_ret (v := .tuple #[.int .i64 0, .int .i64 7, rhv q (.slice aot q.ty.length cpt) (.slice aop q.r.ps.length cpp) (.slice aos q.r.st.length cps) (.slice aoo q.ob.length cpo)]) ?_ rfl ?_
        · simp [results, Try.results12, go_sem, r0, r1, r2, r3, r4, r5, r6]
        · exact ⟨0, 7, q, _, _, _, rfl, .full HC.out.1 HC.out.2, HOut.same HR.out (below_set7 HMc.out.two.bel (Nat.le_succ _) _ _ _ _ _ _ _).drew⟩
    | made x s' _ _ _ hc ha hsim hfd =>
      obtain ⟨avp, cvp, hvp'⟩ := hrl.pform
      obtain ⟨avs, cvs, hvs'⟩ := hrl.sform
      subst hvp'
      subst hvs'
      obtain ⟨hob, hx65⟩ := hroom x s' hc ha
      have HMR := hide (MkR.made (h := h) (q := q) (t := t) (n := n) x s' r' hc ha hsim hfd)
      have z := lt_of_block HMc.out.bo
      have hbbl := lt_of_block hbx
      obtain ⟨W3, hW3⟩ : ∃ W3, (wc.setCell ⟨w.heap.size + 1 + 1, 0, none⟩ (.int .i64 (x : Int))).alloc (.cells #[] 82) = W3 := ⟨_, rfl⟩
      have z3 : W3.heap.size = wc.heap.size + 1 := by rw [← hW3]; simp
      have k3 : ∀ k, k < wc.heap.size → k ≠ w.heap.size + 1 + 1 → W3.heap[k]? = wc.heap[k]? := fun k h1 h2 => by rw [← hW3, Below.heap_alloc _ _ _ (by simpa using h1), Below.heap_setCell _ _ _ _ h2]
      have h03 : W3.heap[wc.heap.size]? = some (.cells #[] 82 (0, 0)) := by rw [← hW3, heap_new _ _ (by simp)]
      have o3 : W3.heap[w.heap.size + 1 + 1]? = some (.cells #[.int .i64 (x : Int), .int .i64 t, .int .i64 n] 82 (0, 0)) := by rw [← hW3, Below.heap_alloc _ _ _ (by simpa using z), heap_setCell_same _ _ _ _ HMc.out.bo]; rfl
      have hvo : ∀ k, (Value.slice aoo q.ob.length cpo).ownBlock = some k → k < w.heap.size := fun k hk => (HR.out.obs.lt k hk).2
      obtain ⟨i0, hi, hz0, hz1, hz2⟩ := info_parts Try.info82
      have hwb := HMc.out.two.bel
      have hwz := hwb.size
      have own3 : W3.ownsRow B 82 3 (.slice aoo q.ob.length cpo) q.ob.length (ocells q.ob) := ownsRow_keep HR.out.obs fun k hk => by
        have := hvo k hk
        rw [k3 k (by omega) (by omega), hwb.block k this]
      obtain ⟨v2, w4, hrun1, hown4, hgr4, hat4⟩ := run_copy 34 82 i0 _ 3 24 Try.underlying34 hi hz0 hz1 hz2 rfl (by decide) (by decide) h03 own3 (ocells_one _) (by omega)
      have z4 := hgr4.size
      have k4 : ∀ k, k < wc.heap.size → k ≠ w.heap.size + 1 + 1 → w4.heap[k]? = wc.heap[k]? := fun k h1 h2 => (hgr4.block k (by omega) (fun e => by simp at e; omega)).trans (k3 k h1 h2)
      have o4 := (hgr4.block (w.heap.size + 1 + 1) (by omega) (fun e => by simp at e; omega)).trans o3
      obtain ⟨W5, hW5⟩ : ∃ W5, w4.alloc (.cells #[.int .i64 (x : Int), .int .i64 t, .int .i64 n] 82) = W5 := ⟨_, rfl⟩
      have z5 : W5.heap.size = w4.heap.size + 1 := by rw [← hW5]; simp
      have h05 : W5.heap[w4.heap.size]? = some (.cells #[.int .i64 (x : Int), .int .i64 t, .int .i64 n] 82 (0, 0)) := by rw [← hW5, heap_new _ _ rfl]
      have own5 := hown4.alloc (.cells #[.int .i64 (x : Int), .int .i64 t, .int .i64 n] 82)
      rw [hW5] at own5
      obtain ⟨gg, cgg, w6, hrun2, hown6, hgr6, hat6, hlt6⟩ := run_append_lies (P := Try.prog) W5 34 34 wc.heap.size 82 i0 _ 3 24 Try.underlying34 hi hz0 hz1 hz2 rfl (by decide) v2 _ _ own5 ⟨w4.heap.size, 0, none⟩ 1 1 [.int .i64 (x : Int), .int .i64 t, .int .i64 n] rfl (World.news_of_block h05)
        (by intro u hu; simp at hu; rcases hu with rfl | rfl | rfl <;> rfl) (by decide) (by unfold maxLen; omega) (by omega) (by omega) _ rfl
      have z6 := hgr6.size
      have hv2 : ∀ k, v2.ownBlock = some k → wc.heap.size ≤ k := fun k hk => (hown4.lt k hk).1
      have k6 : ∀ k, k < wc.heap.size → k ≠ w.heap.size + 1 + 1 → w6.heap[k]? = wc.heap[k]? := fun k h1 h2 => by
        rw [hgr6.block k (by omega) (fun e => by have := hv2 k e.symm; omega), ← hW5, Below.heap_alloc _ _ _ (by omega), k4 k h1 h2]
      obtain ⟨y0', y1', y2'⟩ := c3_of o4
      have bx6 : Bx w6 w.heap.size q _ _ _ _ := (k6 _ (by omega) (by omega)).trans HMc.out.two.bx
      obtain ⟨u0, u1, u2, u3, u4, u5, u6⟩ := c7_of bx6
      obtain ⟨uf0, uf1, uf2, uf3, uf4, uf5, uf6⟩ := f7_of bx6
      have zr6 : Zr w6 (w.heap.size + 1) := (k6 _ (by omega) (by omega)).trans HMc.out.two.zr
      obtain ⟨r0', r1', r2', r3', r4', r5', r6'⟩ := c7_of zr6
      obtain ⟨f0', f1', f2', f3', f4', f5', f6'⟩ := f7_of zr6
      obtain ⟨⟨a0, a1, a2, a3, a4⟩, -⟩ := c5_of ((k6 bb hbbl (by omega)).trans hbx)
      obtain ⟨av2, cv2, hvv⟩ := owns_form hown4
      subst hvv
      have yf0 : wc.frozen? ⟨w.heap.size + 1 + 1, 0, none⟩ = false := by simp [World.frozen?, (show wc.heap[w.heap.size + 1 + 1]? = some _ from HMc.out.bo)]
      have c6 : W3.cell? ⟨w.heap.size, 6, none⟩ = some (.slice aoo q.ob.length cpo) := by
        have := x6; simp only [World.cell?] at this ⊢; rw [k3 w.heap.size (by omega) (by omega)]; exact this
      have hbb0 : ¬ bb = w.heap.size := by omega
      have hbb1 : ¬ bb = w.heap.size + 1 := by omega
      have hbel6 : Below w.heap.size w w6 := by
        refine Below.grown (?_ : Below w.heap.size w W5) hgr6 (by omega) (fun k hk => by have := hv2 k hk; omega)
        rw [← hW5]
        refine Below.alloc (Below.grown (?_ : Below w.heap.size w W3) hgr4 (by omega) (fun k hk => by simp at hk; omega)) (by omega) _
        rw [← hW3]
        exact (hwb.setCell (by simp; omega) _).alloc (by simp; omega) _
      have rl6 : RL B w6 r' (.slice avp r'.ps.length cvp) (.slice avs r'.st.length cvs) := hrl.keep
        (fun g hg => k6 g (hrl.pcs.lt g hg).2 (by rcases (hfp g hg).1 with h1 | h1; · have := (HR.out.rl.pcs.lt g h1).2; omega
                                                  · omega))
        (fun g hg => k6 g (hrl.sto.lt g hg).2 (by rcases (hfs g hg).1 with h1 | h1; · have := (HR.out.rl.sto.lt g h1).2; omega
                                                  · omega)) (by omega)
      obtain ⟨W7, hW7, bx7, zr7, hout⟩ := make_end (b := wc.heap.size) HR.out hbel6 bx6 zr6 (by omega) hown6 rl6 (fun g hg => (hfp g hg).1.imp id (fun h => by omega)) (fun g hg => (hfs g hg).1.imp id (fun h => by omega)) hob ht hn hx65
      have HE := hide (And.intro hW7 (And.intro bx7 (And.intro zr7 hout)))
      clear hbel6 rl6 hW7 bx7 zr7 hout
      have HRL := hide hrl
      have HX := hide (And.intro hbx (And.intro hfp hfs))
      have HA := hide (And.intro hc (And.intro ha (And.intro hsim hfd)))
      have HG := hide (And.intro hown6 (And.intro hgr6 (And.intro hat6 (And.intro k6 (And.intro hv2 (And.intro z6 (And.intro z4 (And.intro z5 z3))))))))
      have HW := hide (And.intro hW3 hW5)
      have HN := hide (And.intro z (And.intro hbbl (And.intro hwz hlt6)))
      clear hrl hbx hfp hfs hc ha hsim hfd hroom hown6 hgr6 hat6 k6 hv2 z6 z4 z5 z3 h03 o3 hvo hi hz0 hz1 hz2 hwb own3 hown4 hgr4 hat4 k4 o4 h05 own5 k3 bx6 zr6 z hbbl hwz hlt6
      subst hW3
      subst hW5
      go_wp2_with (at_builtin; first | (refine wpList_append_eq rfl _ _ 34 rfl rfl rfl hrun1 ?_; clear hrun1) | (refine wpList_append_eq rfl _ _ 34 rfl rfl rfl hrun2 ?_; clear hrun2))
      obtain ⟨hW7, bx7, zr7, hout⟩ := HE.out
      have hW7' := hW7
      unfold set5 at hW7'
      rw [hW7']
      clear hW7 hW7'
      obtain ⟨j0, j1, j2, j3, j4, j5, j6⟩ := c7_of bx7
      obtain ⟨s0, s1, s2, s3, s4, s5, s6⟩ := c7_of zr7
      obtain ⟨t0, t1, t2, t3, t4, t5, t6⟩ := f7_of zr7
      clear bx7 zr7
      have HOt := hide hout
      clear hout HE
      go_region
      all_goals go_wp2
      all_goals
        refine bodyPost_ret (v := .tuple #[.int .i64 x, .int .i64 0, rhv { q with r := r', ob := q.ob ++ [⟨x, t, n⟩] } (.slice aot q.ty.length cpt) (.slice avp r'.ps.length cvp) (.slice avs r'.st.length cvs) (.slice (some ⟨gg, 0, none⟩) (q.ob.length + 1) cgg)]) ?_ rfl ?_
        · simp [results, Try.results12, go_sem, s0, s1, s2, s3, s4, s5, s6]
        · exact ⟨x, 0, _, _, _, _, rfl, HMR.out, HOt.out _ _ _ _ _ _ _⟩
end
end Go.Proofs.Ytimpmgbahgganaa
