/- GcPlays: the law. -/
import Derived.Test.YtimpmgbahgganaaRhYJp
import Derived.Deep.CutRange
import Derived.Deep.CutBlock
import Derived.Deep.RegionHeld3
import Derived.Deep.DrawnRows
namespace Go.Proofs.Ytimpmgbahgganaa
open Go.RowKit Go.Maps
attribute [local go_sem ↓] Go.wp_at_zero Go.wp_at_succ
attribute [local go_sem] arr3_eq
section
variable {w : World}
theorem gnew_no {v : Value} {fs : List (List Int)} {n : Int} (R : LaysAt w v fs) (hc : checkB fs n = false) : Calls Try.prog 7 #[v, .int .i64 n] w fun e w' => e = .returned (.tuple #[.pointer none, .int .i64 1]) ∧ Below w.heap.size w w' := by
  by_cases hn : n < 0 ∨ 65536 < n
  · refine (gnew_err hn).mono ?_
    rintro e w' ⟨he, rfl⟩
    exact ⟨he, Below.refl _ _⟩
  · obtain ⟨m, rfl⟩ : ∃ m : Nat, n = m := ⟨n.toNat, by omega⟩
    have hs : soundL fs = false := by
      unfold checkB at hc
      rw [decide_eq_true (by omega), decide_eq_true (by omega), Bool.and_true, Bool.and_true] at hc
      exact hc
    exact gnew_bad (by omega) R hs
theorem sound_le {fs : List (List Int)} (h : soundL fs = true) : fs.length ≤ 1025 ∧ ∀ f ∈ fs, f.length ≤ 4096 := by
  unfold soundL at h
  rw [Bool.and_eq_true, decide_eq_true_eq, List.all_eq_true] at h
  refine ⟨h.1, fun f hf => ?_⟩
  have h2 := h.2 f hf
  unfold goodF at h2
  simp only [Bool.and_eq_true, decide_eq_true_eq] at h2
  exact h2.1
theorem tw_new {w3 w4 : World} {H : Nat} {h : Hs} {q : Rh} {vt vp vs : Value} (P : Hp w w3 H h 0) (hb : Below w3.heap.size w3 w4) (R : RH w.heap.size w4 q vt vp vs (.slice none 0 0)) (fp : ∀ g, vp.ownBlock = some g → w3.heap.size ≤ g) (fs : ∀ g, vs.ownBlock = some g → w3.heap.size ≤ g) (S : SimH h q) (L : LaysAt w vt q.ty) : Tw w w4 H h 0 h q vt vp vs (.slice none 0 0) [] := by
  obtain ⟨Y, e1, e2, LY⟩ := P.ex
  have hz := P.bel.size
  refine ⟨⟨vp.ownBlock.toList ++ vs.ownBlock.toList, ⟨⟨Y, e1, e2, LY.below hb, fun g hg => ?_⟩, P.inv, P.bel.trans (hb.mono hz)⟩, fun g hg => by (cases hg), fun g hg => ?_⟩, R, S, P.inv, L, fun g hg => by (cases hg)⟩
  · simp only [List.mem_append, Option.mem_toList] at hg
    rcases hg with hg | hg
    · have := fp g hg
      exact ⟨by omega, (R.rl.pcs.lt g hg).2, fun ho => by have := (LY.own_lt ho).2; omega⟩
    · have := fs g hg
      exact ⟨by omega, (R.rl.sto.lt g hg).2, fun ho => by have := (LY.own_lt ho).2; omega⟩
  · simp only [List.mem_append, Option.mem_toList]
    rcases hg with hg | hg | hg
    · exact .inl hg
    · exact .inr hg
    · cases hg
/-- At the head of the loop. -/
def Lp8 (w0 : World) (H mb : Nat) (vt : Value) (i : Nat) (wr : World) : Prop := ∃ (h : Hs) (k : Nat) (q : Rh) (vp vs vo : Value), Tw w0 wr H h k h q vt vp vs vo [mb] ∧ Bx wr mb q vt vp vs vo ∧ k ≤ 70000 * i ∧ q.r.fd + q.ob.length ≤ i
/-- Behind an operation. -/
def Sw8 (w0 : World) (H mb ob ab bb ty : Nat) (vt : Value) (oc : Array Value) (i : Nat) (f g : Value) (wc : World) : Prop := ∃ (h : Hs) (k : Nat) (q : Rh) (vp vs vo : Value) (c x0 x1 x2 : Int), f = .int .i64 c ∧ g = .int .i64 c ∧ Rd w0 wc H h k h q vt vp vs vo mb ob ab bb #[vt, .int .i64 q.r.wd, .int .i64 q.r.ln, vp, .int .i64 q.r.fd, vs, vo] oc #[.int .i64 x0, .int .i64 x1, .int .i64 x2] #[.int .i64 x0, .int .i64 x1, .int .i64 x2] ty ∧ k ≤ 70000 * (i + 1) ∧ q.r.fd + q.ob.length ≤ i + 1
/-- Behind the round's three boxes. -/
theorem rd_new {w5 : World} {H mb : Nat} {h : Hs} {k : Nat} {q : Rh} {vt vp vs vo : Value} {oc xa xb : Array Value} {ty : Nat} (T : Tw w w5 H h k h q vt vp vs vo [mb]) (hb : Bx w5 mb q vt vp vs vo) : Rd w (((w5.alloc (.cells oc 39)).alloc (.cells xa ty)).alloc (.cells xb ty)) H h k h q vt vp vs vo mb w5.heap.size (w5.heap.size + 1) (w5.heap.size + 1 + 1) #[vt, .int .i64 q.r.wd, .int .i64 q.r.ln, vp, .int .i64 q.r.fd, vs, vo] oc xa xb ty := by
  have hm := lt_of_block hb
  have T1 := T.alloc (.cells oc 39)
  have T2 := T1.alloc (.cells xa ty)
  have T3 := T2.alloc (.cells xb ty)
  rw [show ((w5.alloc (.cells oc 39)).alloc (.cells xa ty)).heap.size = w5.heap.size + 1 + 1 by simp, show (w5.alloc (.cells oc 39)).heap.size = w5.heap.size + 1 by simp] at T3
  have o1 : ∀ (W : World) (o : Obj) (g : Nat), g < W.heap.size → (W.alloc o).heap[g]? = W.heap[g]? := fun W o g hg => (Below.alloc (Below.refl W.heap.size W) (Nat.le_refl _) o).block g hg
  refine ⟨T3, ?_, ?_, ?_, ?_, by omega⟩
  · rw [o1 _ _ _ (by simp; omega), o1 _ _ _ (by simp; omega), o1 _ _ _ hm]; exact hb
  · rw [o1 _ _ _ (by simp; omega), o1 _ _ _ (by simp)]; exact heap_new _ _ rfl
  · rw [o1 _ _ _ (by simp)]; exact heap_new _ _ (by simp)
  · exact heap_new _ _ (by simp)
/-- The cells of a round. -/
theorem Rd.facts {w1 : World} {H mb ob ab bb ty : Nat} {hp h : Hs} {k : Nat} {q : Rh} {vt vp vs vo a0 a1 a2 a3 a4 a5 a6 c0 c1 c2 c3 x0 x1 x2 y0 y1 y2 : Value} (R : Rd w w1 H hp k h q vt vp vs vo mb ob ab bb #[a0, a1, a2, a3, a4, a5, a6] #[c0, c1, c2, c3] #[x0, x1, x2] #[y0, y1, y2] ty) :
    C7 w1 mb a0 a1 a2 a3 a4 a5 a6 ∧ F7 w1 mb ∧ (w1.cell? ⟨ob, 0, none⟩ = some c0 ∧ w1.cell? ⟨ob, 1, none⟩ = some c1 ∧ w1.cell? ⟨ob, 2, none⟩ = some c2 ∧ w1.cell? ⟨ob, 3, none⟩ = some c3) ∧ (w1.cell? ⟨ab, 0, none⟩ = some x0 ∧ w1.cell? ⟨ab, 1, none⟩ = some x1 ∧ w1.cell? ⟨ab, 2, none⟩ = some x2) ∧ (w1.cell? ⟨bb, 0, none⟩ = some y0 ∧ w1.cell? ⟨bb, 1, none⟩ = some y1 ∧ w1.cell? ⟨bb, 2, none⟩ = some y2) ∧ F7 w1 ab ∧ F7 w1 bb := by
  have h1 := R.bo
  exact ⟨c7_of R.bm, f7_of R.bm, by simp [World.cell?, h1], c3_of R.ba, c3_of R.b2, f7_of R.ba, f7_of R.b2⟩
/-- At the loop's end. -/
structure Lq (w0 w1 : World) (H mb : Nat) (h : Hs) (k : Nat) (q : Rh) (vt vp vs vo : Value) : Prop where
  T : Tw w0 w1 H h k h q vt vp vs vo [mb]
  bm : Bx w1 mb q vt vp vs vo
theorem Lq.under {w1 w' : World} {H mb : Nat} {h : Hs} {k : Nat} {q : Rh} {vt vp vs vo : Value} (R : Lq w w1 H mb h k q vt vp vs vo) (hb : Below w1.heap.size w1 w') : Lq w w' H mb h k q vt vp vs vo := ⟨R.T.under hb, (R.T.same hb mb (by simp)).trans R.bm⟩
theorem lq_seven {w1 : World} {H mb : Nat} {h : Hs} {k : Nat} {q : Rh} {vt vp vs vo : Value} (R : Lq w w1 H mb h k q vt vp vs vo) : w1.cell? ⟨mb, 0, none⟩ = some vt ∧ w1.cell? ⟨mb, 1, none⟩ = some (.int .i64 q.r.wd) ∧ w1.cell? ⟨mb, 2, none⟩ = some (.int .i64 q.r.ln) ∧ w1.cell? ⟨mb, 3, none⟩ = some vp ∧ w1.cell? ⟨mb, 4, none⟩ = some (.int .i64 q.r.fd) ∧ w1.cell? ⟨mb, 5, none⟩ = some vs ∧ w1.cell? ⟨mb, 6, none⟩ = some vo := by
  obtain ⟨h0, h1, h2, h3, h4, h5, h6⟩ := c7_of R.bm
  exact ⟨h0, h1, h2, h3, h4, h5, h6⟩
/-- To the next round. -/
theorem Rd.lp {w1 : World} {H mb ob ab bb ty : Nat} {h : Hs} {k : Nat} {q : Rh} {vt vp vs vo : Value} {oc xa xb : Array Value} {i : Nat} (R : Rd w w1 H h k h q vt vp vs vo mb ob ab bb #[vt, .int .i64 q.r.wd, .int .i64 q.r.ln, vp, .int .i64 q.r.fd, vs, vo] oc xa xb ty) (hk : k ≤ 70000 * i) (hf : q.r.fd + q.ob.length ≤ i) : Lp8 w H mb vt i w1 :=
  ⟨h, k, q, vp, vs, vo, R.T.sub (fun g hg => by simp at hg; subst hg; simp), R.bm, hk, hf⟩
theorem live_len {w1 : World} {H : Nat} {hp h : Hs} {k : Nat} {q : Rh} {vt vp vs vo : Value} {fb : List Nat} (T : Tw w w1 H hp k h q vt vp vs vo fb) : (liveL h.s.ps).length ≤ 70000 := by
  have h1 := liveL_le h.s.ps h.s.ps.length
  rw [List.take_length] at h1
  have h2 := T.inv.inv.pieces
  omega
theorem row_below {w1 w2 : World} {B : Nat} {e : TypeId} {size n : Nat} {v : Value} {xs : List Value} (h : w1.ownsRow B e size v n xs) (hb : Below w1.heap.size w1 w2) : w2.ownsRow B e size v n xs := ownsRow_keep h fun k hk => hb.block k (h.lt k hk).2
theorem rd_seven {w1 : World} {H mb ob ab bb ty : Nat} {hp h : Hs} {k : Nat} {q : Rh} {vt vp vs vo a0 a1 a2 a3 a4 a5 a6 : Value} {oc xa xb : Array Value} (R : Rd w w1 H hp k h q vt vp vs vo mb ob ab bb #[a0, a1, a2, a3, a4, a5, a6] oc xa xb ty) : w1.cell? ⟨mb, 0, none⟩ = some a0 ∧ w1.cell? ⟨mb, 1, none⟩ = some a1 ∧ w1.cell? ⟨mb, 2, none⟩ = some a2 ∧ w1.cell? ⟨mb, 3, none⟩ = some a3 ∧ w1.cell? ⟨mb, 4, none⟩ = some a4 ∧ w1.cell? ⟨mb, 5, none⟩ = some a5 ∧ w1.cell? ⟨mb, 6, none⟩ = some a6 := by
  obtain ⟨h0, h1, h2, h3, h4, h5, h6⟩ := c7_of R.bm
  exact ⟨h0, h1, h2, h3, h4, h5, h6⟩
set_option maxRecDepth 100000 in
set_option maxHeartbeats 20000000 in
theorem plays_law {vt v : Value} {fs : List (List Int)} {l : List Op8D} (n : Int) (L : LaysAt w vt fs) (hv : Scr8 w v l) : Calls Try.prog 3 #[vt, .int .i64 n, v] w fun e w' => e = .returned (.bool true) ∧ Below w.heap.size w w' := by
  obtain ⟨aot, cpt, hvt, hLt⟩ := L
  have HL := hide (show LaysAt w vt fs from ⟨aot, cpt, hvt, hLt⟩)
  subst hvt
  obtain ⟨ao, cp, rfl, hops⟩ := hv
  have HOPS := hide hops
  clear hops hLt
  generalize hn0 : l.length = n0 at *
  have HN0 := hide hn0
  obtain ⟨tn, htn⟩ : ∃ t, fs.length = t := ⟨_, rfl⟩
  rw [htn] at HL ⊢
  have HTN := hide htn
  clear hn0 htn
  go_enter Try.func3, Try.ntmps3
  go_upto_region 1 with (fail)
  go_cut [22] from 17 to 21 (fun v wc => Hid (wc = w ∧ ∃ b : Bool, v = .bool b))
  case first =>
    by_cases h1 : 3000 < n
    · have d1 : decide (3000 < n) = true := by simpa using h1
      go_wp2_with fail
      go_meet
      exact hide ⟨rfl, _, rfl⟩
    · have d1 : decide (3000 < n) = false := by simpa using h1
      go_wp2_with fail
      go_meet
      exact hide ⟨rfl, _, rfl⟩
  case rest =>
    obtain ⟨hwc, b, hb⟩ := hcut.out
    rw [hwc, hb]
    clear hcut hwc hb
    go_upto_if 22 with (fail)
    go_cut [1] from 23 to 24 (fun v wc => Hid (∃ n' : Int, v = .int .i64 n' ∧ wc = w))
    case first =>
      cases b with
      | true =>
        go_wp2_with fail
        go_meet
        exact hide ⟨_, rfl, rfl⟩
      | false =>
        go_wp2_with fail
        go_meet
        exact hide ⟨_, rfl, rfl⟩
    case rest =>
      obtain ⟨n', hv1, hwc⟩ := hcut.out
      rw [hv1, hwc]
      clear hcut hv1 hwc
      cases hck : checkB fs n' with
      | false =>
        have HNO := hide (gnew_no HL.out hck)
        go_wp2_with fail
        refine HNO.out.mono ?_
        rintro e w1 ⟨rfl, hb1⟩
        have HB1 := hide hb1
        have HCK := hide (rcheck_any (HL.out.below hb1) n')
        rw [hck] at HCK
        clear hb1 HNO
        go_wp2_with fail
        refine HCK.out.mono ?_
        rintro e w2 ⟨rfl, rfl⟩
        have HAW := hide (awake_any w2)
        go_wp2_with fail
        refine HAW.out.mono ?_
        rintro e w3 ⟨rfl, hb3⟩
        have HB3 := hide (HB1.out.trans (hb3.mono HB1.out.size))
        clear hb3
        go_wp2_with fail
        go_ret
        exact ⟨rfl, HB3.out⟩
      | true =>
        obtain ⟨m, hm⟩ : ∃ m : Nat, n' = m := ⟨n'.toNat, by unfold checkB at hck; simp only [Bool.and_eq_true, decide_eq_true_eq] at hck; omega⟩
        subst hm
        have hm6 : m ≤ 65536 := by unfold checkB at hck; simp only [Bool.and_eq_true, decide_eq_true_eq] at hck; omega
        have hso : soundL fs = true := by unfold checkB at hck; simp only [Bool.and_eq_true, decide_eq_true_eq] at hck; exact hck.1
        have HSO := hide hso
        have HNW := hide (hp_new hm6 HL.out hso)
        go_wp2_with fail
        refine HNW.out.mono ?_
        rintro e w1 ⟨H, rfl, HP⟩
        have HCK := hide (rcheck_any (HL.out.below HP.out.bel) (m : Int))
        rw [hck] at HCK
        clear HNW hck hso
        go_wp2_with fail
        refine HCK.out.mono ?_
        rintro e w2 ⟨rfl, hw2⟩
        rw [hw2]
        clear hw2 HCK
        have HAW := hide (awake_any w1)
        go_wp2_with fail
        refine HAW.out.mono ?_
        rintro e w3 ⟨rfl, hb3⟩
        have HP3 := hide (HP.out.under hb3)
        clear hb3 HAW HP
        have HSND := hide (show fs.length ≤ 1025 ∧ ∀ f ∈ fs, f.length ≤ 4096 from sound_le HSO.out)
        have HRN := hide (rnewh_any (B := w.heap.size) (HL.out.below HP3.out.bel) HSND.out.1 HSND.out.2 hm6 HP3.out.bel.size)
        go_wp2_with fail
        refine HRN.out.mono ?_
        rintro e w4 ⟨vp, vs, rfl, hRH, hb4, hfp, hfs⟩
        have HTW := hide (tw_new HP3.out hb4 hRH.out hfp hfs ⟨rfl, sim_new m, fun a t n => ⟨fun h => (by cases h), fun ⟨j, hj⟩ => by simp [newQ] at hj⟩, by simp [newQ]⟩ HL.out)
        obtain ⟨apn, cpn, hvpn⟩ := hRH.out.rl.pform
        obtain ⟨asn, csn, hvsn⟩ := hRH.out.rl.sform
        have HQ0 := hide (show (newQ fs m).r.fd = 0 ∧ (newQ fs m).ob.length = 0 ∧ (newQ fs m).ty.length = tn from ⟨rfl, rfl, HTN.out⟩)
        clear hRH hb4 hfp hfs HRN HP3
        subst hvpn hvsn
        have HTA := hide (HTW.out.alloc (.cells #[.slice aot tn cpt, .int .i64 (newQ fs m).r.wd, .int .i64 (newQ fs m).r.ln, .slice apn (newQ fs m).r.ps.length cpn, .int .i64 (newQ fs m).r.fd, .slice asn (newQ fs m).r.st.length csn, .slice none 0 0] 36))
        have HBX := hide (show Bx (w4.alloc (.cells #[.slice aot tn cpt, .int .i64 (newQ fs m).r.wd, .int .i64 (newQ fs m).r.ln, .slice apn (newQ fs m).r.ps.length cpn, .int .i64 (newQ fs m).r.fd, .slice asn (newQ fs m).r.st.length csn, .slice none 0 0] 36)) w4.heap.size (newQ fs m) (.slice aot tn cpt) (.slice apn (newQ fs m).r.ps.length cpn) (.slice asn (newQ fs m).r.st.length csn) (.slice none 0 0) from bx_new _ _ _ _ _ _)
        generalize newQ fs m = q0 at *
        generalize newH fs m = h0 at *
        go_wp2
        generalize w4.heap.size = mb at *
        have HLP := hide (show Lp8 w H mb (.slice aot tn cpt) 0 _ from ⟨_, _, _, _, _, _, HTA.out, HBX.out, Nat.zero_le _, by rw [HQ0.out.1, HQ0.out.2.1]; exact Nat.le_refl _⟩)
        clear HTA HBX HTW HQ0
        go_loopw [11] (fun iv wr => ∃ i : Nat, i ≤ 200 ∧ i ≤ n0 ∧ iv = .int .i64 i ∧ Hid (Lp8 w H mb (.slice aot tn cpt) i wr)) (fun iv _ => n0 - (intOf iv).toNat)
        case atStart => exact ⟨0, Nat.zero_le _, Nat.zero_le _, rfl, HLP⟩
        case round =>
          obtain ⟨i, hi2, hin, rfl, HI⟩ := hrel
          obtain ⟨w5, hw5⟩ : ∃ W, W = wr := ⟨_, rfl⟩
          subst hw5
          clear HLP
          obtain ⟨h, k, q, vp, vs, vo, hT, hbx, hk, hfd⟩ := HI.out
          obtain ⟨aop, cpp, hvp⟩ := hT.rh.rl.pform
          obtain ⟨aos, cps, hvs⟩ := hT.rh.rl.sform
          obtain ⟨aoo, cpo, hvo⟩ := hT.rh.oform
          subst hvp hvs hvo
          have HT := hide hT
          have HBX := hide hbx
          have HK := hide hk
          have HFD := hide hfd
          clear hT hbx hk hfd HI
          by_cases hlt : i < n0 ∧ i < 200
          · have d1 : decide (i < n0) = true := decide_eq_true hlt.1
            have d1' : (i : Int) < (n0 : Int) := by omega
            have d2 : decide ((i : Int) < 200) = true := decide_eq_true (by omega)
            obtain ⟨o, ho⟩ : ∃ o, l[i]? = some o := ⟨l[i]'(by rw [HN0.out]; exact hlt.1), by simp⟩
            obtain ⟨bo, off, hao, hbo, c0, c1, c2, c3, hrs, hrl, hox, hoy⟩ := HOPS.out i o ho
            subst hao
            obtain ⟨ar, cr, hvr⟩ : ∃ a c, o.vr = .slice a o.rs.length c := by obtain ⟨a, c, h1, _⟩ := hrs; exact ⟨a, c, h1⟩
            rw [hvr] at c3 hrs
            have HRS := hide hrs
            have HRL := hide hrl
            have HOX := hide (And.intro hox hoy)
            have hb5 := HT.out.bel
            have hbo5 : bo < w5.heap.size := Nat.lt_of_lt_of_le hbo hb5.size
            have e0 := (hb5.cell (p := ⟨bo, off + i * 4, none⟩) hbo).trans c0
            have e1 := (hb5.cell (p := ⟨bo, off + i * 4 + 1, none⟩) hbo).trans c1
            have e2 := (hb5.cell (p := ⟨bo, off + i * 4 + 2, none⟩) hbo).trans c2
            have e3 := (hb5.cell (p := ⟨bo, off + i * 4 + 3, none⟩) hbo).trans c3
            clear c0 c1 c2 c3 hvr hrs hrl hox hoy hbo hb5 ho
            have hii : (i : Int) ≤ 200 := by omega
            go_upto_region 16 with (fail)
            have HR := hide (rd_new (oc := #[.int .i64 o.k, .int .i64 o.x, .int .i64 o.y, .slice ar o.rs.length cr]) (xa := #[.int .i64 0, .int .i64 0, .int .i64 0]) (xb := #[.int .i64 0, .int .i64 0, .int .i64 0]) (ty := 40) HT.out HBX.out)
            have HB0 := hide HT.out.bel
            clear HT HBX e0 e1 e2 e3 hbo5
            generalize ((w5.alloc (.cells #[.int .i64 o.k, .int .i64 o.x, .int .i64 o.y, .slice ar o.rs.length cr] 39)).alloc (.cells #[.int .i64 0, .int .i64 0, .int .i64 0] 40)).alloc (.cells #[.int .i64 0, .int .i64 0, .int .i64 0] 40) = W6 at *
            generalize w5.heap.size + 1 + 1 = bb at *
            generalize w5.heap.size + 1 = ab at *
            generalize w5.heap.size = ob at *
            obtain ⟨n1, n2, n3, n4, n5, n6⟩ := HR.out.ne
            have n3' := Ne.symm n3
            obtain ⟨_, _, ⟨g0, g1, g2, g3⟩, _⟩ := HR.out.facts
            go_upto_block 2 with (fail)
            clear g0 g1 g2 g3
            go_cut [15, 16] from 73 to 181 (fun f g wc => Sw8 w H mb ob ab bb 40 (.slice aot tn cpt) #[.int .i64 o.k, .int .i64 o.x, .int .i64 o.y, .slice ar o.rs.length cr] i f g wc)
            case first =>
              by_cases hk1 : o.k = 1
              · have yk1 : (o.k == 1) = true := by simpa using hk1
                clear hk1
                have PC := hide (tw_make HR.out.T o.x o.y (by have := HK.out; omega))
                obtain ⟨⟨m0, m1, m2, m3, m4, m5, m6⟩, ⟨f0, f1, f2, f3, f4, f5, f6⟩, ⟨g0, g1, g2, g3⟩, ⟨r0, r1, r2⟩, ⟨s0, s1, s2⟩, ⟨p0, p1, p2, -, -, -, -⟩, ⟨t0, t1, t2, -, -, -, -⟩⟩ := HR.out.facts
                go_upto_region 20 with (fail)
                go_wp2_with fail
                refine PC.out.mono ?_
                rintro e w6 ⟨x, c, h', rfl, hh⟩
                have HM := hide hh.out.1
                have HR1 := hide (HR.out.call hh.out.2.1 hh.out.2.2)
                clear PC hh
                clear m0 m1 m2 m3 m4 m5 m6 f0 f1 f2 f3 f4 f5 f6 g0 g1 g2 g3 r0 r1 r2 s0 s1 s2 p0 p1 p2 t0 t1 t2
                obtain ⟨⟨m0, m1, m2, m3, m4, m5, m6⟩, ⟨f0, f1, f2, f3, f4, f5, f6⟩, ⟨g0, g1, g2, g3⟩, ⟨r0, r1, r2⟩, ⟨s0, s1, s2⟩, ⟨p0, p1, p2, -, -, -, -⟩, ⟨t0, t1, t2, -, -, -, -⟩⟩ := HR1.out.facts
                go_upto_region 21 with (fail)
                have HR2 := hide (HR1.out.setA 0 (.int .i64 x))
                clear m0 m1 m2 m3 m4 m5 m6 f0 f1 f2 f3 f4 f5 f6 g0 g1 g2 g3 r0 r1 r2 s0 s1 s2 p0 p1 p2 t0 t1 t2
                clear HR1
                generalize w6.setCell ⟨ab, 0, none⟩ (.int .i64 x) = w7 at *
                have DC := hide (tr_make HR2.out.T HM.out)
                obtain ⟨⟨m0, m1, m2, m3, m4, m5, m6⟩, ⟨f0, f1, f2, f3, f4, f5, f6⟩, ⟨g0, g1, g2, g3⟩, ⟨r0, r1, r2⟩, ⟨s0, s1, s2⟩, ⟨p0, p1, p2, -, -, -, -⟩, ⟨t0, t1, t2, -, -, -, -⟩⟩ := HR2.out.facts
                go_wp2_with fail
                refine DC.out.mono ?_
                rintro e w8 ⟨q2, vp2, vs2, vo2, rfl, hh2⟩
                replace hh2 := hh2.out
                obtain ⟨aop2, cpp2, hvp2⟩ := hh2.1.rh.rl.pform
                obtain ⟨aos2, cps2, hvs2⟩ := hh2.1.rh.rl.sform
                obtain ⟨aoo2, cpo2, hvo2⟩ := hh2.1.rh.oform
                subst hvp2 hvs2 hvo2
                have HFD2 := hide hh2.2.1
                have HR3 := hide (HR2.out.call hh2.1 hh2.2.2)
                clear DC hh2 HM HR2
                clear m0 m1 m2 m3 m4 m5 m6 f0 f1 f2 f3 f4 f5 f6 g0 g1 g2 g3 r0 r1 r2 s0 s1 s2 p0 p1 p2 t0 t1 t2
                obtain ⟨⟨m0, m1, m2, m3, m4, m5, m6⟩, ⟨f0, f1, f2, f3, f4, f5, f6⟩, ⟨g0, g1, g2, g3⟩, ⟨r0, r1, r2⟩, ⟨s0, s1, s2⟩, ⟨p0, p1, p2, -, -, -, -⟩, ⟨t0, t1, t2, -, -, -, -⟩⟩ := HR3.out.facts
                go_wp2
                go_meet
                exact ⟨_, _, q2, _, _, _, c, x, 0, 0, rfl, rfl, (HR3.out.setB 0 (.int .i64 x)).setM _ _ _ _ _ _ _, by have := HK.out; omega, by have := HFD.out; have := HFD2.out; omega⟩
              · have nk1 : (o.k == 1) = false := by simpa using hk1
                clear hk1
                by_cases hk2 : o.k = 2
                · have yk2 : (o.k == 2) = true := by simpa using hk2
                  clear hk2
                  have PC := hide (tw_get HR.out.T HOX.out.1)
                  generalize hgx : getHP h o.x = gx at PC
                  have HGX := hide hgx
                  clear hgx
                  obtain ⟨⟨m0, m1, m2, m3, m4, m5, m6⟩, ⟨f0, f1, f2, f3, f4, f5, f6⟩, ⟨g0, g1, g2, g3⟩, ⟨r0, r1, r2⟩, ⟨s0, s1, s2⟩, ⟨p0, p1, p2, -, -, -, -⟩, ⟨t0, t1, t2, -, -, -, -⟩⟩ := HR.out.facts
                  go_wp2_with fail
                  refine PC.out.mono ?_
                  rintro e w6 ⟨rfl, hh⟩
                  have HR1 := hide (HR.out.call hh.out.1 hh.out.2)
                  clear PC hh
                  clear m0 m1 m2 m3 m4 m5 m6 f0 f1 f2 f3 f4 f5 f6 g0 g1 g2 g3 r0 r1 r2 s0 s1 s2 p0 p1 p2 t0 t1 t2
                  obtain ⟨⟨m0, m1, m2, m3, m4, m5, m6⟩, ⟨f0, f1, f2, f3, f4, f5, f6⟩, ⟨g0, g1, g2, g3⟩, ⟨r0, r1, r2⟩, ⟨s0, s1, s2⟩, ⟨p0, p1, p2, -, -, -, -⟩, ⟨t0, t1, t2, -, -, -, -⟩⟩ := HR1.out.facts
                  go_upto_region 24 with (fail)
                  have HR2 := hide (HR1.out.setA 0 (.int .i64 gx.1))
                  clear m0 m1 m2 m3 m4 m5 m6 f0 f1 f2 f3 f4 f5 f6 g0 g1 g2 g3 r0 r1 r2 s0 s1 s2 p0 p1 p2 t0 t1 t2
                  clear HR1
                  generalize w6.setCell ⟨ab, 0, none⟩ (.int .i64 gx.1) = w7 at *
                  have DC := hide (tr_get HR2.out.T o.x)
                  rw [HGX.out] at DC
                  obtain ⟨⟨m0, m1, m2, m3, m4, m5, m6⟩, ⟨f0, f1, f2, f3, f4, f5, f6⟩, ⟨g0, g1, g2, g3⟩, ⟨r0, r1, r2⟩, ⟨s0, s1, s2⟩, ⟨p0, p1, p2, -, -, -, -⟩, ⟨t0, t1, t2, -, -, -, -⟩⟩ := HR2.out.facts
                  go_wp2_with fail
                  refine DC.out.mono ?_
                  rintro e w8 ⟨rfl, hh2⟩
                  have HR3 := hide (HR2.out.call hh2.out.1 hh2.out.2)
                  clear DC hh2 HR2
                  clear m0 m1 m2 m3 m4 m5 m6 f0 f1 f2 f3 f4 f5 f6 g0 g1 g2 g3 r0 r1 r2 s0 s1 s2 p0 p1 p2 t0 t1 t2
                  obtain ⟨⟨m0, m1, m2, m3, m4, m5, m6⟩, ⟨f0, f1, f2, f3, f4, f5, f6⟩, ⟨g0, g1, g2, g3⟩, ⟨r0, r1, r2⟩, ⟨s0, s1, s2⟩, ⟨p0, p1, p2, -, -, -, -⟩, ⟨t0, t1, t2, -, -, -, -⟩⟩ := HR3.out.facts
                  go_wp2
                  go_meet
                  exact ⟨_, _, q, _, _, _, gx.2, gx.1, 0, 0, rfl, rfl, HR3.out.setB 0 (.int .i64 gx.1), by have := HK.out; omega, by have := HFD.out; omega⟩
                · have nk2 : (o.k == 2) = false := by simpa using hk2
                  clear hk2
                  by_cases hk3 : o.k = 3
                  · have yk3 : (o.k == 3) = true := by simpa using hk3
                    clear hk3
                    have PC := hide (tw_set HR.out.T HOX.out.1 HOX.out.2)
                    generalize hgx : setHP h o.x o.y = gx at PC
                    have HGX := hide hgx
                    clear hgx
                    obtain ⟨⟨m0, m1, m2, m3, m4, m5, m6⟩, ⟨f0, f1, f2, f3, f4, f5, f6⟩, ⟨g0, g1, g2, g3⟩, ⟨r0, r1, r2⟩, ⟨s0, s1, s2⟩, ⟨p0, p1, p2, -, -, -, -⟩, ⟨t0, t1, t2, -, -, -, -⟩⟩ := HR.out.facts
                    go_wp2_with fail
                    refine PC.out.mono ?_
                    rintro e w6 ⟨rfl, hh⟩
                    have HR1 := hide (HR.out.call hh.out.1 hh.out.2)
                    clear PC hh
                    clear m0 m1 m2 m3 m4 m5 m6 f0 f1 f2 f3 f4 f5 f6 g0 g1 g2 g3 r0 r1 r2 s0 s1 s2 p0 p1 p2 t0 t1 t2
                    have DC := hide (tr_set (x := o.x) HR1.out.T HOX.out.2)
                    rw [HGX.out] at DC
                    obtain ⟨⟨m0, m1, m2, m3, m4, m5, m6⟩, ⟨f0, f1, f2, f3, f4, f5, f6⟩, ⟨g0, g1, g2, g3⟩, ⟨r0, r1, r2⟩, ⟨s0, s1, s2⟩, ⟨p0, p1, p2, -, -, -, -⟩, ⟨t0, t1, t2, -, -, -, -⟩⟩ := HR1.out.facts
                    go_wp2_with fail
                    refine DC.out.mono ?_
                    rintro e w8 ⟨q2, vp2, vs2, rfl, hh2⟩
                    replace hh2 := hh2.out
                    obtain ⟨aop2, cpp2, hvp2⟩ := hh2.1.rh.rl.pform
                    obtain ⟨aos2, cps2, hvs2⟩ := hh2.1.rh.rl.sform
                    subst hvp2 hvs2
                    have HFD2 := hide hh2.2.1
                    have HR3 := hide (HR1.out.call hh2.1 hh2.2.2)
                    clear DC hh2 HR1
                    clear m0 m1 m2 m3 m4 m5 m6 f0 f1 f2 f3 f4 f5 f6 g0 g1 g2 g3 r0 r1 r2 s0 s1 s2 p0 p1 p2 t0 t1 t2
                    obtain ⟨⟨m0, m1, m2, m3, m4, m5, m6⟩, ⟨f0, f1, f2, f3, f4, f5, f6⟩, ⟨g0, g1, g2, g3⟩, ⟨r0, r1, r2⟩, ⟨s0, s1, s2⟩, ⟨p0, p1, p2, -, -, -, -⟩, ⟨t0, t1, t2, -, -, -, -⟩⟩ := HR3.out.facts
                    go_wp2
                    go_meet
                    exact ⟨_, _, q2, _, _, _, gx.1, 0, 0, 0, rfl, rfl, HR3.out.setM _ _ _ _ _ _ _, by have := HK.out; omega, by have := HFD.out; have := HFD2.out; omega⟩
                  · have nk3 : (o.k == 3) = false := by simpa using hk3
                    clear hk3
                    by_cases hk4 : o.k = 4
                    · have yk4 : (o.k == 4) = true := by simpa using hk4
                      clear hk4
                      have PC := hide (tw_base HR.out.T HOX.out.1)
                      obtain ⟨⟨m0, m1, m2, m3, m4, m5, m6⟩, ⟨f0, f1, f2, f3, f4, f5, f6⟩, ⟨g0, g1, g2, g3⟩, ⟨r0, r1, r2⟩, ⟨s0, s1, s2⟩, ⟨p0, p1, p2, -, -, -, -⟩, ⟨t0, t1, t2, -, -, -, -⟩⟩ := HR.out.facts
                      go_wp2_with fail
                      refine PC.out.mono ?_
                      rintro e w6 ⟨xa, xt, xn, c, rfl, hh⟩
                      have HM := hide hh.out.1
                      have HR1 := hide (HR.out.call hh.out.2.1 hh.out.2.2)
                      clear PC hh
                      clear m0 m1 m2 m3 m4 m5 m6 f0 f1 f2 f3 f4 f5 f6 g0 g1 g2 g3 r0 r1 r2 s0 s1 s2 p0 p1 p2 t0 t1 t2
                      obtain ⟨⟨m0, m1, m2, m3, m4, m5, m6⟩, ⟨f0, f1, f2, f3, f4, f5, f6⟩, ⟨g0, g1, g2, g3⟩, ⟨r0, r1, r2⟩, ⟨s0, s1, s2⟩, ⟨p0, p1, p2, -, -, -, -⟩, ⟨t0, t1, t2, -, -, -, -⟩⟩ := HR1.out.facts
                      go_upto_region 30 with (fail)
                      have HR2 := hide (((HR1.out.setA 0 (.int .i64 xa)).setA 1 (.int .i64 xt)).setA 2 (.int .i64 xn))
                      clear m0 m1 m2 m3 m4 m5 m6 f0 f1 f2 f3 f4 f5 f6 g0 g1 g2 g3 r0 r1 r2 s0 s1 s2 p0 p1 p2 t0 t1 t2
                      clear HR1
                      generalize ((w6.setCell ⟨ab, 0, none⟩ (.int .i64 xa)).setCell ⟨ab, 1, none⟩ (.int .i64 xt)).setCell ⟨ab, 2, none⟩ (.int .i64 xn) = w7 at *
                      have DC := hide (tr_base HR2.out.T HM.out)
                      obtain ⟨⟨m0, m1, m2, m3, m4, m5, m6⟩, ⟨f0, f1, f2, f3, f4, f5, f6⟩, ⟨g0, g1, g2, g3⟩, ⟨r0, r1, r2⟩, ⟨s0, s1, s2⟩, ⟨p0, p1, p2, -, -, -, -⟩, ⟨t0, t1, t2, -, -, -, -⟩⟩ := HR2.out.facts
                      go_wp2_with fail
                      refine DC.out.mono ?_
                      rintro e w8 ⟨rfl, hh2⟩
                      have HR3 := hide (HR2.out.call hh2.out.1 hh2.out.2)
                      clear DC hh2 HM HR2
                      clear m0 m1 m2 m3 m4 m5 m6 f0 f1 f2 f3 f4 f5 f6 g0 g1 g2 g3 r0 r1 r2 s0 s1 s2 p0 p1 p2 t0 t1 t2
                      obtain ⟨⟨m0, m1, m2, m3, m4, m5, m6⟩, ⟨f0, f1, f2, f3, f4, f5, f6⟩, ⟨g0, g1, g2, g3⟩, ⟨r0, r1, r2⟩, ⟨s0, s1, s2⟩, ⟨p0, p1, p2, -, -, -, -⟩, ⟨t0, t1, t2, -, -, -, -⟩⟩ := HR3.out.facts
                      go_wp2
                      go_meet
                      exact ⟨_, _, q, _, _, _, c, xa, xt, xn, rfl, rfl, ((HR3.out.setB 0 (.int .i64 xa)).setB 1 (.int .i64 xt)).setB 2 (.int .i64 xn), by have := HK.out; omega, by have := HFD.out; omega⟩
                    · have nk4 : (o.k == 4) = false := by simpa using hk4
                      clear hk4
                      by_cases hk5 : o.k = 5
                      · have yk5 : (o.k == 5) = true := by simpa using hk5
                        clear hk5
                        have PC := hide (tw_collect HR.out.T (HRS.out.below HR.out.T.bel) HRL.out (by have := HK.out; omega))
                        obtain ⟨⟨m0, m1, m2, m3, m4, m5, m6⟩, ⟨f0, f1, f2, f3, f4, f5, f6⟩, ⟨g0, g1, g2, g3⟩, ⟨r0, r1, r2⟩, ⟨s0, s1, s2⟩, ⟨p0, p1, p2, -, -, -, -⟩, ⟨t0, t1, t2, -, -, -, -⟩⟩ := HR.out.facts
                        go_wp2_with fail
                        refine PC.out.mono ?_
                        rintro e w6 ⟨x, c, h', rfl, hh⟩
                        have HM := hide hh.out.1
                        have HR1 := hide (HR.out.call hh.out.2.1 hh.out.2.2)
                        clear PC hh
                        clear m0 m1 m2 m3 m4 m5 m6 f0 f1 f2 f3 f4 f5 f6 g0 g1 g2 g3 r0 r1 r2 s0 s1 s2 p0 p1 p2 t0 t1 t2
                        obtain ⟨⟨m0, m1, m2, m3, m4, m5, m6⟩, ⟨f0, f1, f2, f3, f4, f5, f6⟩, ⟨g0, g1, g2, g3⟩, ⟨r0, r1, r2⟩, ⟨s0, s1, s2⟩, ⟨p0, p1, p2, -, -, -, -⟩, ⟨t0, t1, t2, -, -, -, -⟩⟩ := HR1.out.facts
                        go_upto_region 33 with (fail)
                        have HR2 := hide (HR1.out.setA 0 (.int .i64 x))
                        clear m0 m1 m2 m3 m4 m5 m6 f0 f1 f2 f3 f4 f5 f6 g0 g1 g2 g3 r0 r1 r2 s0 s1 s2 p0 p1 p2 t0 t1 t2
                        clear HR1
                        generalize w6.setCell ⟨ab, 0, none⟩ (.int .i64 x) = w7 at *
                        have DC := hide (tr_collect HR2.out.T (HRS.out.below HR2.out.T.bel) HRL.out (by have := HFD.out; omega) HM.out)
                        obtain ⟨⟨m0, m1, m2, m3, m4, m5, m6⟩, ⟨f0, f1, f2, f3, f4, f5, f6⟩, ⟨g0, g1, g2, g3⟩, ⟨r0, r1, r2⟩, ⟨s0, s1, s2⟩, ⟨p0, p1, p2, -, -, -, -⟩, ⟨t0, t1, t2, -, -, -, -⟩⟩ := HR2.out.facts
                        go_wp2_with fail
                        refine DC.out.mono ?_
                        rintro e w8 ⟨q2, vp2, vs2, vo2, rfl, hh2⟩
                        replace hh2 := hh2.out
                        obtain ⟨aop2, cpp2, hvp2⟩ := hh2.1.rh.rl.pform
                        obtain ⟨aos2, cps2, hvs2⟩ := hh2.1.rh.rl.sform
                        obtain ⟨aoo2, cpo2, hvo2⟩ := hh2.1.rh.oform
                        subst hvp2 hvs2 hvo2
                        have HFD2 := hide hh2.2.1
                        have HR3 := hide (HR2.out.call hh2.1 hh2.2.2)
                        clear DC hh2 HM HR2
                        clear m0 m1 m2 m3 m4 m5 m6 f0 f1 f2 f3 f4 f5 f6 g0 g1 g2 g3 r0 r1 r2 s0 s1 s2 p0 p1 p2 t0 t1 t2
                        obtain ⟨⟨m0, m1, m2, m3, m4, m5, m6⟩, ⟨f0, f1, f2, f3, f4, f5, f6⟩, ⟨g0, g1, g2, g3⟩, ⟨r0, r1, r2⟩, ⟨s0, s1, s2⟩, ⟨p0, p1, p2, -, -, -, -⟩, ⟨t0, t1, t2, -, -, -, -⟩⟩ := HR3.out.facts
                        go_wp2
                        go_meet
                        exact ⟨_, _, q2, _, _, _, c, x, 0, 0, rfl, rfl, (HR3.out.setB 0 (.int .i64 x)).setM _ _ _ _ _ _ _, by have := HK.out; omega, by have := HFD.out; have := HFD2.out; omega⟩
                      · have nk5 : (o.k == 5) = false := by simpa using hk5
                        clear hk5
                        obtain ⟨⟨m0, m1, m2, m3, m4, m5, m6⟩, ⟨f0, f1, f2, f3, f4, f5, f6⟩, ⟨g0, g1, g2, g3⟩, ⟨r0, r1, r2⟩, ⟨s0, s1, s2⟩, ⟨p0, p1, p2, -, -, -, -⟩, ⟨t0, t1, t2, -, -, -, -⟩⟩ := HR.out.facts
                        go_wp2_with fail
                        have t1 := hide (tw_live (HR.out.under (w' := W6.drew) ((Below.refl _ _).drew)).T (by have := HK.out; omega))
                        have hle := hide (live_len HR.out.T)
                        go_region_held3 (fun w' => w'.cell? ⟨mb, 0, none⟩ = some (.slice aot tn cpt) ∧ w'.cell? ⟨mb, 1, none⟩ = some (.int .i64 q.r.wd) ∧ w'.cell? ⟨mb, 2, none⟩ = some (.int .i64 q.r.ln) ∧ w'.cell? ⟨mb, 3, none⟩ = some (.slice aop q.r.ps.length cpp) ∧ w'.cell? ⟨mb, 4, none⟩ = some (.int .i64 q.r.fd) ∧ w'.cell? ⟨mb, 5, none⟩ = some (.slice aos q.r.st.length cps) ∧ w'.cell? ⟨mb, 6, none⟩ = some (.slice aoo q.ob.length cpo)) (first | go_keep | exact k9 | exact k8 | exact k7 | exact ⟨m0, m1, m2, m3, m4, m5, m6⟩)
                          (first
                            | (go_at_call 22; refine t1.out.mono ?_; rintro e w7 ⟨ao7, cap7, rfl, hh7⟩; have R7 := hide hh7.out.1; have H7 := hide ((HR.out.under (w' := W6.drew) ((Below.refl _ _).drew)).under hh7.out.2.1); have k7 := rd_seven H7.out; clear hh7)
                            | (have kk := H7; clear kk; go_at_call 23; refine (tr_live H7.out.T).mono ?_; rintro e w8 ⟨ao8, cap8, rfl, hh8⟩; have R8 := hide hh8.out.1; have R78 := hide (row_below R7.out hh8.out.2.1); have H8 := hide (H7.out.under hh8.out.2.1); have k8 := rd_seven H8.out; clear hh8)
                            | (have kk := H8; clear kk; go_at_call 21; refine (same_any R78.out R8.out hle.out).mono ?_; rintro e w9 ⟨rfl, d9⟩; have H9 := hide (H8.out.under d9); have k9 := rd_seven H9.out; clear d9))
                        clear t1 R7 R8 R78 H7 H8 k7 k8 k9
                        clear m0 m1 m2 m3 m4 m5 m6 f0 f1 f2 f3 f4 f5 f6 g0 g1 g2 g3 r0 r1 r2 s0 s1 s2 p0 p1 p2 t0 t1 t2
                        go_wp2
                        go_meet
                        exact ⟨_, _, q, _, _, _, 0, 0, 0, 0, rfl, rfl, H9.out, by have := HK.out; omega, by have := HFD.out; omega⟩
            case rest =>
              obtain ⟨h2, k2, q2, vp2, vs2, vo2, c, x0, x1, x2, rfl, rfl, hR, hk2, hf2⟩ := hcut
              have HLP := hide (hR.lp hk2 hf2)
              obtain ⟨-, -, -, ⟨r0, r1, r2⟩, ⟨s0, s1, s2⟩, -, -⟩ := hR.facts
              clear hR HR
              go_wp2
              go_roundw
              case rel => exact ⟨i + 1, by omega, by omega, by go_num, HLP⟩
              case measure => simp [intOf]; omega
          · have hd : (decide (i < n0) = false ∧ decide ((i : Int) < (n0 : Int)) = false) ∨ (decide (i < n0) = true ∧ decide ((i : Int) < (n0 : Int)) = true ∧ decide (i < 200) = false ∧ decide ((i : Int) < 200) = false) := by
              by_cases h1 : i < n0
              · right; simp; omega
              · left; simp; omega
            have HR := hide (show Lq w w5 H mb h k q (.slice aot tn cpt) (.slice aop q.r.ps.length cpp) (.slice aos q.r.st.length cps) (.slice aoo q.ob.length cpo) from ⟨HT.out, HBX.out⟩)
            clear HT HBX HOPS
            obtain ⟨m0, m1, m2, m3, m4, m5, m6⟩ := c7_of HR.out.bm
            rcases hd with ⟨d1, d1'⟩ | ⟨d1, d1', d2, d2'⟩
            all_goals
              go_wp2_with fail
              have t1 := hide (tw_live (HR.out.under (w' := w5.drew) ((Below.refl _ _).drew)).T (by have := HK.out; omega))
              have hle := hide (live_len HR.out.T)
              go_region_held3 (fun w' => w'.cell? ⟨mb, 0, none⟩ = some (.slice aot tn cpt) ∧ w'.cell? ⟨mb, 1, none⟩ = some (.int .i64 q.r.wd) ∧ w'.cell? ⟨mb, 2, none⟩ = some (.int .i64 q.r.ln) ∧ w'.cell? ⟨mb, 3, none⟩ = some (.slice aop q.r.ps.length cpp) ∧ w'.cell? ⟨mb, 4, none⟩ = some (.int .i64 q.r.fd) ∧ w'.cell? ⟨mb, 5, none⟩ = some (.slice aos q.r.st.length cps) ∧ w'.cell? ⟨mb, 6, none⟩ = some (.slice aoo q.ob.length cpo)) (first | go_keep | exact k9 | exact k8 | exact k7 | exact ⟨m0, m1, m2, m3, m4, m5, m6⟩)
                (first
                  | (go_at_call 22; refine t1.out.mono ?_; rintro e w7 ⟨ao7, cap7, rfl, hh7⟩; have R7 := hide hh7.out.1; have H7 := hide ((HR.out.under (w' := w5.drew) ((Below.refl _ _).drew)).under hh7.out.2.1); have k7 := lq_seven H7.out; clear hh7)
                  | (have kk := H7; clear kk; go_at_call 23; refine (tr_live H7.out.T).mono ?_; rintro e w8 ⟨ao8, cap8, rfl, hh8⟩; have R8 := hide hh8.out.1; have R78 := hide (row_below R7.out hh8.out.2.1); have H8 := hide (H7.out.under hh8.out.2.1); have k8 := lq_seven H8.out; clear hh8)
                  | (have kk := H8; clear kk; go_at_call 21; refine (same_any R78.out R8.out hle.out).mono ?_; rintro e w9 ⟨rfl, d9⟩; have H9 := hide (H8.out.under d9); have k9 := lq_seven H9.out; clear d9))
              go_wp2
              go_ret
              exact ⟨rfl, H9.out.T.bel⟩
end
end Go.Proofs.Ytimpmgbahgganaa
