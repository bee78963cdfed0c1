/- The law StackPlays. -/
import Derived.Test.YtjapfckadikjiaaRsK
import Derived.Deep.CutBlock
namespace Go.Proofs.Ytjapfckadikjiaa
open Go.RowKit
/-- An operation of the script. -/
structure OpD where
  k : Int
  x : Int
  y : Int
  vp : Value
  ps : List Bool
/-- A script that lies in memory. -/
def Scr (w : World) (v : Value) (l : List OpD) : Prop := ∃ ao cap, v = .slice ao l.length cap ∧ ∀ (j : Nat) (o : OpD), l[j]? = some o → ∃ b off, ao = some ⟨b, off, none⟩ ∧ b < w.heap.size ∧
  w.cell? ⟨b, off + j * 4, none⟩ = some (.int .i64 o.k) ∧ w.cell? ⟨b, off + j * 4 + 1, none⟩ = some (.int .i64 o.x) ∧ w.cell? ⟨b, off + j * 4 + 2, none⟩ = some (.int .i64 o.y) ∧ w.cell? ⟨b, off + j * 4 + 3, none⟩ = some o.vp ∧
  BoolsR w o.vp o.ps ∧ (∃ ap cp, o.vp = .slice ap o.ps.length cp ∧ o.ps.length ≤ cp ∧ cp ≤ maxLen) ∧ o.x ≤ 9223372036854775807 ∧ o.y ≤ 9223372036854775807
section
variable {W w w' : World} {vf : Value} {s s' : Sk} {A bm bo : Nat} {oc : Array Value}
theorem BoolsR.at {v : Value} {ps : List Bool} (h : BoolsR W v ps) (hb : Below W.heap.size W w) : BoolsR w v ps := by
  obtain ⟨ao, cap, h1, h2⟩ := h
  refine ⟨ao, cap, h1, fun i q hq => ?_⟩
  obtain ⟨b, off, h3, h4, h5⟩ := h2 i q hq
  exact ⟨b, off, h3, Nat.lt_of_lt_of_le h4 hb.size, (hb.cell (p := ⟨b, off + i, none⟩) h4).trans h5⟩
theorem BoolsR.bools {v : Value} {ps : List Bool} (h : BoolsR W v ps) (hb : Below W.heap.size W w) : Bools W w v ps := by
  obtain ⟨ao, cap, h1, h2⟩ := h
  cases ps with
  | nil => exact .inl ⟨rfl, ao, cap, h1⟩
  | cons p r =>
    obtain ⟨b, off, h3, h4, _⟩ := h2 0 p rfl
    subst h3
    refine .inr ⟨b, off, cap, h1, Nat.lt_of_lt_of_le h4 hb.size, .inl h4, fun i q hq => ?_⟩
    obtain ⟨b', off', e, _, h5⟩ := h2 i q hq
    cases e
    exact (hb.cell (p := ⟨b, off + i, none⟩) h4).trans h5
theorem BoolsR.cut {ao : Option Addr} {cap : Nat} {ps : List Bool} (h : BoolsR W (.slice ao ps.length cap) ps) {n : Nat} (hn : n ≤ ps.length) : BoolsR W (.slice ao n cap) (ps.take n) := by
  obtain ⟨ao', cap', h1, h2⟩ := h
  cases h1
  refine ⟨ao, cap, by rw [List.length_take, Nat.min_eq_left hn], fun i q hq => h2 i q ?_⟩
  rw [List.getElem?_take] at hq
  split at hq
  · exact hq
  · cases hq
/-- Both stacks at the head of the law's loop. -/
structure Hh (W w : World) (A bm : Nat) (s : Sk) (vf : Value) : Prop where
  st : Has W w A s
  bx : w.heap[bm]? = some (.cells #[.int .i64 s.base, .int .i64 s.most, vf] 31 (0, 0))
  rc : ∃ g, Rc W.heap.size w vf g s.fr
  lo : W.heap.size ≤ bm
theorem Hh.op (H : Hh W w A bm s vf) (oc : Array Value) : Hf W (w.alloc (.cells oc 34)) A bm w.heap.size oc s s vf := by
  have hb : Below w.heap.size w (w.alloc (.cells oc 34)) := (Below.refl _ _).alloc (Nat.le_refl _) _
  obtain ⟨g, R⟩ := H.rc
  exact ⟨H.st.below hb, (hb.block _ (lt_of_block H.bx)).trans H.bx, heap_new _ _ rfl, ⟨g, R.below hb⟩, H.st.inv, H.lo, H.st.bel.size⟩
theorem Hf.hh (H : Hf W w A bm bo oc s s vf) : Hh W w A bm s vf := ⟨H.st, H.bx, H.rc, H.lo.1⟩
theorem Hf.vlen (H : Hf W w A bm bo oc s s' vf) : ∃ ao cap, vf = .slice ao s.fr.length cap := by
  obtain ⟨g, R⟩ := H.rc
  obtain ⟨ao, cap, h, _⟩ := row_form R.row
  exact ⟨ao, cap, h⟩
theorem rpush_any (w : World) (H : Hf W w A bm bo oc s s' vf) {v : Value} {ps : List Bool} (hv : BoolsR w v ps) (hps : ps.length ≤ 1000) :
    Calls Try.prog 11 #[rv s vf, v] w fun e w' => ROut W.heap.size w (pushP s ps).1 (pushP s ps).2 e w' := by
  obtain ⟨g, R⟩ := H.rc
  unfold pushP
  cases hk : pushOk s ps.length with
  | true => exact rpush_ok w R H.inv H.st.bel.size hv hps hk
  | false => exact rpush_full w R H.inv hv hps hk
theorem rpop_any (w : World) (H : Hf W w A bm bo oc s s' vf) : Calls Try.prog 13 #[rv s vf] w fun e w' => ROut W.heap.size w (popP s).1 (popP s).2 e w' := by
  obtain ⟨g, R⟩ := H.rc
  by_cases hn : s.fr.length = 0
  · have := rpop_none w R (List.eq_nil_of_length_eq_zero hn)
    rw [show popP s = (6, s) by unfold popP; rw [if_pos hn]]; exact this
  · exact rpop_some w R H.inv H.st.bel.size (n := s.fr.length - 1) (by omega)
theorem rset_two (w : World) (H : Hf W w A bm bo oc s s' vf) (x v : Int) (hx : x ≤ 9223372036854775807) : Calls Try.prog 19 #[rv s vf, .int .i64 x, .int .i64 v] w fun e w' => ROut W.heap.size w (setP s x v).1 (setP s x v).2 e w' := by
  obtain ⟨g, R⟩ := H.rc
  exact rset_any x v w R H.inv H.st.bel.size hx
theorem rmove_any (w : World) (H : Hf W w A bm bo oc s s' vf) (b : Int) : Calls Try.prog 21 #[rv s vf, .int .i64 b] w fun e w' => ROut3 W.heap.size w (moveP s b).1 (moveP s b).2 e w' := by
  obtain ⟨g, R⟩ := H.rc
  unfold moveP
  cases hb : allowB b with
  | true => exact rmove_ok w R H.inv H.st.bel.size hb
  | false => exact rmove_arg w R hb
theorem rget_two (w : World) (H : Hf W w A bm bo oc s s' vf) (x : Int) (hx : x ≤ 9223372036854775807) : Calls Try.prog 17 #[rv s vf, .int .i64 x] w fun e w' => e = two (getP s x) ∧ Below w.heap.size w w' := by
  obtain ⟨g, R⟩ := H.rc
  exact rget_any x w R H.inv hx
theorem raddr_two (w : World) (H : Hf W w A bm bo oc s s' vf) (x y : Int) : Calls Try.prog 15 #[rv s vf, .int .i64 x, .int .i64 y] w fun e w' => e = two (addrP s x y) ∧ Below w.heap.size w w' := by
  obtain ⟨g, R⟩ := H.rc
  exact raddr_any x y w R H.inv
/-- The program's sizes. -/
theorem Hf.frames (H : Hf W w A bm bo oc s s' vf) : Calls Try.prog 23 #[ptr A] w fun e w' => ∃ v, e = .returned v ∧ w'.ownsRow w.heap.size 3 1 v (lensP s').length (addrs (lensP s')) ∧ Hf W w' A bm bo oc s s' vf ∧ Below w.heap.size w w' := by
  obtain ⟨X, h1, h2, h3, h4, h5⟩ := H.st
  rw [← h1]
  refine (frames_any w h3 h5).mono ?_
  rintro e w' ⟨rfl, hl, hb⟩
  have hf := h5.few
  refine ⟨_, rfl, ⟨by simp [addrs], .inr ⟨w.heap.size, s'.fr.length, (addrs (lensP s')).toArray, by rw [lens_len], Nat.le_refl _, hl, by rw [lens_len]; exact Nat.le_refl _, by unfold maxLen; omega, by simp [addrs, lensP], by rw [Nat.mul_one]; exact List.take_of_length_le (by simp [addrs])⟩⟩, h1 ▸ H.below hb, hb⟩
theorem rsizes_two (w : World) (H : Hf W w A bm bo oc s s' vf) : Calls Try.prog 24 #[rv s vf] w fun e w' => ∃ v, e = .returned v ∧ w'.ownsRow w.heap.size 3 1 v (lensP s).length (addrs (lensP s)) ∧ Hf W w' A bm bo oc s s' vf ∧ Below w.heap.size w w' := by
  obtain ⟨g, R⟩ := H.rc
  refine (rsizes_any w R H.inv).mono ?_
  rintro e w' ⟨v, rfl, hr, hb⟩
  exact ⟨v, rfl, by rw [lens_len]; exact hr, H.below hb, hb⟩
theorem row_below {B : Nat} {e : TypeId} {size n : Nat} {v : Value} {xs : List Value} (h : w.ownsRow B e size v n xs) (hb : Below w.heap.size w w') : w'.ownsRow B e size v n xs := ownsRow_keep h fun k hk => hb.block k (h.lt k hk).2
theorem Hf.drew (H : Hf W w A bm bo oc s s' vf) : Hf W w.drew A bm bo oc s s' vf := H.below ((Below.refl _ _).drew)
/-- The law's variables. -/
theorem Hf.cells {c0 c1 c2 c3 : Value} (H : Hf W w A bm bo #[c0, c1, c2, c3] s s' vf) : (w.cell? ⟨bm, 0, none⟩ = some (.int .i64 s.base) ∧ w.cell? ⟨bm, 1, none⟩ = some (.int .i64 s.most) ∧ w.cell? ⟨bm, 2, none⟩ = some vf) ∧ (w.frozen? ⟨bm, 0, none⟩ = false ∧ w.frozen? ⟨bm, 1, none⟩ = false ∧ w.frozen? ⟨bm, 2, none⟩ = false) ∧
    w.cell? ⟨bo, 0, none⟩ = some c0 ∧ w.cell? ⟨bo, 1, none⟩ = some c1 ∧ w.cell? ⟨bo, 2, none⟩ = some c2 ∧ w.cell? ⟨bo, 3, none⟩ = some c3 := by
  obtain ⟨x0, x1, x2, f0, f1, f2⟩ := box_facts H.bx
  exact ⟨⟨x0, x1, x2⟩, ⟨f0, f1, f2⟩, cell_of H.op, cell_of H.op, cell_of H.op, cell_of H.op⟩
end
/-- What holds behind the cutting of an operation's list. -/
structure Oq (W w : World) (A bm bo : Nat) (o : OpD) (s : Sk) (vf : Value) : Prop where
  ex : ∃ (ps' : List Bool) (vp' : Value), BoolsR W vp' ps' ∧ ps'.length ≤ 1000 ∧ Hf W w A bm bo #[.int .i64 o.k, .int .i64 o.x, .int .i64 o.y, vp'] s s vf
/-- What holds behind an operation. -/
structure Sq (W w : World) (A bm bo : Nat) (oc : Array Value) (x y f g : Value) : Prop where
  ex : ∃ (s2 : Sk) (vf2 : Value) (p1 p2 : Int), x = .int .i64 p1 ∧ y = .int .i64 p1 ∧ f = .int .i64 p2 ∧ g = .int .i64 p2 ∧ Hid (Hf W w A bm bo oc s2 s2 vf2)
/-- What holds at the head of the law's loop. -/
structure Lp (W w : World) (A bm n0 : Nat) (vi : Value) : Prop where
  ex : ∃ (j : Nat) (s : Sk) (vf : Value), vi = .int .i64 j ∧ j ≤ 100 ∧ j ≤ n0 ∧ Hh W w A bm s vf
set_option maxRecDepth 100000 in
set_option maxHeartbeats 40000000 in
theorem plays_law (b m : Int) (v : Value) (l : List OpD) (w : World) (hv : Scr w v l) : Calls Try.prog 3 #[.int .i64 b, .int .i64 m, v] w fun e w' => e = .returned (.bool true) ∧ Below w.heap.size w w' := by
  obtain ⟨ao, cp, rfl, hops⟩ := hv
  have HOPS := hide hops
  clear hops
  generalize hn0 : l.length = n0 at *
  have HN0 := hide hn0
  clear hn0
  cases hnew : newB b m with
  | false =>
    have hne := hide (new_err b m w hnew)
    have hck := hide (rcheck_any b w)
    have hm : allowB b = false ∨ allowB b = true ∧ (m < 0 ∨ 0 ≤ m ∧ 65536 < m) := by
      cases hb : allowB b with
      | false => exact .inl rfl
      | true =>
        right
        unfold newB at hnew
        rw [hb, Bool.true_and] at hnew
        have := of_decide_eq_false hnew
        exact ⟨rfl, by omega⟩
    clear hnew HOPS HN0
    rcases hm with hm | ⟨hb, hm | ⟨hm0, hm⟩⟩
    · have hck' := hck.out
      rw [hm] at hck'
      clear hck hm
      go_enter Try.func3, Try.ntmps3
      go_wp2_with (first | (go_at_call 7; refine hne.out.mono ?_; rintro e w1 ⟨rfl, rfl⟩) | (go_at_call 8; refine hck'.mono ?_; rintro e w2 ⟨rfl, rfl⟩) | (go_at_call 9; refine (awake_any _).mono ?_; rintro e w3 ⟨rfl, d3⟩))
      go_ret
      exact ⟨rfl, d3⟩
    · have hck' := hck.out
      rw [hb] at hck'
      have d1 : decide (0 ≤ m) = false := by simp; omega
      clear hck hb
      go_enter Try.func3, Try.ntmps3
      go_wp2_with (first | (go_at_call 7; refine hne.out.mono ?_; rintro e w1 ⟨rfl, rfl⟩) | (go_at_call 8; refine hck'.mono ?_; rintro e w2 ⟨rfl, rfl⟩) | (go_at_call 9; refine (awake_any _).mono ?_; rintro e w3 ⟨rfl, d3⟩))
      go_ret
      exact ⟨rfl, d3⟩
    · have hck' := hck.out
      rw [hb] at hck'
      have d1 : decide (0 ≤ m) = true := by simpa using hm0
      have d2 : decide (m ≤ 65536) = false := by simp; omega
      clear hck hb
      go_enter Try.func3, Try.ntmps3
      go_wp2_with (first | (go_at_call 7; refine hne.out.mono ?_; rintro e w1 ⟨rfl, rfl⟩) | (go_at_call 8; refine hck'.mono ?_; rintro e w2 ⟨rfl, rfl⟩) | (go_at_call 9; refine (awake_any _).mono ?_; rintro e w3 ⟨rfl, d3⟩))
      go_ret
      exact ⟨rfl, d3⟩
  | true =>
    have hne := hide (has_new b m w hnew)
    have hb : allowB b = true ∧ 0 ≤ m ∧ m ≤ 65536 := by unfold newB at hnew; simp at hnew; exact hnew
    have d1 : decide (0 ≤ m) = true := by simpa using hb.2.1
    have d2 : decide (m ≤ 65536) = true := by simpa using hb.2.2
    have hck : ∀ w1 : World, Calls Try.prog 8 #[.int .i64 b] w1 fun e w' => e = .returned (.bool true) ∧ w' = w1 := fun w1 => by have := rcheck_any b w1; rw [hb.1] at this; exact this
    have HCK := hide hck
    clear hck hb hnew
    go_enter Try.func3, Try.ntmps3
    go_wp2_with fail
    refine hne.out.mono ?_
    rintro e w1 ⟨rfl, H1⟩
    have H1h := hide H1
    clear hne H1
    go_wp2_with fail
    refine (HCK.out w1).mono ?_
    rintro e w1' ⟨rfl, rfl⟩
    go_wp2_with fail
    refine (awake_any w1').mono ?_
    rintro e w2 ⟨rfl, d2'⟩
    have H2 := hide (H1h.out.below d2')
    clear H1h d2' HCK
    have HST := hide (show Hh w (w2.alloc (.cells #[.int .i64 b, .int .i64 m, .slice none 0 0] 31)) w.heap.size w2.heap.size (newS b m) (.slice none 0 0) from
      ⟨H2.out.below ((Below.refl _ _).alloc (Nat.le_refl _) _), heap_new _ _ rfl, ⟨fun _ => .slice none 0 0, ⟨⟨rfl, .inl ⟨rfl, rfl⟩⟩, fun i f hf => by simp [newS] at hf, fun i j hi => by simp [newS] at hi⟩⟩, H2.out.bel.size⟩)
    obtain ⟨bm, hbm⟩ : ∃ bm, w2.heap.size = bm := ⟨_, rfl⟩
    have HBM := hide hbm
    clear H2 hbm
    go_wp2
    rw [HBM.out] at HST ⊢
    go_loopw [11] (fun vi wr => Lp w wr w.heap.size bm n0 vi) (fun vi _ => 100 - (intOf vi).toNat)
    case atStart => exact ⟨0, newS b m, .slice none 0 0, rfl, by omega, Nat.zero_le _, HST.out⟩
    case round =>
      obtain ⟨j, s, vf, rfl, hj100, hjn, HH⟩ := hrel.ex
      clear hrel HST
      have H := hide HH
      have B0 := hide HH.st.bel
      clear HH
      by_cases hlt : j < n0 ∧ j < 100
      · have d3 : decide (j < n0) = true := by simpa using hlt.1
        have d4 : decide (j < 100) = true := by simpa using hlt.2
        have bj : (j : Int) < (n0 : Int) := by omega
        have bj2 : (j : Int) < 100 := by omega
        obtain ⟨o, ho⟩ : ∃ o, l[j]? = some o := ⟨l[j]'(by rw [HN0.out]; exact hlt.1), by simp⟩
        obtain ⟨ob, off, rfl, hobl, o0, o1, o2, o3, hbr, hpl, hox, hoy⟩ := HOPS.out j o ho
        have x0 : wr.cell? ⟨ob, off + j * 4, none⟩ = some (.int .i64 o.k) := (B0.out.cell (p := ⟨ob, off + j * 4, none⟩) hobl).trans o0
        have x1 : wr.cell? ⟨ob, off + j * 4 + 1, none⟩ = some (.int .i64 o.x) := (B0.out.cell (p := ⟨ob, off + j * 4 + 1, none⟩) hobl).trans o1
        have x2 : wr.cell? ⟨ob, off + j * 4 + 2, none⟩ = some (.int .i64 o.y) := (B0.out.cell (p := ⟨ob, off + j * 4 + 2, none⟩) hobl).trans o2
        have x3 : wr.cell? ⟨ob, off + j * 4 + 3, none⟩ = some o.vp := (B0.out.cell (p := ⟨ob, off + j * 4 + 3, none⟩) hobl).trans o3
        obtain ⟨ap, cpp, hvp0, hpl, hpl2⟩ := hpl
        rw [hvp0] at x3 hbr
        have HBR := hide hbr
        unfold maxLen at hpl2
        have bpl : (o.ps.length : Int) ≤ 9223372036854775807 := by omega
        clear o0 o1 o2 o3 ho hvp0 hbr
        have HOP := hide (fun vp' : Value => H.out.op #[.int .i64 o.k, .int .i64 o.x, .int .i64 o.y, vp'])
        have HNE := hide (show wr.heap.size ≠ bm by have := lt_of_block H.out.bx; omega)
        go_upto_if 71 with (fail)
        go_cut [] from 54 to 185 (fun wc => Oq w wc w.heap.size bm wr.heap.size o s vf)
        case first =>
          by_cases hc : 1000 < o.ps.length
          · have d5 : decide (1000 < (o.ps.length : Int)) = true := by simp; omega
            have d6 : decide (1000 < o.ps.length) = true := by simpa using hc
            have bcp : (1000 : Int) ≤ (cpp : Int) := by omega
            have bcp2 : (cpp : Int) ≤ 9223372036854775807 := by omega
            have HX := hide (show Oq w (wr.alloc (.cells #[.int .i64 o.k, .int .i64 o.x, .int .i64 o.y, .slice ap 1000 cpp] 34)) w.heap.size bm wr.heap.size o s vf from ⟨o.ps.take 1000, .slice ap 1000 cpp, HBR.out.cut (by omega), by rw [List.length_take]; omega, HOP.out _⟩)
            generalize o.ps.length = pl at *
            go_wp2
            go_meet
            case rel => exact HX.out
          · have d5 : decide (1000 < (o.ps.length : Int)) = false := by simp; omega
            have d6 : decide (1000 < o.ps.length) = false := by simpa using hc
            have HX := hide (show Oq w (wr.alloc (.cells #[.int .i64 o.k, .int .i64 o.x, .int .i64 o.y, .slice ap o.ps.length cpp] 34)) w.heap.size bm wr.heap.size o s vf from ⟨o.ps, .slice ap o.ps.length cpp, HBR.out, by omega, HOP.out _⟩)
            generalize o.ps.length = pl at *
            go_wp2
            go_meet
            case rel => exact HX.out
        case rest =>
          obtain ⟨ps', vp', hvp0, hps', HO0⟩ := hcut.ex
          have hvp := hide hvp0
          have HO := hide HO0
          clear hcut hvp0 HO0 HOP HBR x0 x1 x2 x3
          obtain ⟨⟨m0, m1, m2⟩, -, c0, c1, c2, c3⟩ := HO.out.cells
          go_upto_block 2 with (fail)
          go_cut [13, 14, 15, 16] from 54 to 185 (fun x y f g wc' => Sq w wc' w.heap.size bm wr.heap.size #[.int .i64 o.k, .int .i64 o.x, .int .i64 o.y, vp'] x y f g)
          case first =>
            by_cases hk1 : o.k = 1
            · rw [hk1]
              have pc := hide (HO.out.push (hvp.out.bools HO.out.st.bel) (by omega))
              obtain ⟨pr, hpr⟩ : ∃ pr, pushP s ps' = pr := ⟨_, rfl⟩
              have HPR := hide hpr
              rw [hpr] at pc
              clear hpr
              obtain ⟨p2, s2⟩ := pr
              go_wp2_with fail
              refine pc.out.mono ?_
              rintro e w3 ⟨rfl, h3⟩
              have H3 := hide h3
              obtain ⟨⟨b0, b1, b2⟩, ⟨f0, f1, f2⟩, b3, b4, b5, b6⟩ := h3.cells
              have dc := hide (rpush_any _ H3.out (hvp.out.at H3.out.st.bel) hps')
              rw [HPR.out] at dc
              clear pc h3 c0 c1 c2 c3 m0 m1 m2
              go_wp2_with fail
              refine dc.out.mono ?_
              rintro e w4 ⟨vf2, g2, rfl, R4, d4⟩
              have h4 := H3.out.below d4
              obtain ⟨⟨e0, e1, e2⟩, ⟨q0, q1, q2⟩, _⟩ := h4.cells
              obtain ⟨av, pv, hv2, _⟩ := row_form R4.row
              subst hv2
              have H5 := hide (H3.out.give d4 R4 HNE.out)
              clear dc d4 R4 h4 b0 b1 b2 b3 b4 b5 b6 f0 f1 f2 H3
              go_wp2
              go_meet
              case rel => exact ⟨s2, _, 0, p2, rfl, rfl, rfl, rfl, H5⟩
            · have nk1 : (o.k == 1) = false := by simpa using hk1
              by_cases hk2 : o.k = 2
              · rw [hk2]
                have pc := hide (HO.out.pop)
                obtain ⟨pr, hpr⟩ : ∃ pr, popP s = pr := ⟨_, rfl⟩
                have HPR := hide hpr
                rw [hpr] at pc
                clear hpr
                obtain ⟨p2, s2⟩ := pr
                go_wp2_with fail
                refine pc.out.mono ?_
                rintro e w3 ⟨rfl, h3⟩
                have H3 := hide h3
                obtain ⟨⟨b0, b1, b2⟩, ⟨f0, f1, f2⟩, b3, b4, b5, b6⟩ := h3.cells
                have dc := hide (rpop_any _ H3.out)
                rw [HPR.out] at dc
                clear pc h3 c0 c1 c2 c3 m0 m1 m2
                go_wp2_with fail
                refine dc.out.mono ?_
                rintro e w4 ⟨vf2, g2, rfl, R4, d4⟩
                have h4 := H3.out.below d4
                obtain ⟨⟨e0, e1, e2⟩, ⟨q0, q1, q2⟩, _⟩ := h4.cells
                obtain ⟨av, pv, hv2, _⟩ := row_form R4.row
                subst hv2
                have H5 := hide (H3.out.give d4 R4 HNE.out)
                clear dc d4 R4 h4 b0 b1 b2 b3 b4 b5 b6 f0 f1 f2 H3
                go_wp2
                go_meet
                case rel => exact ⟨s2, _, 0, p2, rfl, rfl, rfl, rfl, H5⟩
              · have nk2 : (o.k == 2) = false := by simpa using hk2
                by_cases hk3 : o.k = 3
                · rw [hk3]
                  have pc := hide (HO.out.addr o.x o.y)
                  obtain ⟨pr, hpr⟩ : ∃ pr, addrP s o.x o.y = pr := ⟨_, rfl⟩
                  have HPR := hide hpr
                  rw [hpr] at pc
                  clear hpr
                  obtain ⟨p1, p2⟩ := pr
                  go_wp2_with fail
                  refine pc.out.mono ?_
                  rintro e w3 ⟨rfl, h3⟩
                  have H3 := hide h3
                  obtain ⟨⟨b0, b1, b2⟩, -, b3, b4, b5, b6⟩ := h3.cells
                  have dc := hide (raddr_two _ H3.out o.x o.y)
                  rw [HPR.out] at dc
                  clear pc h3 c0 c1 c2 c3 m0 m1 m2
                  go_wp2_with fail
                  refine dc.out.mono ?_
                  rintro e w4 ⟨rfl, d4⟩
                  have H5 := hide (H3.out.below d4)
                  clear dc d4 b0 b1 b2 b3 b4 b5 b6 H3
                  go_wp2
                  go_meet
                  case rel => exact ⟨s, vf, p1, p2, rfl, rfl, rfl, rfl, H5⟩
                · have nk3 : (o.k == 3) = false := by simpa using hk3
                  by_cases hk4 : o.k = 4
                  · rw [hk4]
                    have pc := hide (HO.out.get o.x hox)
                    obtain ⟨pr, hpr⟩ : ∃ pr, getP s o.x = pr := ⟨_, rfl⟩
                    have HPR := hide hpr
                    rw [hpr] at pc
                    clear hpr
                    obtain ⟨p1, p2⟩ := pr
                    go_wp2_with fail
                    refine pc.out.mono ?_
                    rintro e w3 ⟨rfl, h3⟩
                    have H3 := hide h3
                    obtain ⟨⟨b0, b1, b2⟩, -, b3, b4, b5, b6⟩ := h3.cells
                    have dc := hide (rget_two _ H3.out o.x hox)
                    rw [HPR.out] at dc
                    clear pc h3 c0 c1 c2 c3 m0 m1 m2
                    go_wp2_with fail
                    refine dc.out.mono ?_
                    rintro e w4 ⟨rfl, d4⟩
                    have H5 := hide (H3.out.below d4)
                    clear dc d4 b0 b1 b2 b3 b4 b5 b6 H3
                    go_wp2
                    go_meet
                    case rel => exact ⟨s, vf, p1, p2, rfl, rfl, rfl, rfl, H5⟩
                  · have nk4 : (o.k == 4) = false := by simpa using hk4
                    by_cases hk5 : o.k = 5
                    · rw [hk5]
                      have pc := hide (HO.out.set o.x o.y hox hoy)
                      obtain ⟨pr, hpr⟩ : ∃ pr, setP s o.x o.y = pr := ⟨_, rfl⟩
                      have HPR := hide hpr
                      rw [hpr] at pc
                      clear hpr
                      obtain ⟨p2, s2⟩ := pr
                      go_wp2_with fail
                      refine pc.out.mono ?_
                      rintro e w3 ⟨rfl, h3⟩
                      have H3 := hide h3
                      obtain ⟨⟨b0, b1, b2⟩, ⟨f0, f1, f2⟩, b3, b4, b5, b6⟩ := h3.cells
                      have dc := hide (rset_two _ H3.out o.x o.y hox)
                      rw [HPR.out] at dc
                      clear pc h3 c0 c1 c2 c3 m0 m1 m2
                      go_wp2_with fail
                      refine dc.out.mono ?_
                      rintro e w4 ⟨vf2, g2, rfl, R4, d4⟩
                      have h4 := H3.out.below d4
                      obtain ⟨⟨e0, e1, e2⟩, ⟨q0, q1, q2⟩, _⟩ := h4.cells
                      obtain ⟨av, pv, hv2, _⟩ := row_form R4.row
                      subst hv2
                      have H5 := hide (H3.out.give d4 R4 HNE.out)
                      clear dc d4 R4 h4 b0 b1 b2 b3 b4 b5 b6 f0 f1 f2 H3
                      go_wp2
                      go_meet
                      case rel => exact ⟨s2, _, 0, p2, rfl, rfl, rfl, rfl, H5⟩
                    · have nk5 : (o.k == 5) = false := by simpa using hk5
                      by_cases hk6 : o.k = 6
                      · rw [hk6]
                        have pc := hide (HO.out.move o.x)
                        obtain ⟨pr, hpr⟩ : ∃ pr, moveP s o.x = pr := ⟨_, rfl⟩
                        have HPR := hide hpr
                        rw [hpr] at pc
                        clear hpr
                        obtain ⟨⟨p1, p2⟩, s2⟩ := pr
                        go_wp2_with fail
                        refine pc.out.mono ?_
                        rintro e w3 ⟨rfl, h3⟩
                        have H3 := hide h3
                        obtain ⟨⟨b0, b1, b2⟩, ⟨f0, f1, f2⟩, b3, b4, b5, b6⟩ := h3.cells
                        have dc := hide (rmove_any _ H3.out o.x)
                        rw [HPR.out] at dc
                        clear pc h3 c0 c1 c2 c3 m0 m1 m2
                        go_wp2_with fail
                        refine dc.out.mono ?_
                        rintro e w4 ⟨vf2, g2, rfl, R4, d4⟩
                        have h4 := H3.out.below d4
                        obtain ⟨⟨e0, e1, e2⟩, ⟨q0, q1, q2⟩, _⟩ := h4.cells
                        obtain ⟨av, pv, hv2, _⟩ := row_form R4.row
                        subst hv2
                        have H5 := hide (H3.out.give d4 R4 HNE.out)
                        clear dc d4 R4 h4 b0 b1 b2 b3 b4 b5 b6 f0 f1 f2 H3
                        go_wp2
                        go_meet
                        case rel => exact ⟨s2, _, p1, p2, rfl, rfl, rfl, rfl, H5⟩
                      · have nk6 : (o.k == 6) = false := by simpa using hk6
                        go_wp2
                        go_meet
                        case rel => exact ⟨s, vf, 0, 0, rfl, rfl, rfl, rfl, HO⟩
          case rest =>
            obtain ⟨s2, vf2, p1, p2, rfl, rfl, rfl, rfl, H5⟩ := hcut.ex
            clear hcut
            have t1 := hide (H5.out.drew.frames)
            obtain ⟨⟨b0, b1, b2⟩, _, _⟩ := H5.out.cells
            obtain ⟨ae, ce, hve⟩ := H5.out.vlen
            subst hve
            have hle := hide (show (lensP s2).length ≤ 70000 by have := H5.out.inv.few; rw [lens_len]; omega)
            go_wp2_with fail
            go_region_held3 (fun w' => w'.cell? ⟨bm, 0, none⟩ = some (.int .i64 s2.base) ∧ w'.cell? ⟨bm, 1, none⟩ = some (.int .i64 s2.most) ∧ w'.cell? ⟨bm, 2, none⟩ = some (.slice ae s2.fr.length ce)) (first | go_keep | exact k9 | exact k8 | exact k7 | exact ⟨b0, b1, b2⟩)
              (first
                | (go_at_call 23; refine t1.out.mono ?_; rintro e w7 ⟨v7, rfl, r7, h7, d7⟩; obtain ⟨k7, -, -⟩ := h7.cells; have R7 := hide r7; have H7 := hide h7; clear r7 h7 d7)
                | (have kk := H7; clear kk; go_at_call 24; refine (rsizes_two _ H7.out).mono ?_; rintro e w8 ⟨v8, rfl, r8, h8, d8⟩; obtain ⟨k8, -, -⟩ := h8.cells; have R8 := hide r8; have R78 := hide (row_below R7.out d8); have H8 := hide h8; clear r8 h8 d8)
                | (have kk := H8; clear kk; go_at_call 22; refine (same_any R78.out R8.out hle.out).mono ?_; rintro e w9 ⟨rfl, d9⟩; have h9 := H8.out.below d9; obtain ⟨k9, -, -⟩ := h9.cells; have H9 := hide h9; clear h9 d9))
            clear t1 R7 R8 R78 H7 H8 k7 k8 k9 b0 b1 b2
            go_wp2
            go_roundw
            case rel => exact ⟨j + 1, s2, _, by go_num, by omega, by omega, H9.out.hh⟩
            case measure => simp [intOf]; omega
      · have hd : (decide (j < n0) = false ∧ decide ((j : Int) < (n0 : Int)) = false) ∨ (decide (j < n0) = true ∧ decide ((j : Int) < (n0 : Int)) = true ∧ decide (j < 100) = false ∧ decide ((j : Int) < 100) = false) := by
          by_cases h1 : j < n0
          · right; simp; omega
          · left; simp; omega
        rcases hd with ⟨d3, d4⟩ | ⟨d3, d4, d5, d6⟩
        all_goals
          go_wp2
          go_ret
          exact ⟨rfl, B0.out⟩
end Go.Proofs.Ytjapfckadikjiaa
