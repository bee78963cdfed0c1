/- Make in one; follow. -/
import Derived.Test.YtimpmgbahgganaaHpD
namespace Go.Proofs.Ytimpmgbahgganaa
open Go.RowKit Go.Maps

section
variable {Y : Hh} {w : World} {h : Hs} {k : Nat}
theorem make_any (L : HLies Y w h k) (I : HInv h) (t n : Int) (hk : k < 900000000) :
    Calls Try.prog 11 #[Y.p, .int .i64 t, .int .i64 n] w fun e w' => ∃ x c h' Y', e = two (x, c) ∧ MakeP h t n x c h' ∧ HLies Y' w' h' (k + 2) ∧ HStep Y Y' w w' := by
  by_cases ht : t < 0 ∨ (h.ty.length : Int) ≤ t
  · refine (make_none L ht).mono ?_
    rintro e w' ⟨rfl, rfl⟩
    exact ⟨0, 6, h, Y, rfl, .none ht, L.mono (by omega), HStep.refl _ _⟩
  · obtain ⟨m, rfl⟩ := Int.eq_ofNat_of_zero_le (show 0 ≤ t by omega)
    have hm : m < h.ty.length := by omega
    by_cases hn : n < 0 ∨ 1024 < n
    · refine (make_arg L hm hn).mono ?_
      rintro e w' ⟨rfl, rfl⟩
      exact ⟨0, 1, h, Y, rfl, .arg m rfl hm hn, L.mono (by omega), HStep.refl _ _⟩
    · obtain ⟨q, rfl⟩ := Int.eq_ofNat_of_zero_le (show 0 ≤ n by omega)
      have hq : q ≤ 1024 := by omega
      have hf : h.ty[m]? = some h.ty[m] := List.getElem?_eq_getElem hm
      generalize h.ty[m] = f at hf
      rcases Nat.lt_or_ge 65536 (owords f q) with h1 | h1
      · refine (make_err L I hf hq (by omega) (.arg h1) (by decide)).mono ?_
        rintro e w' ⟨rfl, hr⟩
        obtain ⟨Y', L', S, _⟩ := hr.out.lies L (Nat.le_succ k)
        exact ⟨0, 1, h, Y', rfl, .large m q f rfl hf rfl hq h1, L'.mono (by omega), S⟩
      · cases h2 : allocS h.s (owords f q) with
        | none =>
          refine (make_err L I hf hq (by omega) (.full h1 h2) (by decide)).mono ?_
          rintro e w' ⟨rfl, hr⟩
          obtain ⟨Y', L', S, _⟩ := hr.out.lies L (Nat.le_succ k)
          exact ⟨0, 7, h, Y', rfl, .full m q f rfl hf rfl hq h1 h2, L'.mono (by omega), S⟩
        | some r =>
          refine (make_ok L I hf hq hk h1 (x := r.1) (s' := r.2) h2).mono ?_
          rintro e w' ⟨rfl, Y', L', S⟩
          exact ⟨r.1, 0, _, Y', rfl, .made m q r.1 f r.2 rfl hf rfl hq h1 h2, L', S⟩
/-- What a call leaves of w that may change a list of its own and make memory. -/
structure Grew (w w' : World) (v v' : Value) : Prop where
  os : w'.os = w.os
  tape : w'.tape = w.tape
  output : w'.output = w.output
  size : w.heap.size ≤ w'.heap.size
  block : ∀ j, j < w.heap.size → v.ownBlock ≠ some j → w'.heap[j]? = w.heap[j]?
  own : ∀ g, v'.ownBlock = some g → v.ownBlock = some g ∨ w.heap.size ≤ g
theorem Grew.refl (w : World) (v : Value) : Grew w w v v := ⟨rfl, rfl, rfl, Nat.le_refl _, fun _ _ _ => rfl, fun _ h => .inl h⟩
theorem Grew.under {w1 w2 : World} {v v1 : Value} (G : Grew w w1 v v1) (hb : Below w1.heap.size w1 w2) : Grew w w2 v v1 :=
  ⟨hb.os.trans G.os, hb.tape.trans G.tape, hb.output.trans G.output, Nat.le_trans G.size hb.size, fun j hj hn => (hb.block j (Nat.lt_of_lt_of_le hj G.size)).trans (G.block j hj hn), G.own⟩
theorem Grew.grow {w1 w2 : World} {v v1 v2 : Value} (G : Grew w w1 v v1) (hg : w1.grownBy w2 v1.ownBlock) (hv : v1.ownBlock = v2.ownBlock ∨ ∃ g, v2.ownBlock = some g ∧ w1.heap.size ≤ g) : Grew w w2 v v2 :=
  ⟨hg.os.trans G.os, hg.tape.trans G.tape, hg.output.trans G.output, Nat.le_trans G.size hg.size, fun j hj hn => (hg.block j (Nat.lt_of_lt_of_le hj G.size) (fun e => by
    rcases G.own j e.symm with h1 | h1
    · exact hn h1
    · omega)).trans (G.block j hj hn), fun g hg' => by
    rcases hv with h1 | ⟨g2, h1, h2⟩
    · exact G.own g (h1.trans hg')
    · rw [h1] at hg'; cases hg'; exact .inr (Nat.le_trans G.size h2)⟩
theorem Grew.below {w0 w1 : World} {v v1 : Value} {B : Nat} (G : Grew w w1 v v1) (hb : Below B w0 w) (hB : B ≤ w.heap.size) (hv : ∀ g, v.ownBlock = some g → B ≤ g) : Below B w0 w1 :=
  hb.trans ⟨G.os, G.tape, G.output, G.size, fun j hj => G.block j (by omega) (fun e => by have := hv j e; omega)⟩
theorem ints_snoc (l : List Int) (x : Int) : ints (l ++ [x]) = ints l ++ [.int .i64 x] := by simp [ints]
theorem ints_length (l : List Int) : (ints l).length = l.length := by simp [ints]
set_option maxHeartbeats 2000000 in
theorem follow_any {w0 : World} (L : HLies Y w0 h k) (I : HInv h) (hb0 : Below w0.heap.size w0 w) {v : Value} {st : List Int} (ho : w.ownsRow w0.heap.size 3 1 v st.length (ints st)) (hst : st.length ≤ 500000000) {a t n i : Nat} {f : List Bool} {p : Pc} (O : Obj1 h a t n f i p) :
    Calls Try.prog 57 #[Y.p, v, .int .i64 a, .int .i64 t, .int .i64 n] w fun e w' => ∃ v', e = .returned v' ∧ w'.ownsRow w0.heap.size 3 1 v' (st ++ outs h.s f n a (n * f.length)).length (ints (st ++ outs h.s f n a (n * f.length))) ∧ Grew w w' v v' := by
  have hL := hide L
  have hI := hide I
  have HO := hide ho
  have HOb := hide O
  have hty := O.ty
  have hn4 := O.n4
  have hsz := hb0.size
  have hm6 : n * f.length ≤ 65536 := by have := owords_ge f n; have := O.aw2; have := O.pn; have := O.a1; omega
  have ha6 : a + n * f.length ≤ 65537 := by have := owords_ge f n; have := O.aw2; have := O.pn; omega
  have HB0 := hide hb0
  have HJ : Hid (n * f.length ≤ p.n) := hide (by have := owords_ge f n; have := O.pn; omega)
  obtain ⟨g, cap, u, ao, fc, hv, cu, ht, hve, _⟩ := (L.below hb0).fields hty
  have c1 := (L.below hb0).c1
  rw [hv] at c1
  subst hve
  have hmul := mul_cast n f.length
  have htl := I.tl
  have HM := hide (show n * f.length = n * f.length from rfl)
  clear L I ho O hb0 hv HM
  generalize h.ty.length = tl at *
  generalize hM : n * f.length = m at *
  have HM := hide hM
  clear hM
  have ht' : (t : Int) < (tl : Int) := by omega
  have hm' : (m : Int) ≤ 65536 := by omega
  have hlb : ∀ {wr : World}, Below w0.heap.size w0 wr → HLies Y wr h k := fun hb => hL.out.below hb
  generalize f.length = l at *
  go_enter Try.func57, Try.ntmps57
  go_wp2
  go_loopw [1, 24] (fun vr ir wr => ∃ j : Nat, j ≤ m ∧ ir = .int .i64 j ∧ Hid (wr.ownsRow w0.heap.size 3 1 vr (st ++ outs h.s f n a j).length (ints (st ++ outs h.s f n a j)) ∧ Grew w wr v vr)) (fun _ ir _ => m - (intOf ir).toNat)
  case atStart => exact ⟨0, Nat.zero_le _, rfl, by simpa [outs] using HO.out, Grew.refl _ _⟩
  case round =>
    obtain ⟨j, hj, rfl, hr⟩ := hrel
    have hbr : Below w0.heap.size w0 wr := hr.out.2.below HB0.out hsz (fun g hg => (HO.out.lt g hg).1)
    have Lr := hlb hbr
    by_cases hlt : j < m
    · have hpt := pointer_any Lr hI.out hty hn4 (i := j) (by omega)
      have hll := outs_le h.s f n a j
      have hd : decide ((j : Int) < (m : Int)) = true := by simp; omega
      cases hp : ptrB f n j with
      | false =>
        rw [hp] at hpt
        have HS : Hid (outs h.s f n a (j + 1) = outs h.s f n a j) := hide (by
          show outs h.s f n a j ++ (if ptrB f n j = true ∧ _ then _ else []) = _
          rw [if_neg (by simp [hp])]; simp)
        clear hp Lr
        go_wp2_with fail
        refine hpt.mono ?_
        rintro e w1 ⟨rfl, rfl⟩
        go_wp2
        go_roundw
        case rel => exact ⟨j + 1, by omega, by go_num, by rw [HS.out]; exact hr.out⟩
        case measure => simp [intOf]; omega
      | true =>
        rw [hp] at hpt
        have hjp : j < p.n := by have := HJ.out; omega
        have hgc := get_any ((a : Int) + (j : Int)) wr Lr.L hI.out.inv (by omega)
        rw [show getP h.s ((a : Int) + (j : Int)) = (wd h.s (a + j), 0) by
          unfold getP wd
          rw [hold_mk hI.out.inv.row HOb.out.ps (by rw [HOb.out.pa]; omega) (by rw [HOb.out.pa]; omega)]
          simp only [show ((a : Int) + (j : Int)).toNat = a + j by omega]] at hgc
        have c0 := Lr.c0
        have HO1 := hide (show outs h.s f n a (j + 1) = outs h.s f n a j ++ (if ptrB f n j = true ∧ wd h.s (a + j) ≠ 0 then [wd h.s (a + j)] else []) from rfl)
        have HP := hide hp
        clear Lr hp
        by_cases hz : wd h.s (a + j) = 0
        · rw [hz] at hgc
          have HS : Hid (outs h.s f n a (j + 1) = outs h.s f n a j) := hide (by rw [HO1.out, if_neg (by simp [hz])]; simp)
          clear hz HO1
          go_wp2_with fail
          refine hpt.mono ?_
          rintro e w1 ⟨rfl, rfl⟩
          go_wp2_with fail
          refine hgc.mono ?_
          rintro e w2 ⟨rfl, hb2⟩
          go_wp2
          go_roundw
          case rel => exact ⟨j + 1, by omega, by go_num, by rw [HS.out]; exact ⟨ownsRow_keep hr.out.1 fun g hg => hb2.block g (hr.out.1.lt g hg).2, hr.out.2.under hb2⟩⟩
          case measure => simp [intOf]; omega
        · have HS : Hid (outs h.s f n a (j + 1) = outs h.s f n a j ++ [wd h.s (a + j)]) := hide (by rw [HO1.out, if_pos ⟨HP.out, hz⟩])
          generalize wd h.s (a + j) = x at *
          generalize outs h.s f n a j = ls at *
          have hzn : (x != 0) = true := by simpa using hz
          clear HO1 hz
          go_wp2_with fail
          refine hpt.mono ?_
          rintro e w1 ⟨rfl, rfl⟩
          go_wp2_with fail
          refine hgc.mono ?_
          rintro e w2 ⟨rfl, hb2⟩
          have own2 := ownsRow_keep (w' := w2) hr.out.1 fun g hg => hb2.block g (hr.out.1.lt g hg).2
          have G2 := hr.out.2.under hb2
          have own3 := own2.alloc (.cells #[.int .i64 x] 3)
          have hnb : (w2.alloc (.cells #[.int .i64 x] 3)).heap[w2.heap.size]? = some (.cells #[.int .i64 x] 3 (0, 0)) := heap_new _ _ rfl
          obtain ⟨ga, capa, w4, hrun, hown4, hgrow, hat, hltg⟩ := run_app1 own3 hnb (by simp; omega) (by have := G2.size; simp; omega)
          rw [List.length_append] at hrun hown4
          have G3 := G2.under ((Below.refl _ _).alloc (Nat.le_refl _) (.cells #[.int .i64 x] 3))
          have HR := hide (show w4.ownsRow w0.heap.size 3 1 (.slice (some ⟨ga, 0, none⟩) (st.length + ls.length + 1) capa) (st ++ (ls ++ [x])).length (ints (st ++ (ls ++ [x]))) ∧ Grew w w4 v (.slice (some ⟨ga, 0, none⟩) (st.length + ls.length + 1) capa) from by
            refine ⟨?_, G3.grow hgrow ?_⟩
            · rw [← List.append_assoc, ints_snoc, show (st ++ ls ++ [x]).length = st.length + ls.length + 1 by simp; omega]; exact hown4
            · rcases hat with h1 | h1
              · exact .inl h1
              · exact .inr ⟨ga, rfl, by omega⟩)
          clear own2 own3 G2 G3 hnb hown4 hgrow hat hltg hb2 hpt hgc hbr
          go_wp2_with (at_builtin; refine wpList_append_eq rfl _ _ 31 rfl rfl rfl hrun ?_)
          go_wp2
          go_roundw
          case rel => exact ⟨j + 1, by omega, by go_num, by rw [HS.out]; exact HR.out⟩
          case measure => simp [intOf]; omega
    · obtain rfl : j = m := by omega
      have hd : decide ((j : Int) < (j : Int)) = false := by simp
      clear Lr
      go_wp2
      go_ret
      exact ⟨_, rfl, hr.out⟩
end
end Go.Proofs.Ytimpmgbahgganaa
