/- The document's Push of a stack: a frame more. -/
import Derived.Test.YtjapfckadikjiaaRsF
namespace Go.Proofs.Ytjapfckadikjiaa
open Go.RowKit
section
variable {B : Nat} {w w' : World} {vf : Value} {g : Nat → Value} {s : Sk}
theorem four (w : World) (h k : Nat) (x y0 y1 y2 : Value) (h1 : k ≠ h) (h2 : k ≠ h + 1) :
    ((((w.setCell ⟨h, 2, none⟩ x).setCell ⟨h + 1, 0, none⟩ y0).setCell ⟨h + 1, 1, none⟩ y1).setCell ⟨h + 1, 2, none⟩ y2).drew.heap[k]? = w.heap[k]? := by
  rw [heap_drew, put3 _ (h + 1) k _ _ _ h2, Below.heap_setCell _ _ _ _ h1]
theorem below4 {a w : World} {h : Nat} (hb : Below h a w) (x y0 y1 y2 : Value) : Below h a ((((w.setCell ⟨h, 2, none⟩ x).setCell ⟨h + 1, 0, none⟩ y0).setCell ⟨h + 1, 1, none⟩ y1).setCell ⟨h + 1, 2, none⟩ y2).drew :=
  (below3 (hb.setCell (Nat.le_refl _) x) (Nat.le_succ _) y0 y1 y2).drew
theorem Pu.start {w6 : World} {vf' : Value} {g' : Nat → Value} {x : Value} {ps : List Bool} (bx : w6.heap[w.heap.size]? = some (.cells #[.int .i64 s.base, .int .i64 s.most, x] 31 (0, 0))) (br : w6.heap[w.heap.size + 1]? = some (.cells #[.int .i64 0, .int .i64 0, .slice none 0 0] 31 (0, 0)))
    (R : Rc (w.heap.size + 1 + 1) w6 vf' g' s.fr) (bel : Below w.heap.size w w6) :
    Pu s w ((((w6.setCell ⟨w.heap.size, 0, none⟩ (.int .i64 s.base)).setCell ⟨w.heap.size, 1, none⟩ (.int .i64 s.most)).setCell ⟨w.heap.size, 2, none⟩ vf').alloc (.cells #[] 70)) ps vf' g' w6.heap.size (.slice (some ⟨w6.heap.size, 0, none⟩) 0 0) (.int .i64 0) := by
  have hb1 := lt_of_block br
  have hk : ∀ k, k < w6.heap.size → k ≠ w.heap.size → ((((w6.setCell ⟨w.heap.size, 0, none⟩ (.int .i64 s.base)).setCell ⟨w.heap.size, 1, none⟩ (.int .i64 s.most)).setCell ⟨w.heap.size, 2, none⟩ vf').alloc (.cells #[] 70)).heap[k]? = w6.heap[k]? := fun k h1 h2 => by
    rw [Below.heap_alloc _ _ _ (by simpa using h1), put3 w6 w.heap.size k _ _ _ h2]
  refine ⟨⟨0, Nat.zero_le _, rfl, ⟨by simp [nw, wcells], .inr ⟨w6.heap.size, 0, #[], rfl, Nat.le_refl _, heap_new _ _ (by simp), Nat.le_refl _, by decide, by simp, by simp [nw, wcells]⟩⟩⟩, ?_, (hk _ hb1 (by omega)).trans br, R.keep fun k hk' => hk k (R.own_lt hk').2 (by have := (R.own_lt hk').1; omega), fun k hk' => (R.own_lt hk').2, ⟨hb1, by simp⟩, (below3 bel (Nat.le_refl _) _ _ _).alloc (by have := bel.size; simpa using this) _⟩
  rw [Below.heap_alloc _ _ _ (by have := lt_of_block bx; simpa using this), heap_setCell_same _ _ _ _ (heap_setCell_same _ _ _ _ (heap_setCell_same _ _ _ _ bx))]; rfl
theorem Pu.grow {wr w8 : World} {vf' a a2 : Value} {g' : Nat → Value} {ps : List Bool} {C1 j : Nat} (P : Pu s w wr ps vf' g' C1 a (.int .i64 j)) (hz : wr.heap.size ≤ w8.heap.size) (hk : ∀ k, k < wr.heap.size → a.ownBlock ≠ some k → w8.heap[k]? = wr.heap[k]?) (ho : w8.os = wr.os) (ht : w8.tape = wr.tape) (hu : w8.output = wr.output) (hal : ∀ k, a.ownBlock = some k → C1 ≤ k)
    (hj : j + 1 ≤ ps.length) (hrow : w8.ownsRow C1 70 2 a2 (j + 1) (wcells (nw (ps.take (j + 1))))) : Pu s w w8 ps vf' g' C1 a2 (.int .i64 ((j + 1 : Nat) : Int)) := by
  have c1 := P.c1
  have hk2 : ∀ k, k < C1 → w8.heap[k]? = wr.heap[k]? := fun k h1 => hk k (by omega) (fun e => by have := hal k e; omega)
  refine ⟨⟨j + 1, hj, rfl, hrow⟩, (hk2 _ (by omega)).trans P.bx, (hk2 _ (by omega)).trans P.br, P.rc.keep fun k h1 => hk2 k (P.lo k h1), P.lo, ⟨c1.1, by omega⟩, P.bel.trans ⟨ho, ht, hu, hz, fun k h1 => hk2 k (by have := P.bel.size; omega)⟩⟩
set_option maxHeartbeats 4000000 in
theorem rpush_ok (w : World) (R : Rc B w vf g s.fr) (I : SInv s) (hB : B ≤ w.heap.size) {v : Value} {ps : List Bool} (hv : BoolsR w v ps) (hps : ps.length ≤ 1000) (h : pushOk s ps.length = true) :
    Calls Try.prog 11 #[rv s vf, v] w fun e w' => ROut B w 0 (pushS s ps) e w' := by
  obtain ⟨ao, cp, hvf, _⟩ := row_form R.row
  obtain ⟨aq, cq, rfl, hbq⟩ := hv
  obtain ⟨W1, hW1⟩ : ∃ W1, (w.alloc (.cells #[.int .i64 s.base, .int .i64 s.most, .slice ao s.fr.length cp] 31)).alloc (.cells #[.int .i64 0, .int .i64 0, .slice none 0 0] 31) = W1 := ⟨_, rfl⟩
  have z1 : W1.heap.size = w.heap.size + 1 + 1 := by rw [← hW1]; simp
  have R1 : Rc B W1 vf g s.fr := by rw [← hW1]; exact (R.alloc _).alloc _
  have bx : W1.heap[w.heap.size]? = some (.cells #[.int .i64 s.base, .int .i64 s.most, .slice ao s.fr.length cp] 31 (0, 0)) := by rw [← hW1, Below.heap_alloc _ _ _ (by simp), heap_new _ _ rfl]
  have br : W1.heap[w.heap.size + 1]? = some (.cells #[.int .i64 0, .int .i64 0, .slice none 0 0] 31 (0, 0)) := by rw [← hW1, heap_new _ _ (by simp)]
  have BW := hide (show Below w.heap.size w W1 by rw [← hW1]; exact ((Below.refl _ _).alloc (Nat.le_refl _) _).alloc (by simp) _)
  have hsz := rsize_any (w := W1.drew) (R1.keep fun _ _ => rfl) I
  have hcop : ∀ w5 : World, Below W1.heap.size W1 w5 → Calls Try.prog 27 #[rv s (.slice ao s.fr.length cp)] w5 fun e w' => ∃ vf' g', e = .returned (rv s vf') ∧ Rc w5.heap.size w' vf' g' s.fr ∧ Below w5.heap.size w5 w' := fun w5 hb => by
    have := rcopied_any (w := w5) (R1.below hb) I
    rw [hvf] at this; exact this
  rw [hvf] at hsz ⊢
  have HW1 := hide hW1
  have HBX := hide bx
  have HBR := hide br
  have HCOP := hide hcop
  have HBQ := hide hbq
  have hfew := I.few
  have hm0 := I.m0
  have hm1 := I.m1
  have hfit := I.fit
  have h' := of_decide_eq_true h
  obtain ⟨c0, c1, c2, _, _, _⟩ := box_facts bx
  have HS := hide hsz
  have rf : ∀ w5 : World, Below W1.heap.size W1 w5 → (w5.cell? ⟨w.heap.size, 0, none⟩ = some (.int .i64 s.base) ∧ w5.cell? ⟨w.heap.size, 1, none⟩ = some (.int .i64 s.most) ∧ w5.cell? ⟨w.heap.size, 2, none⟩ = some (.slice ao s.fr.length cp)) := fun w5 hb => by
    obtain ⟨x0, x1, x2, _⟩ := box_facts ((hb.block w.heap.size (by omega)).trans HBX.out)
    exact ⟨x0, x1, x2⟩
  have RF := hide rf
  have DR := hide (show ∀ w5 : World, Below W1.drew.heap.size W1.drew w5 → Below W1.heap.size W1 w5 from fun w5 hb => ⟨hb.os, hb.tape, hb.output, hb.size, hb.block⟩)
  have bps : (ps.length : Int) ≤ 1000 := by omega
  have bws : (s.ws.length : Int) ≤ 65536 := by omega
  have bnf : (s.fr.length : Int) < 1000 := by omega
  have hne : ¬ w.heap.size + 1 = w.heap.size := by omega
  have d0 : ((s.fr.length : Int) == 1000) = false := by simp; omega
  have d1 : decide (s.most < (s.ws.length : Int) + (ps.length : Int)) = false := by simp; omega
  have dw : IntKind.i64.wrap ((s.ws.length : Int) + (ps.length : Int)) = (s.ws.length : Int) + (ps.length : Int) := by rw [IntKind.wrap_i64]; omega
  clear hsz hW1 bx br R1 R I rf h h' hvf hcop hbq
  generalize hnf : s.fr.length = nf at *
  generalize hnw : s.ws.length = nws at *
  generalize hnp : ps.length = np at *
  have HNF := hide hnf
  have HNP := hide hnp
  clear hnf hnw hnp
  go_enter Try.func11, Try.ntmps11
  go_wp2_with fail
  rw [HW1.out]
  go_region_held3 (fun w' => w'.cell? ⟨w.heap.size, 0, none⟩ = some (.int .i64 s.base) ∧ w'.cell? ⟨w.heap.size, 1, none⟩ = some (.int .i64 s.most) ∧ w'.cell? ⟨w.heap.size, 2, none⟩ = some (.slice ao nf cp)) (first | go_keep | exact RF.out _ (DR.out _ hb5) | exact ⟨c0, c1, c2⟩) ((go_at_call 26; refine HS.out.mono ?_; rintro e w5 ⟨rfl, hb5⟩))
  have B5 := DR.out _ hb5
  obtain ⟨y0, y1, y2⟩ := RF.out _ B5
  have HB5 := hide B5
  have z5 := B5.size
  have bx5 := hide ((B5.block w.heap.size (by omega)).trans HBX.out)
  have br5 := hide ((B5.block (w.heap.size + 1) (by omega)).trans HBR.out)
  have hcp := hide (HCOP.out w5 B5)
  clear B5 hb5 HS RF DR HW1 HCOP HBX HBR c0 c1 c2
  go_wp2_with fail
  refine hcp.out.mono ?_
  rintro e w6 ⟨vf', g', rfl, Rn, hb6⟩
  clear hcp y0 y1 y2
  have z6 := hb6.size
  have bx6 := (hb6.block w.heap.size (by omega)).trans bx5.out
  have br6 := (hb6.block (w.heap.size + 1) (by omega)).trans br5.out
  obtain ⟨c0, c1, c2, q0, q1, q2⟩ := box_facts bx6
  obtain ⟨av, pv, hvf', _⟩ := row_form Rn.row
  rw [HNF.out] at hvf'
  subst hvf'
  have HST := hide (Pu.start (ps := ps) bx6 br6 (Rn.mono (by omega)) (BW.out.trans ((HB5.out.mono (by omega)).trans (hb6.mono (by omega)))))
  clear bx6 br6 Rn hb6 bx5 br5 HB5 BW
  go_wp2
  go_loopw [6, 7] (fun a i wr => Pu s w wr ps (.slice av nf pv) g' w6.heap.size a i) (fun _ i _ => np - (intOf i).toNat)
  case atStart => exact HST.out
  case round =>
    obtain ⟨j, hj, rfl, hown⟩ := hrel.ex
    have HP := hide hrel
    clear hrel HST c0 c1 c2 q0 q1 q2
    rw [HNP.out] at hj
    have hc1 := HP.out.c1
    obtain ⟨aa, ca, haa, _⟩ := row_form hown
    subst haa
    by_cases hlt : j < np
    · obtain ⟨q, hq⟩ : ∃ q, ps[j]? = some q := ⟨ps[j]'(by rw [HNP.out]; exact hlt), by simp⟩
      obtain ⟨b, off, hao, hbl, cb0⟩ := HBQ.out j q hq
      subst hao
      have cb : wr.cell? ⟨b, off + j, none⟩ = some (.bool q) := (HP.out.bel.cell (p := ⟨b, off + j, none⟩) hbl).trans cb0
      have HQ := hide (nw_cells hq)
      obtain ⟨W8, hW8⟩ : ∃ W8, wr.alloc (.cells #[.int .i64 0, .bool q] 70) = W8 := ⟨_, rfl⟩
      have z8 : W8.heap.size = wr.heap.size + 1 := by rw [← hW8]; simp
      have hnb : W8.heap[wr.heap.size]? = some (.cells #[.int .i64 0, .bool q] 70 (0, 0)) := by rw [← hW8, heap_new _ _ rfl]
      have own8 := hown.alloc (.cells #[.int .i64 0, .bool q] 70)
      rw [hW8] at own8
      obtain ⟨ga, capa, w9, hrun, hown9, hgrow, hat, hltg⟩ := run_appWd own8 hnb (by omega) (by omega)
      rw [← HQ.out] at hown9
      have NXT := hide (HP.out.grow (a2 := .slice (some ⟨ga, 0, none⟩) (j + 1) capa) (by have := hgrow.size; omega) (fun k h1 h2 => by rw [hgrow.block k (by omega) (fun e => h2 e.symm), ← hW8, Below.heap_alloc _ _ _ h1]) (by rw [hgrow.os, ← hW8]; rfl) (by rw [hgrow.tape, ← hW8]; rfl) (by rw [hgrow.output, ← hW8]; rfl) (fun k hk => (hown.lt k hk).1) (by rw [HNP.out]; omega) hown9)
      have bj : (j : Int) < (np : Int) := by omega
      have d3 : decide (j < np) = true := by simpa using hlt
      clear hown9 hgrow hat hltg hnb own8 hown cb0 hq z8 HQ
      subst hW8
      go_wp2_with (at_builtin; refine wpList_append_eq rfl _ _ 68 rfl rfl rfl hrun ?_)
      go_wp2
      go_roundw
      case rel => exact NXT.out
      case measure => simp [intOf]; omega
    · obtain rfl : j = np := by omega
      have d3 : decide (j < j) = false := by simp
      have hbz := HP.out.bel.size
      obtain ⟨W8, hW8⟩ : ∃ W8, wr.alloc (.cells #[.slice aa j ca] 68) = W8 := ⟨_, rfl⟩
      have z8 : W8.heap.size = wr.heap.size + 1 := by rw [← hW8]; simp
      have k8 : ∀ k, k < wr.heap.size → W8.heap[k]? = wr.heap[k]? := fun k hk => by rw [← hW8, Below.heap_alloc _ _ _ hk]
      have hnb : W8.heap[wr.heap.size]? = some (.cells #[.slice aa j ca] 68 (0, 0)) := by rw [← hW8, heap_new _ _ rfl]
      have R8 := HP.out.rc.alloc (.cells #[.slice aa j ca] 68)
      rw [hW8] at R8
      obtain ⟨gg, cpp, w9, hrun, hown9, hgrow, hat, hltg⟩ := run_appF R8.row hnb rfl (by rw [HNF.out]; omega) (by omega)
      have hvo : ∀ k, (Value.slice av nf pv).ownBlock = some k → w.heap.size + 1 + 1 ≤ k ∧ k < wr.heap.size := fun k hk => HP.out.rc.row.lt k hk
      have k9 : ∀ k, k < wr.heap.size → (Value.slice av nf pv).ownBlock ≠ some k → w9.heap[k]? = wr.heap[k]? := fun k h1 h2 => by rw [hgrow.block k (by omega) (fun e => h2 e.symm), k8 k h1]
      rw [show ps.take j = ps from List.take_of_length_le (by rw [HNP.out]; exact Nat.le_refl _)] at hown
      have hne2 : ∀ k, (Value.slice aa j ca).ownBlock = some k → (Value.slice av nf pv).ownBlock ≠ some k := fun k hk e => by
        have h1 := HP.out.lo k (.inl e)
        have h2 := (hown.lt k hk).1
        omega
      have Rn := HP.out.rc.snoc (w6 := w9) (f := nw ps) (v2 := .slice aa j ca) (fun k hk hne => k9 k (HP.out.rc.own_lt hk).2 hne) hown9
        (by rw [show (nw ps).length = j by simp [nw, HNP.out]]; exact row_mono (ownsRow_keep (w' := w9) hown fun k hk => k9 k (hown.lt k hk).2 (hne2 k hk)) (by omega)) (fun k i hk hi e => by have h1 := HP.out.lo k (.inr ⟨i, hi, e⟩); have h2 := (hown.lt k hk).1; omega)
      have bx9 := (k9 w.heap.size (by omega) (fun e => by have := (hvo _ e).1; omega)).trans HP.out.bx
      have br9 := (k9 (w.heap.size + 1) (by omega) (fun e => by have := (hvo _ e).1; omega)).trans HP.out.br
      obtain ⟨c0, c1, c2, q0, q1, q2⟩ := box_facts bx9
      obtain ⟨r0, r1, r2, f0, f1, f2⟩ := box_facts br9
      have c2w : wr.cell? ⟨w.heap.size, 2, none⟩ = some (.slice av nf pv) := cell_of HP.out.bx
      rw [HNF.out] at hrun Rn
      have HRn := hide Rn
      have hb9 : Below w.heap.size w w9 := HP.out.bel.trans ⟨by rw [hgrow.os, ← hW8]; rfl, by rw [hgrow.tape, ← hW8]; rfl, by rw [hgrow.output, ← hW8]; rfl, by have := hgrow.size; omega, fun k hk => k9 k (by omega) (fun e => by have := (hvo _ e).1; omega)⟩
      have HB9 := hide hb9
      have hwr : w.heap.size < wr.heap.size := by omega
      have hne3 : ¬ w.heap.size = w.heap.size + 1 := by omega
      clear Rn hb9 hown9 hgrow hat hltg hnb R8 k8 k9 hne2 hvo bx9 br9 hown z8
      subst hW8
      go_wp2_with (at_builtin; refine wpList_append_eq rfl _ _ 29 rfl rfl rfl hrun ?_)
      go_wp2
      go_region
      all_goals go_wp2
      all_goals
        refine bodyPost_ret (v := .tuple #[.int .i64 0, rv s (.slice (some ⟨gg, 0, none⟩) (nf + 1) cpp)]) ?_ rfl ?_
        · simp [results, Try.results11, go_sem, r0, r1, r2]
        · have hfin : Rc B ((((w9.setCell ⟨w.heap.size, 2, none⟩ (.slice (some ⟨gg, 0, none⟩) (nf + 1) cpp)).setCell ⟨w.heap.size + 1, 0, none⟩ (.int .i64 s.base)).setCell ⟨w.heap.size + 1, 1, none⟩ (.int .i64 s.most)).setCell ⟨w.heap.size + 1, 2, none⟩ (.slice (some ⟨gg, 0, none⟩) (nf + 1) cpp)).drew (.slice (some ⟨gg, 0, none⟩) (nf + 1) cpp) _ (pushS s ps).fr :=
            (HRn.out.mono (by omega)).keep fun k hk => four w9 w.heap.size k _ _ _ _ (by have := (HRn.out.own_lt hk).1; omega) (by have := (HRn.out.own_lt hk).1; omega)
          unfold ROut
          exact ⟨_, _, rfl, hfin, below4 HB9.out _ _ _ _⟩
end
end Go.Proofs.Ytjapfckadikjiaa
