/- The document's Set of a stack. -/
import Derived.Test.YtjapfckadikjiaaRsD
namespace Go.Proofs.Ytjapfckadikjiaa
open Go.RowKit
theorem setCell_congr {w w' : World} {a : Addr} {v : Value} {k : Nat} (h : w.heap[k]? = w'.heap[k]?) : (w.setCell a v).heap[k]? = (w'.setCell a v).heap[k]? := by
  simp only [World.setCell, Array.getElem?_modify]
  split
  · rw [h]
  · exact h
theorem put3 (w : World) (b k : Nat) (x y z : Value) (h : k ≠ b) : (((w.setCell ⟨b, 0, none⟩ x).setCell ⟨b, 1, none⟩ y).setCell ⟨b, 2, none⟩ z).heap[k]? = w.heap[k]? := by
  rw [Below.heap_setCell _ _ _ _ h, Below.heap_setCell _ _ _ _ h, Below.heap_setCell _ _ _ _ h]
theorem below3 {B : Nat} {a w : World} (h : Below B a w) {b : Nat} (hb : B ≤ b) (x y z : Value) : Below B a (((w.setCell ⟨b, 0, none⟩ x).setCell ⟨b, 1, none⟩ y).setCell ⟨b, 2, none⟩ z) := ((h.setCell hb x).setCell hb y).setCell hb z
theorem heap_drew (w : World) (k : Nat) : w.drew.heap[k]? = w.heap[k]? := rfl
theorem seven (w : World) (h b o k : Nat) (u x0 x1 x2 y0 y1 y2 : Value) (h1 : k ≠ h) (h2 : k ≠ h + 1) :
    (((((((w.setCell ⟨h, 0, none⟩ x0).setCell ⟨h, 1, none⟩ x1).setCell ⟨h, 2, none⟩ x2).setCell ⟨b, o, none⟩ u).setCell ⟨h + 1, 0, none⟩ y0).setCell ⟨h + 1, 1, none⟩ y1).setCell ⟨h + 1, 2, none⟩ y2).drew.heap[k]? = (w.setCell ⟨b, o, none⟩ u).heap[k]? := by
  rw [heap_drew]
  rw [put3 _ (h + 1) k _ _ _ h2]
  exact setCell_congr (put3 w h k _ _ _ h1)
theorem below7 {a w : World} {h b o : Nat} (hb : Below h a w) (hbb : h ≤ b) (u x0 x1 x2 y0 y1 y2 : Value) :
    Below h a (((((((w.setCell ⟨h, 0, none⟩ x0).setCell ⟨h, 1, none⟩ x1).setCell ⟨h, 2, none⟩ x2).setCell ⟨b, o, none⟩ u).setCell ⟨h + 1, 0, none⟩ y0).setCell ⟨h + 1, 1, none⟩ y1).setCell ⟨h + 1, 2, none⟩ y2).drew :=
  (below3 ((below3 hb (Nat.le_refl _) x0 x1 x2).setCell hbb u) (Nat.le_succ _) y0 y1 y2).drew
theorem box_facts {w : World} {b : Nat} {x y z : Value} {t : TypeId} (h : w.heap[b]? = some (.cells #[x, y, z] t (0, 0))) : w.cell? ⟨b, 0, none⟩ = some x ∧ w.cell? ⟨b, 1, none⟩ = some y ∧ w.cell? ⟨b, 2, none⟩ = some z ∧ w.frozen? ⟨b, 0, none⟩ = false ∧ w.frozen? ⟨b, 1, none⟩ = false ∧ w.frozen? ⟨b, 2, none⟩ = false :=
  ⟨cell_of h, cell_of h, cell_of h, by simp [World.frozen?, h], by simp [World.frozen?, h], by simp [World.frozen?, h]⟩
section
variable {B : Nat} {w w' : World} {vf : Value} {g : Nat → Value} {s : Sk}
/-- What a call that gives the stack behind it owes. -/
def ROut (B : Nat) (w : World) (e0 : Int) (s' : Sk) (e : Ending) (w' : World) : Prop := ∃ vf' g', e = .returned (.tuple #[.int .i64 e0, rv s' vf']) ∧ Rc B w' vf' g' s'.fr ∧ Below w.heap.size w w'
theorem setFr_at (v : Int) : ∀ (fr : List (List Wo)) (a i : Nat) (f : List Wo), fr[a]? = some f → i < f.length → setFr v fr (pre fr a + i) = fr.modify a (fun f => f.modify i (fun u => { u with v := v }))
  | [], a, i, f, h, _ => by simp at h
  | q :: r, 0, i, f, h, hi => by
    simp at h; subst h
    simp [setFr, pre, hi]
  | q :: r, a + 1, i, f, h, hi => by
    have ih := setFr_at v r a i f (by simpa using h) hi
    have hp : pre (q :: r) (a + 1) = q.length + pre r a := by simp [pre]
    rw [hp]
    unfold setFr
    rw [if_neg (by omega), show q.length + pre r a + i - q.length = pre r a + i by omega, ih]
    simp
theorem Rc.set {fr : List (List Wo)} (R : Rc B w vf g fr) {a i b cap : Nat} {f : List Wo} (hf : fr[a]? = some f) (hi : i < f.length) (hg : g a = .slice (some ⟨b, 0, none⟩) f.length cap) (v : Int) :
    Rc B (w.setCell ⟨b, i * 2, none⟩ (.int .i64 v)) vf g (setFr v fr (pre fr a + i)) := by
  have ha := get_lt hf
  have hgb : (g a).ownBlock = some b := by rw [hg]; rfl
  have hne := R.ne ha hgb
  have hk : ∀ k, k ≠ b → (w.setCell ⟨b, i * 2, none⟩ (.int .i64 v)).heap[k]? = w.heap[k]? := fun k hk => Below.heap_setCell _ _ _ _ hk
  rw [setFr_at v fr a i f hf hi]
  refine ⟨?_, fun j f' hf' => ?_, fun j k hj hk hjk => R.apart j k (by simpa using hj) (by simpa using hk) hjk⟩
  · rw [List.length_modify]
    exact ownsRow_keep R.row fun k hk' => hk k (fun e => hne (e ▸ hk'))
  · rw [List.getElem?_modify] at hf'
    by_cases e : a = j
    · subst e
      rw [hf] at hf'
      simp at hf'
      subst hf'
      rcases (R.els a f hf).2 with ⟨h1, _⟩ | ⟨b', cap', cur, h1, h2, h3, h4, h5, h6, h7⟩
      · rw [hg] at h1; cases h1
      · rw [hg] at h1; cases h1
        have hu : f[i]? = some f[i] := List.getElem?_eq_getElem hi
        refine ⟨by rw [wcells_length], .inr ⟨b, cap, cur.setIfInBounds (i * 2) (.int .i64 v), by rw [List.length_modify]; exact hg, h2, heap_setCell_same w b _ _ h3, by simpa using h4, h5, by simpa using h6, ?_⟩⟩
        rw [List.length_modify, modify_set hu, wcells_set (u' := { f[i] with v := v }) hu rfl, ← h7, Array.toList_setIfInBounds, List.take_set]
    · have hf2 : fr[j]? = some f' := by simpa [e] using hf'
      refine ownsRow_keep (R.els j f' hf2) fun k hk' => hk k (fun ek => ?_)
      subst ek
      rcases R.apart a j ha (get_lt hf2) e with h1 | h1
      · rw [hgb] at h1; cases h1
      · exact h1 (by rw [hgb, hk'])
set_option maxHeartbeats 4000000 in
theorem rset_any (x v : Int) (w : World) (R : Rc B w vf g s.fr) (I : SInv s) (hB : B ≤ w.heap.size) (hx : x ≤ 9223372036854775807) :
    Calls Try.prog 19 #[rv s vf, .int .i64 x, .int .i64 v] w fun e w' => ROut B w (setP s x v).1 (setP s x v).2 e w' := by
  obtain ⟨ao, cp, hv, _⟩ := row_form R.row
  obtain ⟨W1, hW1⟩ : ∃ W1, (w.alloc (.cells #[.int .i64 s.base, .int .i64 s.most, vf] 31)).alloc (.cells #[.int .i64 0, .int .i64 0, .slice none 0 0] 31) = W1 := ⟨_, rfl⟩
  have z1 : W1.heap.size = w.heap.size + 1 + 1 := by rw [← hW1]; simp
  have R1 : Rc B W1 vf g s.fr := by rw [← hW1]; exact (R.alloc _).alloc _
  have bx1 : W1.heap[w.heap.size]? = some (.cells #[.int .i64 s.base, .int .i64 s.most, vf] 31 (0, 0)) := by rw [← hW1, Below.heap_alloc _ _ _ (by simp), heap_new _ _ rfl]
  have br1 : W1.heap[w.heap.size + 1]? = some (.cells #[.int .i64 0, .int .i64 0, .slice none 0 0] 31 (0, 0)) := by rw [← hW1, heap_new _ _ (by simp)]
  have BW := hide (show Below w.heap.size w W1 by rw [← hW1]; exact ((Below.refl _ _).alloc (Nat.le_refl _) _).alloc (by simp) _)
  have hfd := rfind_any (w := W1) x R1 I hx
  have HF := hide hfd
  have HW1 := hide hW1
  have HB1 := hide bx1
  have HR1 := hide br1
  have HRc := hide R1
  have HV := hide hv
  have IH := hide I
  have HLT := hide (show ∀ k, rown vf g s.fr.length k → k < w.heap.size from fun k hk => (R.own_lt hk).2)
  have hfew := I.few
  have hfit := I.fit
  have hm1 := I.m1
  clear hfd hW1 bx1 br1 R1 R hv I
  go_enter Try.func19, Try.ntmps19
  go_wp2_with fail
  rw [HW1.out]
  refine HF.out.mono ?_
  rintro e w1 ⟨ho, hb⟩
  have hz1 := hb.size
  rw [z1] at hz1
  have bx := (hb.block w.heap.size (by omega)).trans HB1.out
  have br := (hb.block (w.heap.size + 1) (by omega)).trans HR1.out
  have R2 := HRc.out.below hb
  have B2 := BW.out.trans (hb.mono (by omega))
  clear HF HW1 HB1 HR1 HRc BW hb
  unfold FndE at ho
  rcases ho with ⟨ho, rfl⟩ | ⟨a, i, f, ho, hf, hi, rfl⟩
  · obtain ⟨c0, c1, c2, _, _, _⟩ := box_facts bx
    obtain ⟨r0, r1, r2, f0, f1, f2⟩ := box_facts br
    have HO := hide (show setP s x v = (6, s) by unfold setP; rw [ho])
    have HR2 := hide R2
    have HB2 := hide B2
    rw [HV.out] at c2
    have hne : ¬ w.heap.size + 1 = w.heap.size := by omega
    clear bx br ho R2 B2
    go_wp2
    go_region
    all_goals go_wp2
    all_goals
      refine bodyPost_ret (v := .tuple #[.int .i64 6, rv s (.slice ao s.fr.length cp)]) ?_ rfl ?_
      · simp [results, Try.results19, go_sem, r0, r1, r2]
      · rw [HO.out]
        refine ⟨_, g, rfl, ?_, ?_⟩
        · have := HR2.out
          rw [HV.out] at this
          refine this.keep fun k hk => ?_
          have hk' := HLT.out k (by rw [HV.out]; exact hk)
          exact put3 w1 (w.heap.size + 1) k _ _ _ (by omega)
        · exact (below3 HB2.out (Nat.le_succ _) _ _ _).drew
  · have hu : f[i]? = some f[i] := List.getElem?_eq_getElem hi
    generalize f[i] = u at hu
    have hcp := rcopied_any (w := w1) R2 IH.out
    obtain ⟨c0, c1, c2, q0, q1, q2⟩ := box_facts bx
    have HO := hide (show setP s x v = (0, setS s (pre s.fr a + i) v) by unfold setP; rw [ho])
    have HC := hide hcp
    have HBx := hide bx
    have HBr := hide br
    have HFr := hide hf
    have HU := hide hu
    have HB2 := hide B2
    have ba : (a : Int) < (s.fr.length : Int) := by have := get_lt hf; omega
    have bi : (i : Int) < (f.length : Int) := by omega
    have bl : (f.length : Int) ≤ 65536 := by have := pre_get hf; have : s.fr.flatten.length = s.ws.length := rfl; omega
    have bn : (s.fr.length : Int) ≤ 1000 := by omega
    have d0 : decide ((a : Int) < 0) = false := by simp
    have hne : ¬ w.heap.size + 1 = w.heap.size := by omega
    clear hcp bx br ho hf hu R2 B2 hfew hfit hm1
    go_wp2_with fail
    refine HC.out.mono ?_
    rintro e w2 ⟨vf', g', rfl, Rn, hb3⟩
    have hz2 := hb3.size
    obtain ⟨F, cap, hvf', cF, hFl⟩ := Rn.frame (get_lt HFr.out)
    obtain ⟨b, cb, hgb, cu, _, ffz, hbl⟩ := Rn.word HFr.out HU.out
    have ffz2 := ffz (i * 2)
    have hF1 := (Rn.own_lt (.inl (show vf'.ownBlock = some F by rw [hvf']; rfl))).1
    have hb1 := (Rn.own_lt (.inr ⟨a, get_lt HFr.out, show (g' a).ownBlock = some b by rw [hgb]; rfl⟩)).1
    obtain ⟨c0', c1', c2', q0', q1', q2'⟩ := box_facts ((hb3.block w.heap.size (by omega)).trans HBx.out)
    obtain ⟨r0, r1, r2, f0, f1, f2⟩ := box_facts ((hb3.block (w.heap.size + 1) (by omega)).trans HBr.out)
    have HRn := hide Rn
    have HVF := hide hvf'
    have HGB := hide hgb
    have HB3 := hide (HB2.out.trans (hb3.mono (by omega)))
    rw [hgb] at cF
    subst hvf'
    have n1 : ¬ F = w.heap.size := by omega
    have n2 : ¬ b = w.heap.size := by omega
    have n3 : ¬ b = w.heap.size + 1 := by omega
    have n4 : ¬ F = w.heap.size + 1 := by omega
    have n5 : ¬ w.heap.size = b := by omega
    have n6 : ¬ w.heap.size + 1 = b := by omega
    have n7 : ¬ w.heap.size = w.heap.size + 1 := by omega
    clear ffz Rn hgb hb3 HC c0 c1 c2 q0 q1 q2 HB2 HBx HBr
    generalize hfl : s.fr.length = n at *
    generalize hkk : f.length = k at *
    have HFL := hide hfl
    have HKK := hide hkk
    clear hfl hkk
    go_wp2
    go_region
    all_goals go_wp2
    all_goals
      refine bodyPost_ret (v := .tuple #[.int .i64 0, rv s (.slice (some ⟨F, 0, none⟩) n cap)]) ?_ rfl ?_
      · simp [results, Try.results19, go_sem, r0, r1, r2]
      · rw [HO.out]
        have hRs := HRn.out.set HFr.out (by rw [HKK.out]; omega) (by rw [HKK.out]; exact HGB.out) v
        have hfin : Rc B (((((((w2.setCell ⟨w.heap.size, 0, none⟩ (.int .i64 s.base)).setCell ⟨w.heap.size, 1, none⟩ (.int .i64 s.most)).setCell ⟨w.heap.size, 2, none⟩ (.slice (some ⟨F, 0, none⟩) n cap)).setCell ⟨b, i * 2, none⟩ (.int .i64 v)).setCell ⟨w.heap.size + 1, 0, none⟩ (.int .i64 s.base)).setCell ⟨w.heap.size + 1, 1, none⟩ (.int .i64 s.most)).setCell ⟨w.heap.size + 1, 2, none⟩ (.slice (some ⟨F, 0, none⟩) n cap)).drew (.slice (some ⟨F, 0, none⟩) n cap) g' (setFr v s.fr (pre s.fr a + i)) :=
          (hRs.mono (by omega)).keep fun k' hk => seven w2 w.heap.size b (i * 2) k' _ _ _ _ _ _ _ (by have := (hRs.own_lt hk).1; omega) (by have := (hRs.own_lt hk).1; omega)
        have hbel := below7 (o := i * 2) HB3.out (show w.heap.size ≤ b by omega) (.int .i64 v) (.int .i64 s.base) (.int .i64 s.most) (.slice (some ⟨F, 0, none⟩) n cap) (.int .i64 s.base) (.int .i64 s.most) (.slice (some ⟨F, 0, none⟩) n cap)
        unfold ROut
        exact ⟨.slice (some ⟨F, 0, none⟩) n cap, g', rfl, hfin, hbel⟩
end
end Go.Proofs.Ytjapfckadikjiaa
