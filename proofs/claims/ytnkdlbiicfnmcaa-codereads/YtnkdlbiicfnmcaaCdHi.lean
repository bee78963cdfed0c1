/- The document's reader: ints. -/
import Derived.Test.YtnkdlbiicfnmcaaCdHc
import Derived.Test.YtnkdlbiicfnmcaaCdR4
namespace Go.Proofs.Ytnkdlbiicfnmcaa
open Go.RowKit
theorem loop_short {α : Type} {it : Rs → α × Rs} (h : Eats it) : ∀ (n : Nat) (s : Rs), s.bad = false → s.rest.length < n → (loopR it n s).2 = failS
  | 0, s, _, hn => by omega
  | n + 1, s, hb, hn => by
    rw [loopR_next it hb]
    rcases h s with h1 | ⟨h1, h2⟩
    · simp only [h1]
      cases n <;> rfl
    · simp only []
      exact loop_short h n (it s).2 (by rw [h1]; exact hb) (by omega)
/-- One item more, that is there already. -/
theorem RowP.push {α : Type} {T k bytes st base : Nat} {z : Value} {i0 : TypeInfo} {P : World → List Value → α → Prop} (hKP : KeepX [T] P) (hu : Try.prog.underlying st = some (.slice T)) (hi : Try.prog.info? T = some i0) (hz0 : i0.zero = some z) (hz1 : i0.size = k) (hz2 : i0.bytes = bytes) (hzk : z.cells.size = k) (hk : 0 < k) (hby : bytes ≤ 1000)
    {W : World} {v : Value} {l : List α} {x : α} {cs : List Value} (R : RowP T k P base W v l) (hB : base ≤ W.heap.size) (hcl : cs.length = k) (hone : ∀ u ∈ cs, u.oneCell' = true) {b : Nat} (hblk : W.heap[b]? = some (.cells cs.toArray T (0, 0))) (hx : P W cs x) (hlen : l.length ≤ 8000000) (ty : TypeId) :
    ∃ g cap w2, (Builtin.append_ #[st, st] ty #[v, .slice (some ⟨b, 0, none⟩) 1 1]).run Try.prog W = .ok (.slice (some ⟨g, 0, none⟩) (l.length + 1) cap) w2 ∧ RowP T k P base w2 (.slice (some ⟨g, 0, none⟩) (l.length + 1) cap) (l ++ [x]) ∧ W.grownBy w2 v.ownBlock ∧ SmX [T] W w2 := by
  obtain ⟨xs, hown, hch⟩ := R
  obtain ⟨g, cap, w2, hrun, hown2, hgrow, hat, hlt⟩ := run_append_lies (P := Try.prog) W st ty base T i0 z k bytes hu hi hz0 hz1 hz2 hzk hk v l.length xs hown ⟨b, 0, none⟩ 1 1 cs (by omega) (fun j u hj => by
    rw [show (⟨b, 0, none⟩ : Addr).add j = ⟨b, j, none⟩ by cases j <;> simp [Addr.add]]
    exact cell_of hblk (by simpa using hj)) hone (by omega) (by simp only [maxLen]; omega) (by
      have : (l.length + 1) * bytes ≤ 8000001 * 1000 := Nat.mul_le_mul (by omega) hby
      omega) hB _ rfl
  have hsm : SmX [T] W w2 := fun j d t f hj ht => by
    refine hgrow.block j (lt_of_block hj) (fun e => ?_)
    rcases hown.2 with ⟨h1, _⟩ | ⟨q, _, cur, h1, _, h3, _⟩
    · rw [h1] at e; cases e
    · rw [h1] at e
      cases e
      rw [h3] at hj
      cases hj
      exact ht (by simp)
  refine ⟨g, cap, w2, hrun, ⟨xs ++ cs, by rw [List.length_append, List.length_singleton]; exact hown2, ?_⟩, hgrow, hsm⟩
  exact ChunkP.snoc (hch.keep hKP hsm) hown.1 hcl (hKP _ _ _ _ hsm hx)
section
variable {B A : Nat} {w w' : World} {s : Rs}
/-- What ints answers. -/
def DiO (B A : Nat) (w : World) (s : Rs) (e : Ending) (w' : World) : Prop := ∃ (v : Value) (l : List Int) (s' : Rs), e = .returned v ∧ RowP 3 1 IntP w.heap.size w' v l ∧ Rd B A w' s' ∧ Fr A w w' ∧ s'.rest.length ≤ s.rest.length ∧
  ((s'.bad = false ∧ s.bad = false ∧ intsR s = (l, s')) ∨ (s'.bad = true ∧ (s.bad = true ∨ (intsR s).2 = failS)))
/-- The loop. -/
def DiR (B A : Nat) (w : World) (n : Nat) (s0 : Rs) (o a : Value) (wr : World) : Prop := ∃ (l : List Int) (s1 : Rs), a = .int .i64 (l.length : Nat) ∧ l.length ≤ n ∧ RowP 3 1 IntP w.heap.size wr o l ∧ Rd B A wr s1 ∧ Fr A w wr ∧ s1.rest.length ≤ s0.rest.length ∧
  ((s1.bad = false ∧ s0.bad = false ∧ (l ++ (loopR numR (n - l.length) s1).1, (loopR numR (n - l.length) s1).2) = loopR numR n s0) ∨ (s1.bad = true ∧ (s0.bad = true ∨ (loopR numR n s0).2 = failS)))
theorem Rd.fr (L : Rd B A w s) (h : Below w.heap.size w w') : Rd B A w' s := L.keep (fun j hj => h.block j (by have := L.lt; have := L.1; omega)) (h.block A L.lt)
set_option maxRecDepth 100000 in
set_option maxHeartbeats 1000000 in
theorem dints_any (L : Rd B A w s) (hl : s.rest.length ≤ MB) : Calls Try.prog 30 #[.pointer (some ⟨A, 0, none⟩)] w fun e w' => DiO B A w s e w' := by
  obtain ⟨W1, hW1⟩ : ∃ W1, w.alloc (.cells #[] 3) = W1 := ⟨_, rfl⟩
  have B1 : Below w.heap.size w W1 := by rw [← hW1]; exact (Below.refl _ _).alloc (Nat.le_refl _) _
  have L1 := hide (L.fr B1)
  have C1 := hide (dcount_any L1.out hl)
  have R1 := hide (show RowP 3 1 IntP w.heap.size W1 (.slice (some ⟨w.heap.size, 0, none⟩) 0 0) ([] : List Int) from ⟨[], ⟨rfl, .inr ⟨w.heap.size, 0, #[], rfl, Nat.le_refl _, by rw [← hW1]; exact heap_new _ _ rfl, Nat.le_refl _, by decide, rfl, rfl⟩⟩, fun j x h => by simp at h⟩)
  have F1 := hide (show Fr A w W1 from Fr.of_below B1)
  have HL := hide hl
  have HAl := hide L.lt
  clear L hl B1
  go_enter Try.func30, Try.ntmps30
  go_wp2_with fail
  refine C1.out.mono ?_
  rintro e w2 ⟨n, s1, rfl, L2, F2, hle, hag⟩
  have HL2 := hide L2
  have HF2 := hide (F1.out.trans F2)
  have HR2 := hide (show RowP 3 1 IntP w.heap.size w2 (.slice (some ⟨w.heap.size, 0, none⟩) 0 0) ([] : List Int) from by
    obtain ⟨xs, ho, hc⟩ := R1.out
    refine ⟨xs, ownsRow_keep ho fun q hq => ?_, hc⟩
    cases hq
    exact F2.block w.heap.size (ho.lt _ rfl).2 (by have := HAl.out; omega))
  have HLe := hide hle
  have HAG := hide hag
  have HNM := hide (show n ≤ 4194304 by
    have := HL.out
    rcases hag with ⟨_, _, _, h⟩ | ⟨_, h, _⟩
    · simp only [MB] at this; omega
    · omega)
  have HIE := hide (show intsR s = loopR numR (cntR s).1 (cntR s).2 from rfl)
  have bn : (n : Int) ≤ 4194304 := by have := HNM.out; omega
  clear L2 F2 hle hag C1 R1 F1 L1
  go_wp2
  clear hW1
  go_loopw [3, 5] (fun o a wr => DiR B A w n s1 o a wr) (fun _ a _ => n - (intOf a).toNat)
  case atStart =>
    refine ⟨[], s1, rfl, Nat.zero_le _, HR2.out, HL2.out, HF2.out, Nat.le_refl _, ?_⟩
    cases hb : s1.bad with
    | false => exact .inl ⟨rfl, rfl, by simp⟩
    | true => exact .inr ⟨rfl, .inl rfl⟩
  case round =>
    obtain ⟨l, s2, rfl, hln, hrow, hRd, hFr, hle2, hag2⟩ := hrel
    have HROW := hide hrow
    have HRD := hide hRd
    have HFR := hide hFr
    have HLE2 := hide hle2
    have HAG2 := hide hag2
    obtain ⟨xs0, hrow0, _⟩ := hrow
    obtain ⟨va, vc, hv⟩ := row_form hrow0
    subst hv
    obtain ⟨_, vr, h2, _⟩ := hRd
    have c1 : wr.cell? ⟨A, 1, none⟩ = some (.bool s2.bad) := cell_of h2 rfl
    have FIN := hide (show (s2.bad = true ∨ n ≤ l.length) → DiO B A w s (.returned (.slice va l.length vc)) wr from fun hfin => by
      refine ⟨_, l, s2, rfl, HROW.out, HRD.out, HFR.out, Nat.le_trans HLE2.out HLe.out, ?_⟩
      rcases HAG2.out with ⟨g1, g2, g3⟩ | ⟨g1, g2⟩
      · rcases hfin with h | h
        · rw [g1] at h; cases h
        · rcases HAG.out with ⟨_, k2, k3, _⟩ | ⟨k1, _⟩
          · left
            refine ⟨g1, k2, ?_⟩
            rw [HIE.out, k3, ← g3, show n - l.length = 0 by omega]
            simp [loopR]
          · rw [g2] at k1; cases k1
      · right
        refine ⟨g1, ?_⟩
        rcases HAG.out with ⟨k1, _, k3, _⟩ | ⟨_, _, k3⟩
        · right
          rcases g2 with g2 | g2
          · rw [k1] at g2; cases g2
          · rw [HIE.out, k3]; exact g2
        · rcases k3 with k3 | k3 | ⟨k3, k4⟩
          · exact .inl k3
          · right
            rw [HIE.out, k3]
            cases (cntR s).1 <;> rfl
          · right
            rw [HIE.out]
            exact loop_short numR_eats _ _ k3 k4)
    clear hFr hle2 hag2 hrow0 h2
    by_cases hlt : l.length < n
    · have d1 : decide ((l.length : Int) < (n : Int)) = true := by simp; omega
      have d2 : decide (l.length < n) = true := by simpa using hlt
      cases hb : s2.bad with
      | true =>
        rw [hb] at c1
        have HB := hide hb
        clear hb
        generalize l.length = ll at *
        go_wp2
        go_ret
        exact FIN.out (.inl HB.out)
      | false =>
        rw [hb] at c1
        have HB := hide hb
        clear hb
        have C3 := hide (dnum_any HRD.out (Nat.le_trans HLE2.out (Nat.le_trans HLe.out HL.out)))
        have HLL := hide (show l.length ≤ 8000000 by have := HNM.out; omega)
        generalize hll : l.length = ll at *
        have HLll := hide hll
        clear hll
        go_wp2_with fail
        refine C3.out.mono ?_
        rintro e w3 ⟨x, s3, rfl, L3, G3, F3, hx⟩
        have hAw : ∃ vA, wr.heap[A]? = some (.cells #[vA, .bool s2.bad] 74 (0, 0)) := by obtain ⟨_, vA, h, _⟩ := HRD.out; exact ⟨vA, h⟩
        obtain ⟨vA, hAw⟩ := hAw
        have R3 : RowP 3 1 IntP w.heap.size w3 (.slice va ll vc) l := by
          obtain ⟨xs, ho, hc⟩ := HROW.out
          refine ⟨xs, ownsRow_keep ho fun q hq => F3.block q (ho.lt q hq).2 (fun e => ?_), fun j y hy => hc j y hy⟩
          subst e
          rcases ho.2 with ⟨h1, _⟩ | ⟨q', _, cur, h1, _, h3, _⟩
          · rw [h1] at hq; cases hq
          · rw [h1] at hq; cases hq; rw [hAw] at h3; cases h3
        obtain ⟨W4, hW4⟩ : ∃ W4, w3.alloc (.cells #[.int .i64 x] 3) = W4 := ⟨_, rfl⟩
        have B4 : Below w3.heap.size w3 W4 := by rw [← hW4]; exact (Below.refl _ _).alloc (Nat.le_refl _) _
        have hz3 : w.heap.size ≤ w3.heap.size := Nat.le_trans HFR.out.size F3.size
        have R4 : RowP 3 1 IntP w.heap.size W4 (.slice va ll vc) l := by
          obtain ⟨xs, ho, hc⟩ := R3
          exact ⟨xs, ownsRow_keep ho fun q hq => B4.block q (ho.lt q hq).2, fun j y hy => hc j y hy⟩
        obtain ⟨i0, hi, hz0, hz1, hz2⟩ := info_parts Try.info3
        obtain ⟨g, cap, w5, hrun, R5, hgr, hsm⟩ := RowP.push (x := x) (cs := [.int .i64 x]) (int_keep _) Try.underlying53 hi hz0 hz1 hz2 rfl (by decide) (by decide) R4 (Nat.le_trans hz3 B4.size) rfl (by simp [Value.oneCell']) (b := w3.heap.size) (by rw [← hW4]; exact heap_new _ _ rfl) ⟨rfl, hx⟩ (by rw [HLll.out]; exact HLL.out) 53
        rw [HLll.out] at hrun R5
        have hown : ∀ q, (Value.slice va ll vc).ownBlock = some q → w.heap.size ≤ q := fun q hq => by obtain ⟨xs, ho, _⟩ := R4; exact (ho.lt q hq).1
        have hk5 : ∀ j, j < w.heap.size → w5.heap[j]? = w3.heap[j]? := fun j hj => by
          rw [hgr.block j (by have := B4.size; omega) (fun e => by have := hown j e.symm; omega), B4.block j (by omega)]
        have HR5 := hide R5
        have HL5 := hide (L3.keep (w' := w5) (fun j hj => hk5 j (by have := L3.1; have := HAl.out; omega)) (hk5 A HAl.out))
        have HF5 := hide (show Fr A w w5 from ⟨hgr.os.trans (B4.os.trans (F3.os.trans HFR.out.os)), hgr.tape.trans (B4.tape.trans (F3.tape.trans HFR.out.tape)), hgr.output.trans (B4.output.trans (F3.output.trans HFR.out.output)), Nat.le_trans hz3 (Nat.le_trans B4.size hgr.size), fun j hj hA => (hk5 j hj).trans ((F3.block j (Nat.lt_of_lt_of_le hj HFR.out.size) hA).trans (HFR.out.block j hj hA))⟩)
        have HL35 := hide (Nat.le_trans G3.less HLE2.out)
        have HAG3 := hide (show (s3.bad = false ∧ s1.bad = false ∧ ((l ++ [x]) ++ (loopR numR (n - (ll + 1)) s3).1, (loopR numR (n - (ll + 1)) s3).2) = loopR numR n s1) ∨ (s3.bad = true ∧ (s1.bad = true ∨ (loopR numR n s1).2 = failS)) from by
          rcases HAG2.out with ⟨g1, g2, g3⟩ | ⟨g1, _⟩
          · rw [show n - ll = n - (ll + 1) + 1 by omega, loopR_next numR HB.out] at g3
            rcases G3 with ⟨h1, _, h3⟩ | ⟨h1, _, h3⟩
            · left
              refine ⟨h1, g2, ?_⟩
              rw [h3] at g3
              rw [List.append_assoc]
              exact g3
            · right
              refine ⟨h1, .inr ?_⟩
              rcases h3 with h3 | h3
              · rw [HB.out] at h3; cases h3
              · rw [← g3]
                simp only [h3]
                cases (n - (ll + 1)) <;> rfl
          · rw [HB.out] at g1; cases g1)
        have HRUN := hide hrun
        clear R3 R4 R5 hgr hsm hown hk5 hrun B4 hz3 hi hz0 hz1 hz2 L3 G3 F3 hx hAw C3
        go_wp2_with (at_builtin; refine wpList_append_eq rfl _ _ 53 53 rfl rfl rfl HRUN.out ?_)
        go_wp2
        go_roundw
        case rel =>
          refine ⟨l ++ [x], s3, ?_, ?_, HR5.out, HL5.out, HF5.out, HL35.out, ?_⟩
          · rw [List.length_append, List.length_singleton, HLll.out]; go_num
          · rw [List.length_append, List.length_singleton, HLll.out]; exact hlt
          · rw [List.length_append, List.length_singleton, HLll.out]; exact HAG3.out
        case measure => rw [intOf_int]; simp [intOf]; omega
    · have d1 : decide ((l.length : Int) < (n : Int)) = false := by simp; omega
      have d2 : decide (l.length < n) = false := by simpa using hlt
      have HGe := hide (show n ≤ l.length by omega)
      clear hlt
      generalize l.length = ll at *
      go_wp2
      go_ret
      exact FIN.out (.inr HGe.out)
end
end Go.Proofs.Ytnkdlbiicfnmcaa
