/- For every two numbers and every script the law StackPlays returns true and leaves its arguments as they were: whatever is done with a stack, in any order, answers as the document says. No conditions. -/
import Derived.Test.YtjapfckadikjiaaRows
import Derived.Test.YtjapfckadikjiaaRsL
import Derived.ProofKit
import Derived.OpenShut
import Derived.Deep.Slices
import Derived.Deep.Strs
namespace Go.Proofs.Ytjapfckadikjiaa.stackPlaysProof
open Go.ChangeShapes Go.WideShapes Go.ChangeAt Go.RowKit

theorem own : ownKnob Try.prog.godebug = none := by kernel_rfl
theorem laidOut : laidOutB Try.prog = true := by kernel_rfl
theorem sizes : Try.prog.cellsOf 34 = 4 ∧ Try.prog.cellsOf 3 = 1 ∧ Try.prog.cellsOf 32 = 1 ∧ Try.prog.cellsOf 4 = 1 := ⟨by kernel_rfl, by kernel_rfl, by kernel_rfl, by kernel_rfl⟩
theorem four_of {α : Type} {cs : List α} (h : cs.length = 4) : ∃ c0 c1 c2 c3, cs = [c0, c1, c2, c3] := by
  match cs, h with
  | [c0, c1, c2, c3], _ => exact ⟨c0, c1, c2, c3, rfl⟩
theorem trod_struct4 {H : Type} {enc : TypeId × Value → H} {P : Program} {w : World} {base : Nat} {spare : Nat → Bool} {held : Bool} {t : TypeId} {f0 f1 f2 f3 : Field} {fuel : Nat} {cs : List Value} {x : DataW H × List MemPlace} (ht : P.underlying t = some (.struct #[f0, f1, f2, f3])) (h : DataW.trod enc P w base spare held fuel t cs = some x) :
    ∃ y0 y1 y2 y3 n, cs.length = P.cellsOf t ∧ DataW.trod enc P w base spare held n f0.type ((cs.drop f0.offset).take (P.cellsOf f0.type)) = some y0 ∧
      DataW.trod enc P w base spare held n f1.type ((cs.drop f1.offset).take (P.cellsOf f1.type)) = some y1 ∧ DataW.trod enc P w base spare held n f2.type ((cs.drop f2.offset).take (P.cellsOf f2.type)) = some y2 ∧ DataW.trod enc P w base spare held n f3.type ((cs.drop f3.offset).take (P.cellsOf f3.type)) = some y3 := by
  obtain ⟨xs, n, _, rfl, hl, hlen, hf⟩ := DataW.trod_struct ht h
  match xs, hlen with
  | [y0, y1, y2, y3], _ => exact ⟨y0, y1, y2, y3, n, hl, by simpa using hf 0 f0 rfl, by simpa using hf 1 f1 rfl, by simpa using hf 2 f2 rfl, by simpa using hf 3 f3 rfl⟩
/-- A list of truths within an argument. -/
theorem bools_of {H : Type} {enc : TypeId × Value → H} {w : World} {fuel : Nat} {vp : Value} {x : DataW H × List MemPlace} (h : DataW.trod enc Try.prog w 0 (fun _ => true) true fuel 32 [vp] = some x) :
    ∃ ps : List Bool, BoolsR w vp ps ∧ ∃ ap cp, vp = .slice ap ps.length cp ∧ ps.length ≤ cp ∧ cp ≤ maxLen := by
  rcases Go.Deep.open_slice1 Try.underlying32 sizes.2.2.2 h with ⟨hcs, _⟩ | ⟨a, len, cap, mm, nn, V, D, Pl, hcs, _, hlc, hcm, hmm, _, hel⟩
  · simp at hcs
    subst hcs
    exact ⟨[], ⟨none, 0, rfl, by simp⟩, none, 0, rfl, by simp, Nat.zero_le _⟩
  · simp at hcs
    subst hcs
    simp only [if_true] at hmm
    subst hmm
    have hi : ∀ i, i < len → ∃ q : Bool, w.cell? (a.add i) = some (.bool q) := fun i hi => by
      obtain ⟨hc, ht⟩ := hel i (by omega)
      obtain ⟨q, hq, _⟩ := DataW.trod_bool Try.underlying4 ht
      simp at hq
      exact ⟨q, by rw [hc, hq]⟩
    obtain ⟨f, hf⟩ := Go.Deep.choose_lt (α := Bool) hi
    have hl : ((List.range len).map f).length = len := by simp
    refine ⟨(List.range len).map f, ⟨some a, mm, by rw [hl], fun i q hq => ?_⟩, some a, mm, by rw [hl], by rw [hl]; exact hlc, hcm⟩
    have hil := get_lt hq
    rw [hl] at hil
    rw [List.getElem?_map, List.getElem?_range hil] at hq
    simp at hq
    subst hq
    have hc := hf i hil
    obtain ⟨b, off, spot⟩ := a
    have hspot : spot = none := by
      have h0 := hf 0 (by omega)
      simpa [Addr.add] using World.cell?_spot h0
    subst hspot
    rw [show (⟨b, off, none⟩ : Addr).add i = ⟨b, off + i, none⟩ by cases i <;> simp [Addr.add]] at hc
    exact ⟨b, off, rfl, World.block_lt_of_cell? w _ hc, hc⟩
instance : Inhabited OpD := ⟨⟨0, 0, 0, .slice none 0 0, []⟩⟩
/-- What an operation reads as. -/
theorem op_of {H : Type} {enc : TypeId × Value → H} {w : World} {fuel : Nat} {cs : List Value} {x : DataW H × List MemPlace} (h : DataW.trod enc Try.prog w 0 (fun _ => true) true fuel 34 cs = some x) :
    ∃ o : OpD, cs = [.int .i64 o.k, .int .i64 o.x, .int .i64 o.y, o.vp] ∧ BoolsR w o.vp o.ps ∧ (∃ ap cp, o.vp = .slice ap o.ps.length cp ∧ o.ps.length ≤ cp ∧ cp ≤ maxLen) ∧ o.x ≤ 9223372036854775807 ∧ o.y ≤ 9223372036854775807 := by
  obtain ⟨y0, y1, y2, y3, n, hl, h0, h1, h2, h3⟩ := trod_struct4 Try.underlying34 h
  obtain ⟨c0, c1, c2, c3, rfl⟩ := four_of (hl.trans sizes.1)
  simp only [sizes.2.1, sizes.2.2.1, List.drop_zero, List.drop_succ_cons, List.take_succ_cons, List.take_zero] at h0 h1 h2 h3
  obtain ⟨k, e0, _, _⟩ := DataW.trod_int Try.underlying3 h0
  obtain ⟨m, e1, _, hw1⟩ := DataW.trod_int Try.underlying3 h1
  obtain ⟨v, e2, _, hw2⟩ := DataW.trod_int Try.underlying3 h2
  obtain ⟨ps, hb, hc⟩ := bools_of h3
  injection e0 with e0 _
  injection e1 with e1 _
  injection e2 with e2 _
  subst e0 e1 e2
  exact ⟨⟨k, m, v, c3, ps⟩, rfl, hb, hc, (bounds_i64 hw1).2, (bounds_i64 hw2).2⟩
/-- A script that is an argument. -/
theorem ops_of {H : Type} {enc : TypeId × Value → H} {w : World} {base : Nat} {v : Value} {d : DataW H} {p : List MemPlace} (hok : Value.okWide Try.prog w .any base 22 v) (h : DataW.Trod enc Try.prog w 0 (fun _ => true) true 22 v d p) :
    ∃ l : List OpD, Scr w v l := by
  obtain ⟨a0, len, cap, rfl⟩ := okWide_slice Try.underlying22 hok
  obtain ⟨fuel, hf⟩ := h
  rcases Go.Deep.open_slice Try.underlying22 hf with ⟨hcs, _⟩ | ⟨a, len', cap', mm, nn, D, Pl, hcs, _, hlc, _, hmm, _, hel⟩
  · simp [Value.cells] at hcs
    obtain ⟨rfl, rfl, rfl⟩ := hcs
    exact ⟨[], none, 0, rfl, by simp⟩
  · simp [Value.cells] at hcs
    obtain ⟨rfl, rfl, rfl⟩ := hcs
    simp only [if_true] at hmm
    subst hmm
    rw [sizes.1] at hel
    have hi : ∀ i, i < len → ∃ o : OpD, w.cells? 0 (a.add (i * 4)) 4 = some [.int .i64 o.k, .int .i64 o.x, .int .i64 o.y, o.vp] ∧ BoolsR w o.vp o.ps ∧ (∃ ap cp, o.vp = .slice ap o.ps.length cp ∧ o.ps.length ≤ cp ∧ cp ≤ maxLen) ∧ o.x ≤ 9223372036854775807 ∧ o.y ≤ 9223372036854775807 := fun i hi => by
      obtain ⟨cs', hc, ht⟩ := hel i (by omega)
      obtain ⟨o, rfl, h1⟩ := op_of ht
      exact ⟨o, hc, h1⟩
    obtain ⟨f, hf⟩ := Go.Deep.choose_lt (α := OpD) hi
    refine ⟨(List.range len).map f, some a, mm, by simp, fun j o hj => ?_⟩
    have hjl := get_lt hj
    rw [List.length_map, List.length_range] at hjl
    rw [List.getElem?_map, List.getElem?_range hjl] at hj
    simp at hj
    subst hj
    have hcell : ∀ r, r < 4 → w.cell? (a.add (j * 4 + r)) = [Value.int .i64 (f j).k, .int .i64 (f j).x, .int .i64 (f j).y, (f j).vp][r]? := fun r hr => by
      have := (World.cells?_some (hf j hjl).1).2.2 r hr
      rwa [Go.Deep.add_add] at this
    obtain ⟨b, off, spot⟩ := a
    have c0 := hcell 0 (by omega)
    have c1 := hcell 1 (by omega)
    have c2 := hcell 2 (by omega)
    have c3 := hcell 3 (by omega)
    have hspot : spot = none := by
      have h0 := (World.cells?_some (hf 0 (by omega)).1).2.2 0 (by omega)
      rw [Go.Deep.add_add] at h0
      simpa [Addr.add] using World.cell?_spot h0
    subst hspot
    have ad : ∀ r, (⟨b, off, none⟩ : Addr).add r = ⟨b, off + r, none⟩ := fun r => by cases r <;> simp [Addr.add]
    rw [ad] at c0 c1 c2 c3
    refine ⟨b, off, rfl, World.block_lt_of_cell? w _ c0, ?_, ?_, ?_, ?_, (hf j hjl).2⟩
    · rw [show off + j * 4 = off + (j * 4 + 0) by omega]; exact c0
    · rw [show off + j * 4 + 1 = off + (j * 4 + 1) by omega]; exact c1
    · rw [show off + j * 4 + 2 = off + (j * 4 + 2) by omega]; exact c2
    · rw [show off + j * 4 + 3 = off + (j * 4 + 3) by omega]; exact c3

set_option maxRecDepth 100000 in
theorem lifted (os : Os) (started : os.Started) (H : Type) (enc : TypeId × Value → H) :
    ReturnsInHanded {} Try.checked os 3 .any (Rows.stackPlaysSpec.pre6 enc Try.prog Try.f3 Rows.stackPlaysRow.domain false) (Rows.stackPlaysSpec.post enc Try.prog Try.f3 false true false false) := by
  refine returnsInHanded_of_change (C := Try.checked) own started (by kernel_rfl) Try.func3
    (ChangeSpec.witness6 (enc := enc) (C := Try.checked) false ⟨#[], #[.int .i64 0, .int .i64 0, .slice none 0 0], []⟩ 8 (by kernel_rfl) (by kernel_rfl) (by kernel_rfl) (by kernel_rfl)) ?_
  intro W base args ds gs before hval0 hW hcnd _
  have hval : ∀ (j : Nat) t v, Try.f3.params[j]? = some t → args[j]? = some v → Value.okWide Try.prog W .any base t v := hval0
  have hW' := hW
  obtain ⟨p, q, hA0, hV, rfl, hfz, hnd⟩ := hW
  have hA : DataW.TrodAll enc Try.prog W 0 (fun _ => true) true Try.f3.params.toList args.toList ds p := hA0
  rw [Try.params3] at hA hval
  obtain ⟨v0, vs0, d0, ds0, p0, q0, hargs, rfl, rfl, h0, r0⟩ := trodAll_cons hA
  obtain ⟨v1, vs1, d1, ds1, p1, q1, rfl, rfl, rfl, h1, r1⟩ := trodAll_cons r0
  obtain ⟨v2, vs2, d2, ds2, p2, q2, rfl, rfl, rfl, h2, r2⟩ := trodAll_cons r1
  obtain ⟨rfl, rfl, rfl⟩ := trodAll_nil r2
  obtain rfl : args = #[v0, v1, v2] := by cases args; simp_all
  obtain ⟨rfl, rfl⟩ := trodVars_none hV
  obtain ⟨a0, rfl, rfl, rfl, w0⟩ := open_int Try.underlying3 (hval 0 3 v0 rfl rfl) h0
  obtain ⟨a1, rfl, rfl, rfl, w1⟩ := open_int Try.underlying3 (hval 1 3 v1 rfl rfl) h1
  obtain ⟨l, hl⟩ := ops_of (hval 2 22 v2 rfl rfl) h2
  clear hA0 hval0
  simp only [List.append_nil] at hW'
  have hlt : ∀ x ∈ p2, x.block < W.heap.size := fun x hx => by simpa using hW'.lt x hx
  refine (plays_law a0 a1 v2 l W hl).mono fun e W' ⟨he, hb⟩ => ?_
  subst he
  have t2 : DataW.Trod enc Try.prog W' 0 (fun b => decide (b < W.heap.size)) true 22 v2 d2 p2 := Below.trod laidOut (by kernel_rfl) (of_decide_eq_true (by kernel_rfl)) h2 hb (fun x hx => hlt x hx)
  exact ⟨_, rfl, _, _, _, [], [] ++ ([] ++ (p2 ++ [])), [], hW', (trodAll_cons_mk (shut_bool Try.underlying4 _) trodAll_mk0), (trodAll_cons_mk (shut_int Try.underlying3 w0) (trodAll_cons_mk (shut_int Try.underlying3 w1) (trodAll_cons_mk t2 trodAll_mk0))), rfl, hb.frame _, fun h => by cases h⟩

theorem over : Rows.stackPlaysRow.holds Try.pinned (OpenSpec.ofChange Rows.stackPlaysSpec) :=
  OpenClaim.holds_of_wide 3 Try.f3 rfl rfl rfl rfl rfl rfl rfl ⟨rfl, rfl, rfl, rfl, rfl⟩ rfl rfl rfl rfl rfl (by kernel_rfl) Try.func3 (by kernel_rfl)
    (of_decide_eq_true (by kernel_rfl)) (by unfold Func.isWrapper; first | (rw [if_pos (by decide +kernel)]; kernel_rfl) | (rw [if_neg (by decide +kernel)]; exact ⟨rfl, rfl⟩))
    (fun os started H enc _ => lifted os started H enc)
end Go.Proofs.Ytjapfckadikjiaa.stackPlaysProof
namespace Go.Proofs.Ytjapfckadikjiaa
/-- The statement. -/
theorem stackPlays_holds : Rows.StackPlaysSaid := stackPlaysProof.over
#print axioms stackPlays_holds
end Go.Proofs.Ytjapfckadikjiaa
