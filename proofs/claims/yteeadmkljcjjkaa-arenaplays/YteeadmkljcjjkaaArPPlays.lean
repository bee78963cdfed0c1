/- For every number of words and every script the law ArenaPlays returns true and leaves its arguments as they were: whatever is done with an arena, in any order, answers as the document says. No conditions. -/
import Derived.Test.YteeadmkljcjjkaaRows
import Derived.Test.YteeadmkljcjjkaaArRt
import Derived.ProofKit
import Derived.OpenShut
import Derived.Deep.Slices
import Derived.Deep.Strs
namespace Go.Proofs.Yteeadmkljcjjkaa.arenaPlaysProof
open Go.ChangeShapes Go.WideShapes Go.ChangeAt Go.RowKit

theorem own : ownKnob Try.prog.godebug = none := by kernel_rfl
theorem laidOut : laidOutB Try.prog = true := by kernel_rfl
theorem sizes : Try.prog.cellsOf 34 = 3 ∧ Try.prog.cellsOf 3 = 1 := ⟨by kernel_rfl, by kernel_rfl⟩
theorem three_of {α : Type} {cs : List α} (h : cs.length = 3) : ∃ c0 c1 c2, cs = [c0, c1, c2] := by
  match cs, h with
  | [c0, c1, c2], _ => exact ⟨c0, c1, c2, rfl⟩
/-- What an operation reads as. -/
theorem op_of {H : Type} {enc : TypeId × Value → H} {w : World} {fuel : Nat} {cs : List Value} {d : DataW H} {p : List MemPlace} (h : DataW.trod enc Try.prog w 0 (fun _ => true) true fuel 34 cs = some (d, p)) :
    ∃ u : Int × Int × Int, cs = [.int .i64 u.1, .int .i64 u.2.1, .int .i64 u.2.2] ∧ u.2.1 ≤ 9223372036854775807 := by
  obtain ⟨y0, y1, y2, n, hx, hl, h0, h1, h2⟩ := Go.Deep.trod_struct3 Try.underlying34 h
  obtain ⟨c0, c1, c2, rfl⟩ := three_of (hl.trans sizes.1)
  simp only [sizes.2, List.drop_zero, List.drop_succ_cons, List.take_succ_cons, List.take_zero] at h0 h1 h2
  obtain ⟨k, e0, _, _⟩ := DataW.trod_int Try.underlying3 h0
  obtain ⟨m, e1, _, hw⟩ := DataW.trod_int Try.underlying3 h1
  obtain ⟨v, e2, _, _⟩ := DataW.trod_int Try.underlying3 h2
  injection e0 with e0 _
  injection e1 with e1 _
  injection e2 with e2 _
  subst e0 e1 e2
  exact ⟨(k, m, v), rfl, (bounds_i64 hw).2⟩
/-- A script that is an argument. -/
theorem ops_of {H : Type} {enc : TypeId × Value → H} {w : World} {base : Nat} {v : Value} {d : DataW H} {p : List MemPlace} (hok : Value.okWide Try.prog w .any base 22 v) (h : DataW.Trod enc Try.prog w 0 (fun _ => true) true 22 v d p) :
    ∃ l : List (Int × Int × Int), Scr w v l := by
  obtain ⟨a0, len, cap, rfl⟩ := okWide_slice Try.underlying22 hok
  obtain ⟨fuel, hf⟩ := h
  rcases Go.Deep.open_slice Try.underlying22 hf with ⟨hcs, _⟩ | ⟨a, len', cap', mm, nn, D, Pl, hcs, _, hlc, _, hmm, _, hel⟩
  · simp [Value.cells] at hcs
    obtain ⟨rfl, rfl, rfl⟩ := hcs
    exact ⟨[], none, 0, rfl, by simp⟩
  · simp [Value.cells] at hcs
    obtain ⟨rfl, rfl, rfl⟩ := hcs
    simp only [if_true] at hmm
    subst hmm
    rw [sizes.1] at hel
    have hi : ∀ i, i < len → ∃ u : Int × Int × Int, w.cells? 0 (a.add (i * 3)) 3 = some [.int .i64 u.1, .int .i64 u.2.1, .int .i64 u.2.2] ∧ u.2.1 ≤ 9223372036854775807 := fun i hi => by
      obtain ⟨cs', hc, ht⟩ := hel i (by omega)
      obtain ⟨u, rfl, h1⟩ := op_of ht
      exact ⟨u, hc, h1⟩
    obtain ⟨f, hf⟩ := Go.Deep.choose_lt (α := Int × Int × Int) hi
    refine ⟨(List.range len).map f, some a, mm, by simp, fun j u hj => ?_⟩
    have hjl := get_lt hj
    rw [List.length_map, List.length_range] at hjl
    rw [List.getElem?_map, List.getElem?_range hjl] at hj
    simp at hj
    subst hj
    have hcell : ∀ r, r < 3 → w.cell? (a.add (j * 3 + r)) = [Value.int .i64 (f j).1, .int .i64 (f j).2.1, .int .i64 (f j).2.2][r]? := fun r hr => by
      have := (World.cells?_some (hf j hjl).1).2.2 r hr
      rwa [Go.Deep.add_add] at this
    obtain ⟨b, off, spot⟩ := a
    have c0 := hcell 0 (by omega)
    have c1 := hcell 1 (by omega)
    have c2 := hcell 2 (by omega)
    have hspot : spot = none := by
      have h0 := (World.cells?_some (hf 0 (by omega)).1).2.2 0 (by omega)
      rw [Go.Deep.add_add] at h0
      simpa [Addr.add] using World.cell?_spot h0
    subst hspot
    have ad : ∀ r, (⟨b, off, none⟩ : Addr).add r = ⟨b, off + r, none⟩ := fun r => by cases r <;> simp [Addr.add]
    rw [ad] at c0 c1 c2
    refine ⟨(hf j hjl).2, b, off, rfl, World.block_lt_of_cell? w _ c0, ?_, ?_, ?_⟩
    · rw [show off + j * 3 = off + (j * 3 + 0) by omega]; exact c0
    · rw [show off + j * 3 + 1 = off + (j * 3 + 1) by omega]; exact c1
    · rw [show off + j * 3 + 2 = off + (j * 3 + 2) by omega]; exact c2

set_option maxRecDepth 100000 in
theorem lifted (os : Os) (started : os.Started) (H : Type) (enc : TypeId × Value → H) :
    ReturnsInHanded {} Try.checked os 3 .any (Rows.arenaPlaysSpec.pre6 enc Try.prog Try.f3 Rows.arenaPlaysRow.domain false) (Rows.arenaPlaysSpec.post enc Try.prog Try.f3 false true false false) := by
  refine returnsInHanded_of_change (C := Try.checked) own started (by kernel_rfl) Try.func3
    (ChangeSpec.witness6 (enc := enc) (C := Try.checked) false ⟨#[], #[.int .i64 0, .slice none 0 0], []⟩ 8 (by kernel_rfl) (by kernel_rfl) (by kernel_rfl) (by kernel_rfl)) ?_
  intro W base args ds gs before hval0 hW hcnd _
  have hval : ∀ (j : Nat) t v, Try.f3.params[j]? = some t → args[j]? = some v → Value.okWide Try.prog W .any base t v := hval0
  have hW' := hW
  obtain ⟨p, q, hA0, hV, rfl, hfz, hnd⟩ := hW
  have hA : DataW.TrodAll enc Try.prog W 0 (fun _ => true) true Try.f3.params.toList args.toList ds p := hA0
  rw [Try.params3] at hA hval
  obtain ⟨v0, vs0, d0, ds0, p0, q0, hargs, rfl, rfl, h0, r0⟩ := trodAll_cons hA
  obtain ⟨v1, vs1, d1, ds1, p1, q1, rfl, rfl, rfl, h1, r1⟩ := trodAll_cons r0
  obtain ⟨rfl, rfl, rfl⟩ := trodAll_nil r1
  obtain rfl : args = #[v0, v1] := by cases args; simp_all
  obtain ⟨rfl, rfl⟩ := trodVars_none hV
  obtain ⟨a0, rfl, rfl, rfl, w0⟩ := open_int Try.underlying3 (hval 0 3 v0 rfl rfl) h0
  obtain ⟨l, hl⟩ := ops_of (hval 1 22 v1 rfl rfl) h1
  clear hA0 hval0
  simp only [List.append_nil, List.nil_append] at hW'
  have hlt : ∀ x ∈ p1, x.block < W.heap.size := fun x hx => hW'.lt x (by simpa using hx)
  refine (plays_law alloc_pair a0 v1 l W hl).mono fun e W' ⟨he, hb⟩ => ?_
  subst he
  have t1 : DataW.Trod enc Try.prog W' 0 (fun b => decide (b < W.heap.size)) true 22 v1 d1 p1 := Below.trod laidOut (by kernel_rfl) (of_decide_eq_true (by kernel_rfl)) h1 hb (fun x hx => hlt x hx)
  exact ⟨_, rfl, _, _, _, [], [] ++ (p1 ++ []), [], hW', (trodAll_cons_mk (shut_bool Try.underlying4 _) trodAll_mk0), (trodAll_cons_mk (shut_int Try.underlying3 w0) (trodAll_cons_mk t1 trodAll_mk0)), rfl, hb.frame _, fun h => by cases h⟩

theorem over : Rows.arenaPlaysRow.holds Try.pinned (OpenSpec.ofChange Rows.arenaPlaysSpec) :=
  OpenClaim.holds_of_wide 3 Try.f3 rfl rfl rfl rfl rfl rfl rfl ⟨rfl, rfl, rfl, rfl, rfl⟩ rfl rfl rfl rfl rfl (by kernel_rfl) Try.func3 (by kernel_rfl)
    (of_decide_eq_true (by kernel_rfl)) (by unfold Func.isWrapper; first | (rw [if_pos (by decide +kernel)]; kernel_rfl) | (rw [if_neg (by decide +kernel)]; exact ⟨rfl, rfl⟩))
    (fun os started H enc _ => lifted os started H enc)
end Go.Proofs.Yteeadmkljcjjkaa.arenaPlaysProof
namespace Go.Proofs.Yteeadmkljcjjkaa
/-- The statement. -/
theorem arenaPlays_holds : Rows.ArenaPlaysSaid := arenaPlaysProof.over
#print axioms arenaPlays_holds
end Go.Proofs.Yteeadmkljcjjkaa
