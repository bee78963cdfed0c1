/-
  For every program of the machine, every number and every list of instructions the law VerifyDead returns true and leaves its arguments as they were: where Check answers 0 and the number is a function's, whose code has at most 1,000 instructions, code of at most 50 instructions behind its code changes nothing of what Check and Size answer. Conditions: the listed table as its initialiser lays it (tied); the pruned copy of the project.
-/
import Derived.Test.YtefdilakpggggaaDoorCards
import Derived.Test.YtefdilakpggggaaDoorTie
import Derived.Test.YtefdilakpggggaaDoorVfLd
import Derived.Test.YtefdilakpggggaaDoorCdSTJd
import Derived.Test.YtefdilakpggggaaDoorCdArg
import Derived.Carry
namespace Go.Proofs.YtefdilakpggggaaDoor.verifyDeadProof
open Go.ChangeShapes Go.WideShapes Go.ChangeAt Go.RowKit

set_option maxRecDepth 100000 in
/-- Instructions that are an argument. -/
theorem instrs_of {H : Type} {enc : TypeId × Value → H} {w : World} {base : Nat} {v : Value} {d : DataW H} {p : List MemPlace} (hok : Value.okWide Tryd.prog w .any base 46 v) (h : DataW.Trod enc Tryd.prog w 0 (fun _ => true) true 46 v d p) : ∃ l : List In3, SlAt 3 InsP w.heap.size w v l := by
  obtain ⟨a0, len, cap, rfl⟩ := okWide_slice Tryd.underlying46 hok
  obtain ⟨fuel, hf⟩ := h
  exact sl_of (P := InsP) Tryd.underlying46 sizesA.2.2.1 (by omega) (fun _ _ _ h => ins_of h) hf

theorem law {W : World} {v1 v2 v3 v4 vj : Value} {p : Pg} {m : Int} {jl : List In3} (P : PgAt W.heap.size W v1 v2 v3 v4 p) (J : SlAt 3 InsP W.heap.size W vj jl) (hL : laidMetH Tryd.prog laid1 W) : Calls Tryd.prog 5 #[.agg #[v1, v2, v3, v4], .int .i64 m, vj] W fun e w' => e = .returned (.bool true) ∧ Below W.heap.size W w' := by
  obtain ⟨hT, h0⟩ := tb_of_laid hL
  by_cases hc : (checkP p).2.2 ≠ 0 ∨ m < 0 ∨ (p.fu.length : Int) ≤ m ∨ 50 < jl.length ∨ ∃ (n : Nat) (f : Fd), m = (n : Int) ∧ p.fu[n]? = some f ∧ 1000 < f.co.length
  · exact dead_out P J (Nat.le_refl _) hT h0 hc
  · simp only [not_or, Nat.not_lt, Decidable.not_not] at hc
    obtain ⟨c1, c2, c3, c4, c5⟩ := hc
    obtain ⟨n, rfl⟩ : ∃ n : Nat, m = (n : Int) := ⟨m.toNat, by omega⟩
    obtain ⟨f, hf⟩ : ∃ f, p.fu[n]? = some f := ⟨p.fu[n]'(by omega), by simp⟩
    exact dead_main P J (Nat.le_refl _) hT h0 c1 hf c4 (Nat.le_of_not_lt fun h => c5 ⟨n, f, rfl, hf, h⟩)

set_option maxRecDepth 100000 in
theorem contract (H : Type) (enc : TypeId × Value → H) (W : World) (base : Nat) (args : Array Value) (ds gs : List (DataW H)) (before : List MemPlace)
    (hval : ∀ (j : Nat) t v, Tryd.f5.params[j]? = some t → args[j]? = some v → Value.okWide Tryd.prog W .any base t v)
    (hW : DataW.Whole enc Tryd.prog Tryd.f5.params.toList Rows.verifyDeadSpec.vars false W args.toList ds gs before) (hL : laidMetH Tryd.prog laid1 W) :
    Calls Tryd.prog 5 args W fun e W' => ∃ v, e = .returned v ∧ Rows.verifyDeadSpec.post enc Tryd.prog Tryd.f5 false true false false W args v W' := by
  have hW' := hW
  obtain ⟨p, q, hA0, hV, rfl, hfz, hnd⟩ := hW
  have hA : DataW.TrodAll enc Tryd.prog W 0 (fun _ => true) true Tryd.f5.params.toList args.toList ds p := hA0
  rw [Tryd.params5] at hA hval
  obtain ⟨v0, vs0, d0, ds0, p0, q0, hargs, rfl, rfl, h0, r0⟩ := trodAll_cons hA
  obtain ⟨v1, vs1, d1, ds1, p1, q1, rfl, rfl, rfl, h1, r1⟩ := trodAll_cons r0
  obtain ⟨v2, vs2, d2, ds2, p2, q2, rfl, rfl, rfl, h2, r2⟩ := trodAll_cons r1
  obtain ⟨rfl, rfl, rfl⟩ := trodAll_nil r2
  obtain rfl : args = #[v0, v1, v2] := by cases args; simp_all
  obtain ⟨rfl, rfl⟩ := trodVars_none hV
  obtain ⟨x1, x2, x3, x4, g0, hv0, hp0⟩ := prog_of (hval 0 27 v0 rfl rfl) h0
  obtain ⟨a1, rfl, rfl, rfl, w1⟩ := open_int Tryd.underlying3 (hval 1 3 v1 rfl rfl) h1
  obtain ⟨jl, hp2⟩ := instrs_of (hval 2 46 v2 rfl rfl) h2
  clear hA0
  simp only [List.append_nil, List.nil_append] at hW'
  have hlt0 : ∀ x ∈ p0, x.block < W.heap.size := fun x hx => hW'.lt x (by simp [hx])
  have hlt2 : ∀ x ∈ p2, x.block < W.heap.size := fun x hx => hW'.lt x (by simp [hx])
  have hlaw : Calls Tryd.prog 5 #[v0, .int .i64 a1, v2] W fun e w' => e = .returned (.bool true) ∧ Below W.heap.size W w' := by rw [hv0]; exact law hp0 hp2 hL
  refine hlaw.mono fun e W' ⟨he, hb⟩ => ?_
  subst he
  have t0 : DataW.Trod enc Tryd.prog W' 0 (fun b => decide (b < W.heap.size)) true 27 v0 d0 p0 := Below.trod (by kernel_rfl) (by kernel_rfl) (of_decide_eq_true (by kernel_rfl)) h0 hb hlt0
  have t2 : DataW.Trod enc Tryd.prog W' 0 (fun b => decide (b < W.heap.size)) true 46 v2 d2 p2 := Below.trod (by kernel_rfl) (by kernel_rfl) (of_decide_eq_true (by kernel_rfl)) h2 hb hlt2
  exact ⟨_, rfl, _, _, _, [], p0 ++ ([] ++ (p2 ++ [])), [], hW', (trodAll_cons_mk (shut_bool Tryd.underlying4 _) trodAll_mk0), (trodAll_cons_mk t0 (trodAll_cons_mk (shut_int Tryd.underlying3 w1) (trodAll_cons_mk t2 trodAll_mk0))), rfl, hb.frame _, fun h => by cases h⟩

set_option maxRecDepth 100000 in
theorem lifted (os : Os) (started : os.Started) (H : Type) (enc : TypeId × Value → H) (F : Stop.Interp) :
    ReturnsInHanded {} Tryd.checked os 5 .any ((OpenSpec.ofChange Rows.verifyDeadSpec).preRow enc Tryd.prog Tryd.f5 Rows.verifyDeadRow.domain false Rows.verifyDeadRow.laid) (((OpenSpec.ofChange Rows.verifyDeadSpec).at F).post enc Tryd.prog Tryd.f5 false true false false) := by
  have hx : ∃ places, DataW.whole enc Tryd.prog ((World.doorLaid Tryd.prog 65 os).forCall (fun _ _ => 0) ⟨#[], #[.agg #[.slice none 0 0, .slice none 0 0, .slice none 0 0, .slice none 0 0], .int .i64 0, .slice none 0 0], []⟩).memory Tryd.f5.params.toList Rows.verifyDeadSpec.vars false (#[.agg #[.slice none 0 0, .slice none 0 0, .slice none 0 0, .slice none 0 0], .int .i64 0, .slice none 0 0] : Array Value).toList 8 = some ([.agg [.nil, .nil, .nil, .nil], .lit (.int .i64 0), .nil], [], places) := ⟨[], by kernel_rfl⟩
  obtain ⟨places, hx⟩ := hx
  refine returnsInHanded_of_row (C := Tryd.checked) (s := OpenSpec.ofChange Rows.verifyDeadSpec) own started (by kernel_rfl) Tryd.func5
    (witness_row_atRef (enc := enc) (C := Tryd.checked) false (World.doorLaid Tryd.prog 65 os) #[.agg #[.slice none 0 0, .slice none 0 0, .slice none 0 0, .slice none 0 0], .int .i64 0, .slice none 0 0] rfl (by kernel_rfl) (by kernel_rfl) (by kernel_rfl)
      (OpenSpec.preRow_of_cond 8 hx (by kernel_rfl) (fun k hk => by cases hk) (by kernel_rfl) (door_met os _))) ?_
  intro W base args ds gs before hval hW _ _ _ hL _ _
  exact contract H enc W base args ds gs before hval hW hL

theorem said : Rows.VerifyDeadSaid :=
  OpenClaim.holds_of_cond 5 Tryd.f5 rfl rfl rfl rfl rfl rfl rfl ⟨rfl, rfl, rfl, rfl, rfl⟩ rfl rfl rfl rfl rfl (by kernel_rfl) Tryd.func5 (by kernel_rfl)
    (of_decide_eq_true (by kernel_rfl)) (by unfold Func.isWrapper; first | (rw [if_pos (by decide +kernel)]; kernel_rfl) | (rw [if_neg (by decide +kernel)]; exact ⟨rfl, rfl⟩))
    (fun os started H enc _ F => by rw [OpenClaim.pre_eq_preRow]; exact lifted os started H enc F)

theorem plain (f : FuncId) (fn : Func) (hf : Tryd.pinned.checked.prog.funcNamed "halyard/halyardlaw11.VerifyDead" = some f) (hfn : Tryd.pinned.checked.prog.funcs[f]? = some fn) :
    true = Tryd.pinned.checked.prog.looks [] ∧ ∀ (j : Nat) t, fn.params[j]? = some t → Tryd.pinned.checked.prog.wantsStandIn t = false := by
  obtain rfl : f = 5 := Option.some.inj ((show Tryd.prog.funcNamed "halyard/halyardlaw11.VerifyDead" = some 5 by kernel_rfl).symm.trans hf) |>.symm
  obtain rfl : fn = Tryd.f5 := (Option.some.inj (Tryd.func5.symm.trans hfn)).symm
  refine ⟨by kernel_rfl, fun j t ht => ?_⟩
  rw [Tryd.params5] at ht
  have hm : t = 27 ∨ t = 3 ∨ t = 46 := by simpa using Array.mem_of_getElem? ht
  rcases hm with rfl | rfl | rfl
  · exact (show Tryd.prog.wantsStandIn 27 = false by kernel_rfl)
  · exact (show Tryd.prog.wantsStandIn 3 = false by kernel_rfl)
  · exact (show Tryd.prog.wantsStandIn 46 = false by kernel_rfl)

end Go.Proofs.YtefdilakpggggaaDoor.verifyDeadProof
namespace Go.Proofs.YtefdilakpggggaaDoor

/-- The card. -/
theorem verifyDead_card : Rows.VerifyDeadCardSaid :=
  Claim7.holds_tied_plain_at .later [] _ _ _ _ verifyDeadProof.said (fun _ h => by cases h) (by kernel_rfl) (fun _ h => by cases h) verifyDead_row_tie rfl ⟨rfl, rfl⟩ (by kernel_rfl) rfl verifyDeadProof.plain (by kernel_rfl)
#print axioms verifyDead_card
end Go.Proofs.YtefdilakpggggaaDoor
