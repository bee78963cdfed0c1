/- Where what it reads is of bulk at most 1048576, the law TypesSound returns true for every table and type, and leaves its arguments as they were: Sound and Known of any table answer as the document says. No other conditions. -/
import Derived.Test.YtbejkphekfbfnaaGreatRows
import Derived.Test.YtbejkphekfbfnaaGreatDcW
import Derived.Test.YtbejkphekfbfnaaGreatTArgD
import Derived.ProofKit
import Derived.OpenShut
import Derived.JoinedCond
namespace Go.Proofs.YtbejkphekfbfnaaGreat.typesSoundProof
open Go.ChangeShapes Go.WideShapes Go.ChangeAt Go.RowKit

theorem own : ownKnob Tryz.prog.godebug = none := by kernel_rfl
theorem laidOut : laidOutB Tryz.prog = true := by kernel_rfl
set_option maxRecDepth 100000 in
theorem lifted (os : Os) (started : os.Started) (H : Type) (enc : TypeId × Value → H) (F : Stop.Interp) :
    ReturnsInHanded {} Tryz.checked os 5 .any ((Rows.OpenSpec.upto Rows.typesSoundSpec).pre6 enc Tryz.prog Tryz.f5 Rows.typesSoundUptoRow.domain false) (((Rows.OpenSpec.upto Rows.typesSoundSpec).at F).post enc Tryz.prog Tryz.f5 false true false false) := by
  refine returnsInHanded_of_cond (C := Tryz.checked) (s := Rows.OpenSpec.upto Rows.typesSoundSpec) (k := Rows.uptoSmall) rfl own started (by kernel_rfl) Tryz.func5
    (OpenSpec.witness (enc := enc) (C := Tryz.checked) (s := Rows.OpenSpec.upto Rows.typesSoundSpec) (k := Rows.uptoSmall) rfl false ⟨#[], #[.slice none 0 0, .agg #[.int .i64 0, .string .empty, .int .i64 0, .slice none 0 0]], []⟩ 8 (by kernel_rfl) (by kernel_rfl) (by kernel_rfl)
      (x := ([.nil, .agg [.lit (.int .i64 0), .lit (.string []), .lit (.int .i64 0), .nil]], [], [])) (by kernel_rfl) rfl (by kernel_rfl)) ?_
  intro W base args ds gs before hval0 hW _ hk _
  have hval : ∀ (j : Nat) t v, Tryz.f5.params[j]? = some t → args[j]? = some v → Value.okWide Tryz.prog W .any base t v := hval0
  have hW' := hW
  obtain ⟨p, q, hA0, hV, rfl, hfz, hnd⟩ := hW
  have hA : DataW.TrodAll enc Tryz.prog W 0 (fun _ => true) true Tryz.f5.params.toList args.toList ds p := hA0
  rw [Tryz.params5] at hA hval
  obtain ⟨v0, vs0, d0, ds0, p0, q0, hargs, rfl, rfl, h0, r0⟩ := trodAll_cons hA
  obtain ⟨v1, vs1, d1, ds1, p1, q1, rfl, rfl, rfl, h1, r1⟩ := trodAll_cons r0
  obtain ⟨rfl, rfl, rfl⟩ := trodAll_nil r1
  obtain rfl : args = #[v0, v1] := by cases args; simp_all
  obtain ⟨rfl, rfl⟩ := trodVars_none hV
  clear hA0 hval0
  simp only [List.append_nil] at hW' hk
  have hbk : Rows.uptoBulk d0 ≤ 1048576 ∧ Rows.uptoBulk d1 ≤ 1048576 := by
    have h : Rows.uptoBulkAll [d0, d1] ≤ 1048576 := of_decide_eq_true hk
    simp only [Rows.uptoBulkAll] at h
    omega
  obtain ⟨⟨dd, D0⟩, hlt0⟩ := decls_of (hval 0 35 v0 rfl rfl) h0 hbk.1
  obtain ⟨⟨t1, sl1, rfl, T1⟩, hlt1⟩ := ty_of (hval 1 27 v1 rfl rfl) h1 hbk.2
  have law : Calls Tryz.prog 5 #[v0, tv t1 sl1] W fun e w' => e = .returned (.bool true) ∧ Below W.heap.size W w' := by
    clear h0 h1
    obtain ⟨k', s', m', ks'⟩ := t1
    obtain ⟨ao', c', rfl⟩ := T1.slice
    exact sound_law dd v0 k' s' m' ks' ao' c' W D0 T1
  refine law.mono fun e W' ⟨he, hb⟩ => ?_
  subst he
  have u0 : DataW.Trod enc Tryz.prog W' 0 (fun b => decide (b < W.heap.size)) true 35 v0 d0 p0 := Below.trod laidOut (by kernel_rfl) (of_decide_eq_true (by kernel_rfl)) h0 hb (fun x hx => hlt0 x hx)
  have u1 : DataW.Trod enc Tryz.prog W' 0 (fun b => decide (b < W.heap.size)) true 27 (tv t1 sl1) d1 p1 := Below.trod laidOut (by kernel_rfl) (of_decide_eq_true (by kernel_rfl)) h1 hb (fun x hx => hlt1 x hx)
  exact ⟨_, rfl, _, _, _, [], p0 ++ (p1 ++ []), [], hW', (trodAll_cons_mk (shut_bool Tryz.underlying4 _) trodAll_mk0), (trodAll_cons_mk u0 (trodAll_cons_mk u1 trodAll_mk0)), rfl, hb.frame _, fun h => by cases h⟩

theorem over : Rows.TypesSoundUptoSaid :=
  OpenClaim.holds_of_cond 5 Tryz.f5 rfl rfl rfl rfl rfl rfl rfl ⟨rfl, rfl, rfl, rfl, rfl⟩ rfl rfl rfl rfl rfl (by kernel_rfl) Tryz.func5 (by kernel_rfl)
    (of_decide_eq_true (by kernel_rfl)) (by unfold Func.isWrapper; first | (rw [if_pos (by decide +kernel)]; kernel_rfl) | (rw [if_neg (by decide +kernel)]; exact ⟨rfl, rfl⟩))
    (fun os started H enc _ F => lifted os started H enc F)
end Go.Proofs.YtbejkphekfbfnaaGreat.typesSoundProof
namespace Go.Proofs.YtbejkphekfbfnaaGreat
/-- The statement. -/
theorem typesSound_upto : Rows.TypesSoundUptoSaid := typesSoundProof.over
#print axioms typesSound_upto
end Go.Proofs.YtbejkphekfbfnaaGreat
