/- The document's list. -/
import Derived.Test.YtgkpfpaohibcjaaCdG
import Derived.Test.YtgkpfpaohibcjaaCdSm
namespace Go.Proofs.Ytgkpfpaohibcjaa
open Go.RowKit
section
variable {B D : Nat} {w w' : World} {v : Value} {out : By}
theorem Wk.sameB {a b : World} (h : Wk B a b) (hD : D ≤ B) : ∀ j, j < D → b.heap[j]? = a.heap[j]? := fun j hj => h.1.block j (Nat.lt_of_lt_of_le hj hD)
/-- The bytes so far, behind j items. -/
def GlR {α : Type} (B : Nat) (w1 : World) (E : α → By) (l : List α) (pre : By) (o a : Value) (wr : World) : Prop := ∃ j : Nat, a = .int .i64 j ∧ j ≤ l.length ∧ Ow B wr o (pre ++ (l.take j).flatMap E) ∧ Wk B w1 wr ∧ B ≤ wr.heap.size
theorem flat_next {α : Type} {E : α → By} {l : List α} {j : Nat} {x : α} (hx : l[j]? = some x) (pre : By) : pre ++ (l.take (j + 1)).flatMap E = pre ++ (l.take j).flatMap E ++ E x := by
  rw [List.take_add_one, hx, Option.toList_some, List.flatMap_append]
  simp
theorem flat_le {α : Type} {E : α → By} {l : List α} {j : Nat} : ((l.take j).flatMap E).length ≤ (l.flatMap E).length := by
  conv => rhs; rw [← List.take_append_drop j l, List.flatMap_append, List.length_append]
  omega
set_option maxRecDepth 100000 in
set_option maxHeartbeats 1000000 in
theorem glist_any (R : Ow B w v out) (hB : B ≤ w.heap.size) (hD : D ≤ B) {u : Value} {l : List Int} (S : SlAt 1 IntP D w u l) (hm : out.length + (intsE l).length ≤ 80000000000000) :
    Calls Try.prog 19 #[v, u] w fun e w' => ∃ v', e = .returned v' ∧ Ow B w' v' (out ++ intsE l) ∧ Wk B w w' := by
  obtain ⟨a0, cap0, hv⟩ := row_form R
  subst hv
  have HS := hide S
  obtain ⟨ao, cap, hu, hlen, _⟩ := S
  subst hu
  have C1 := hide (gnumber_any R hB (n := (l.length : Int)) (by omega) (by omega) (by omega))
  have HLen := hide hlen
  have HB := hide hB
  have HD := hide hD
  have HE := hide (show intsE l = numE l.length ++ l.flatMap numE from rfl)
  have HM := hide hm
  clear R hB hD hlen hm
  generalize hN : l.length = N at *
  have HN := hide hN
  clear hN
  go_enter Try.func19, Try.ntmps19
  go_wp2_with fail
  refine C1.out.mono ?_
  rintro e w1 ⟨v1, rfl, R1, K1⟩
  obtain ⟨a1, c1, hv1⟩ := row_form R1
  have HR1 := hide R1
  have HK1 := hide K1
  clear R1 K1 C1
  subst hv1
  generalize hpl : (out ++ numE (N : Int)).length = pl at *
  clear hpl
  go_wp2
  go_loopw [0, 5] (fun o a wr => GlR B w numE l (out ++ numE (N : Int)) o a wr) (fun _ a _ => N - (intOf a).toNat)
  case atStart => exact ⟨0, rfl, Nat.zero_le _, by simpa using HR1.out, HK1.out, Nat.le_trans HB.out HK1.out.1.size⟩
  case round =>
    obtain ⟨j, rfl, hj, RY, SY, hBr⟩ := hrel
    have HRY := hide RY
    have HSY := hide SY
    obtain ⟨sa, sc, hv⟩ := row_form RY
    subst hv
    rw [HN.out] at hj
    by_cases hlt : j < N
    · obtain ⟨x, hx⟩ : ∃ x, l[j]? = some x := ⟨l[j]'(by rw [HN.out]; exact hlt), by simp⟩
      obtain ⟨g, o, cs, rfl, hgl, hcs, rfl, hb1, hb2⟩ := (ints_keep (Nat.le_refl _) (SY.sameB HD.out) HS.out).get hx
      have t1 : wr.cell? ⟨g, o + j, none⟩ = some (.int .i64 x) := by have := hcs 0 _ rfl; simpa using this
      have hmm : ((out ++ numE (N : Int)) ++ (l.take j).flatMap numE).length ≤ 90000000000000 := by
        have h1 := HM.out
        have h2 := flat_le (E := numE) (l := l) (j := j)
        rw [HE.out] at h1
        simp only [List.length_append] at *
        omega
      have C2 := hide (gnumber_any RY hBr (n := x) hb1 hb2 hmm)
      have HF := hide (flat_next (E := numE) hx (out ++ numE (N : Int)))
      have l1 : decide (j < N) = true := by simpa using hlt
      have HBr := hide hBr
      clear RY SY hx hcs hmm hb1 hb2 hgl hBr
      generalize hol : ((out ++ numE (N : Int)) ++ (l.take j).flatMap numE).length = ol at *
      clear hol
      go_wp2_with fail
      refine C2.out.mono ?_
      rintro e w3 ⟨v3, rfl, R3, K3⟩
      have HR3 := hide R3
      have HK3 := hide K3
      obtain ⟨a3, c3, hv3⟩ := row_form R3
      subst hv3
      clear R3 K3 C2
      generalize hol3 : ((out ++ numE (N : Int)) ++ (l.take j).flatMap numE ++ numE x).length = ol3 at *
      clear hol3
      go_wp2
      go_roundw
      case rel =>
        refine ⟨j + 1, ?_, ?_, ?_, HSY.out.trans HK3.out, Nat.le_trans HBr.out HK3.out.1.size⟩
        · first | exact num_next hlt HLen.out | go_num
        · rw [HN.out]; exact hlt
        · rw [HF.out]; exact HR3.out
      case measure => first | exact meas_int hlt HLen.out | (rw [intOf_int, intOf_int]; omega)
    · obtain rfl : j = N := by omega
      have l1 : decide (j < j) = false := by simp
      have HFin := hide (show (out ++ numE (j : Int)) ++ (l.take j).flatMap numE = out ++ intsE l by rw [List.take_of_length_le (by rw [HN.out]; exact Nat.le_refl _), HE.out, List.append_assoc])
      clear RY SY hBr
      generalize hol : ((out ++ numE (j : Int)) ++ (l.take j).flatMap numE).length = ol at *
      clear hol
      go_wp2
      go_ret
      have h1 := HRY.out
      exact ⟨_, rfl, by rw [← HFin.out]; exact h1, HSY.out⟩
end
end Go.Proofs.Ytgkpfpaohibcjaa
