/- The document's SameBytes and SameInts of the same. -/
import Derived.Test.YtkdojpnihinpbaaDoorCdR0
namespace Go.Proofs.YtkdojpnihinpbaaDoor
open Go.RowKit
def CntR (w : World) (n : Nat) (a : Value) (wr : World) : Prop := ∃ j : Nat, a = .int .i64 j ∧ j ≤ n ∧ wr.heap = w.heap ∧ Below w.heap.size w wr
section
variable {w : World} {B B' : Nat}
set_option maxHeartbeats 1000000 in
theorem sameInts_any {v u : Value} {b : List Int} (R : SlAt 1 IntP B w v b) (S : SlAt 1 IntP B' w u b) : Calls Tryd.prog 26 #[v, u] w fun e w' => e = .returned (.bool true) ∧ Below w.heap.size w w' := by
  obtain ⟨ao, cap, rfl, hlen, hel⟩ := R
  obtain ⟨bo, dap, rfl, _, hfl⟩ := S
  have HEL := hide hel
  have HFL := hide hfl
  have HN := hide (show b.length ≤ 9223372036854775807 by first | exact hlen | exact hlen.1)
  have e1 : ((b.length : Int) == (b.length : Int)) = true := by simp
  clear hel hfl hlen
  go_enter Tryd.func26, Tryd.ntmps26
  go_wp2
  go_loopw [5] (fun a wr => CntR w b.length a wr) (fun a _ => b.length - (intOf a).toNat)
  case atStart => exact ⟨0, rfl, Nat.zero_le _, rfl, Below.refl _ _⟩
  case round =>
    obtain ⟨j, rfl, hj, hh, hb⟩ := hrel
    have HHH := hide hh
    have HBB := hide hb
    by_cases hlt : j < b.length
    · obtain ⟨x, hx⟩ : ∃ x, b[j]? = some x := ⟨b[j], by simp [hlt]⟩
      obtain ⟨g, o, cs, rfl, _, hcs, hP⟩ := HEL.out j x hx
      obtain ⟨g2, o2, ds, rfl, _, hds, hQ⟩ := HFL.out j x hx
      obtain ⟨rfl, _⟩ := hP
      obtain ⟨rfl, _⟩ := hQ
      have hc0 : w.cell? ⟨g, o + j, none⟩ = some (.int .i64 x) := by have := hcs 0 _ rfl; simpa using this
      have hd0 : w.cell? ⟨g2, o2 + j, none⟩ = some (.int .i64 x) := by have := hds 0 _ rfl; simpa using this
      clear hcs hds
      have hc : wr.cell? ⟨g, o + j, none⟩ = some (.int .i64 x) := by rw [World.cell?_of_block (a := ⟨g, o + j, none⟩) (congrArg (·[g]?) hh)]; exact hc0
      have hd : wr.cell? ⟨g2, o2 + j, none⟩ = some (.int .i64 x) := by rw [World.cell?_of_block (a := ⟨g2, o2 + j, none⟩) (congrArg (·[g2]?) hh)]; exact hd0
      have d1 : decide (j < b.length) = true := by simpa using hlt
      have e2 : ((x) == (x)) = true := by simp
      clear hx hc0 hd0 hh hb

      generalize b.length = n at *
      go_wp2_with fail
      go_quiet (fail)
      go_wp2
      go_roundw
      case rel => exact ⟨j + 1, by first | exact num_next hlt HN.out | go_num, hlt, HHH.out, below_drewN HBB.out _⟩
      case measure => first | exact meas_int hlt HN.out | (rw [intOf_int, intOf_int]; omega)
    · obtain rfl : j = b.length := by omega
      have d1 : decide (b.length < b.length) = false := by simp
      clear hh hb
      generalize b.length = n at *
      go_wp2
      go_ret
      exact ⟨rfl, HBB.out⟩
end
end Go.Proofs.YtkdojpnihinpbaaDoor
