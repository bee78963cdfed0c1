/- The document's Same of the same programs. -/
import Derived.Test.YtkdojpnihinpbaaDoorCdSa
namespace Go.Proofs.YtkdojpnihinpbaaDoor
open Go.RowKit
def LpR (W : World) (n : Nat) (a : Value) (wr : World) : Prop := ∃ j : Nat, a = .int .i64 j ∧ j ≤ n ∧ Below W.heap.size W wr
theorem LpR.next {W wr wr' : World} {j n : Nat} (h : Below W.heap.size W wr) (h2 : Below wr.heap.size wr wr') (hlt : j < n) : Below W.heap.size W wr' ∧ j + 1 ≤ n := ⟨h.trans (h2.mono h.size), hlt⟩
theorem SlAt.get {α : Type} {k B : Nat} {P : World → List Value → α → Prop} {w : World} {a : Option Addr} {n c : Nat} {l : List α} (h : SlAt k P B w (.slice a n c) l) {j : Nat} {x : α} (hx : l[j]? = some x) : ∃ g o cs, a = some ⟨g, o, none⟩ ∧ g < B ∧ (∀ r u, cs[r]? = some u → w.cell? ⟨g, o + j * k + r, none⟩ = some u) ∧ P w cs x := by
  obtain ⟨ao, cp, hv, _, hel⟩ := h
  cases hv
  exact hel j x hx
theorem below_of_dr {w w' : World} (h : Below w.drew.heap.size w.drew w') : Below w.heap.size w w' := ⟨h.os, h.tape, h.output, h.size, h.block⟩
section
variable {w : World} {B : Nat}
end
end Go.Proofs.YtkdojpnihinpbaaDoor
