/- Sound: its parts. -/
import Derived.Test.YtkdojpnihinpbaaDoorCdL
namespace Go.Proofs.YtkdojpnihinpbaaDoor
open Go.RowKit
def eachB {α : Type} (most : Nat) (s : α → Bool) (l : List α) : Bool := decide (l.length ≤ most) && l.all s
def sndI (i : In3) : Bool := decide (1 ≤ i.o) && decide (i.o ≤ 29)
def sndL (l : List Int) : Bool := decide (l.length ≤ 4096)
def sndS (l : By) : Bool := decide (l.length ≤ 1024)
def sndF (f : Fd) : Bool := decide (f.lo.length ≤ 4096) && (decide (0 ≤ f.pa) && (decide (f.pa ≤ (f.lo.length : Int)) && (decide (f.re.length ≤ 4096) && (decide (f.ar.length ≤ 4096) && eachB 65536 sndI f.co))))
def sndP (p : Pg) : Bool := eachB 1024 sndL p.ty && (eachB 4096 sndF p.fu && (eachB 1024 sndL p.ta && eachB 1024 sndS p.st))
theorem eachB_le {α : Type} {most : Nat} {s : α → Bool} {l : List α} (h : eachB most s l = true) : l.length ≤ most ∧ ∀ x ∈ l, s x = true := by
  simp only [eachB, Bool.and_eq_true, decide_eq_true_eq, List.all_eq_true] at h
  exact h
theorem all_next {α : Type} {s : α → Bool} {l : List α} {j : Nat} {x : α} (hx : l[j]? = some x) (h : (l.take j).all s = true) (hs : s x = true) : (l.take (j + 1)).all s = true := by
  rw [List.take_add_one, hx, Option.toList_some, List.all_append, h]
  simp [hs]
theorem all_bad {α : Type} {s : α → Bool} {l : List α} {j : Nat} {x : α} (hx : l[j]? = some x) (hs : s x = false) : l.all s = false := by
  rw [← Bool.not_eq_true, List.all_eq_true]
  intro h
  have := h x (List.mem_of_getElem? hx)
  rw [hs] at this
  cases this
section
variable {w : World}
theorem sndI_any (i : In3) (w : World) : Calls Tryd.prog 65 #[.agg #[.int .i64 i.o, .int .i64 i.a, .int .i64 i.b]] w fun e w' => e = .returned (.bool (sndI i)) ∧ Below w.heap.size w w' := by
  have BB := hide (show Below w.heap.size w (w.alloc (.cells #[.int .i64 i.o, .int .i64 i.a, .int .i64 i.b] 47)) from (Below.refl _ _).alloc (Nat.le_refl _) _)
  unfold sndI
  generalize i.o = o at *
  by_cases h : 1 ≤ o
  · have d1 : decide (1 ≤ o) = true := by simpa using h
    rw [d1, Bool.true_and]
    generalize hd : decide (o ≤ 29) = d at *
    go_enter Tryd.func65, Tryd.ntmps65
    go_wp2
    go_ret
    exact ⟨rfl, BB.out⟩
  · have d1 : decide (1 ≤ o) = false := by simpa using h
    rw [d1, Bool.false_and]
    go_enter Tryd.func65, Tryd.ntmps65
    go_wp2
    go_ret
    exact ⟨rfl, BB.out⟩
theorem sndL_any {v : Value} {l : List Int} {a : Option Addr} {c : Nat} (hv : v = .slice a l.length c) (w : World) : Calls Tryd.prog 39 #[.agg #[v]] w fun e w' => e = .returned (.bool (sndL l)) ∧ Below w.heap.size w w' := by
  have BB := hide (show Below w.heap.size w (w.alloc (.cells #[v] 39)) from (Below.refl _ _).alloc (Nat.le_refl _) _)
  subst hv
  have hd : decide ((l.length : Int) ≤ 4096) = sndL l := by unfold sndL; apply decide_eq_decide.mpr; omega
  generalize sndL l = d at *
  go_enter Tryd.func39, Tryd.ntmps39
  go_wp2
  go_ret
  exact ⟨rfl, BB.out⟩
theorem sndT_any {v : Value} {l : List Int} {a : Option Addr} {c : Nat} (hv : v = .slice a l.length c) (w : World) : Calls Tryd.prog 43 #[v] w fun e w' => e = .returned (.bool (sndL l)) ∧ Below w.heap.size w w' := by
  subst hv
  have hd : decide ((l.length : Int) ≤ 4096) = sndL l := by unfold sndL; apply decide_eq_decide.mpr; omega
  generalize sndL l = d at *
  go_enter Tryd.func43, Tryd.ntmps43
  go_wp2
  go_ret
  exact ⟨rfl, Below.refl _ _⟩
theorem sndS_any (s : By) (w : World) : Calls Tryd.prog 45 #[.string ⟨s.toArray⟩] w fun e w' => e = .returned (.bool (sndS s)) ∧ Below w.heap.size w w' := by
  have hsz : (⟨s.toArray⟩ : ByteArray).size = s.length := by simp [ByteArray.size]
  have hd : decide ((s.length : Int) ≤ 1024) = sndS s := by unfold sndS; apply decide_eq_decide.mpr; omega
  generalize sndS s = d at *
  go_enter Tryd.func45, Tryd.ntmps45
  go_wp2
  go_ret
  exact ⟨rfl, Below.refl _ _⟩
end
end Go.Proofs.YtkdojpnihinpbaaDoor
