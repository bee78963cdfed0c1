/- The reader's memory; going, fail, unfolded. -/
import Derived.Test.YtnkdlbiicfnmcaaCdQ
import Derived.Test.YtnkdlbiicfnmcaaCdL
import Derived.Laws.BytesArg
namespace Go.Proofs.Ytnkdlbiicfnmcaa
open Go.RowKit
/-- Bytes that lie below B. -/
def BytesAt (B : Nat) (w : World) (v : Value) (l : By) : Prop := ∃ ao cap, v = .slice ao l.length cap ∧ l.length ≤ cap ∧ cap ≤ maxLen ∧ (ao = none → cap = 0) ∧ (∀ a, ao = some a → True) ∧ ∀ (j : Nat) (b : UInt8), l[j]? = some b → ∃ g o, ao = some ⟨g, o, none⟩ ∧ g < B ∧ w.cell? ⟨g, o + j, none⟩ = some (.int .u8 b.toNat)
/-- A reader: what is left, and whether there was a fault. -/
def Rl (B A : Nat) (w : World) (s : Rs) : Prop := B ≤ A ∧ ∃ v, w.heap[A]? = some (.cells #[v, .bool s.bad] 71 (0, 0)) ∧ BytesAt B w v s.rest
/-- Only the reader's block is changed. -/
structure Fr (A : Nat) (w w' : World) : Prop where
  os : w'.os = w.os
  tape : w'.tape = w.tape
  output : w'.output = w.output
  size : w.heap.size ≤ w'.heap.size
  block : ∀ j, j < w.heap.size → j ≠ A → w'.heap[j]? = w.heap[j]?
/-- The reader's block is changed, and in block g the cells from o on. -/
structure RPut (A g o : Nat) (cs : List Value) (w w' : World) : Prop where
  os : w'.os = w.os
  tape : w'.tape = w.tape
  output : w'.output = w.output
  size : w.heap.size ≤ w'.heap.size
  block : ∀ j, j < w.heap.size → j ≠ A → j ≠ g → w'.heap[j]? = w.heap[j]?
  self : ∀ c t, w.heap[g]? = some (.cells c t (0, 0)) → ∃ c', w'.heap[g]? = some (.cells c' t (0, 0)) ∧ c'.size = c.size ∧ (∀ r u, cs[r]? = some u → c'[o + r]? = some u) ∧ ∀ i, i < o ∨ o + cs.length ≤ i → c'[i]? = c[i]?
section
variable {B A : Nat} {w w' : World} {s : Rs}
theorem BytesAt.keep {v : Value} {l : By} (R : BytesAt B w v l) (h : ∀ j, j < B → w'.heap[j]? = w.heap[j]?) : BytesAt B w' v l := by
  obtain ⟨ao, cap, h1, h2, h3, h4, h5, h6⟩ := R
  refine ⟨ao, cap, h1, h2, h3, h4, h5, fun j b hb => ?_⟩
  obtain ⟨g, o, h7, h8, h9⟩ := h6 j b hb
  exact ⟨g, o, h7, h8, by rw [World.cell?_of_block (a := ⟨g, o + j, none⟩) (h g h8)]; exact h9⟩
theorem BytesAt.nil (B : Nat) (w : World) : BytesAt B w (.slice none 0 0) [] := ⟨none, 0, rfl, Nat.le_refl _, by decide, fun _ => rfl, (by intro _ h; cases h), (by intro j b h; simp at h)⟩
theorem Rl.lt (L : Rl B A w s) : A < w.heap.size := by obtain ⟨_, v, h, _⟩ := L; exact lt_of_block h
theorem Rl.keep (L : Rl B A w s) (h : ∀ j, j < B → w'.heap[j]? = w.heap[j]?) (hA : w'.heap[A]? = w.heap[A]?) : Rl B A w' s := by
  obtain ⟨h1, v, h2, h3⟩ := L
  exact ⟨h1, v, hA.trans h2, h3.keep h⟩
theorem Rl.alloc (L : Rl B A w s) (o : Obj) : Rl B A (w.alloc o) s := L.keep (fun j hj => Below.heap_alloc w o j (by have := L.lt; have := L.1; omega)) (Below.heap_alloc w o A L.lt)
theorem Rl.drew (L : Rl B A w s) : Rl B A w.drew s := L.keep (fun _ _ => rfl) rfl
theorem Rl.drewN (L : Rl B A w s) (q : Nat) : Rl B A (w.drewN q) s := L.keep (fun _ _ => rfl) rfl
theorem Fr.refl (A : Nat) (w : World) : Fr A w w := ⟨rfl, rfl, rfl, Nat.le_refl _, fun _ _ _ => rfl⟩
theorem Fr.of_below (h : Below w.heap.size w w') : Fr A w w' := ⟨h.os, h.tape, h.output, h.size, fun j hj _ => h.block j hj⟩
theorem Fr.trans {a b c : World} (h : Fr A a b) (g : Fr A b c) : Fr A a c := ⟨g.os.trans h.os, g.tape.trans h.tape, g.output.trans h.output, Nat.le_trans h.size g.size, fun j hj hn => (g.block j (Nat.lt_of_lt_of_le hj h.size) hn).trans (h.block j hj hn)⟩
theorem Fr.put {g o : Nat} {cs : List Value} {a b c : World} (h : Fr A a b) (p : RPut A g o cs b c) (hg : g < a.heap.size) (hn : g ≠ A) : RPut A g o cs a c :=
  ⟨p.os.trans h.os, p.tape.trans h.tape, p.output.trans h.output, Nat.le_trans h.size p.size, fun j hj h1 h2 => (p.block j (Nat.lt_of_lt_of_le hj h.size) h1 h2).trans (h.block j hj h1), fun c t hc => p.self c t ((h.block g hg hn).trans hc)⟩
theorem RPut.fr {g o : Nat} {cs : List Value} {a b c : World} (p : RPut A g o cs a b) (h : Fr A b c) (hg : g < a.heap.size) (hn : g ≠ A) : RPut A g o cs a c :=
  ⟨h.os.trans p.os, h.tape.trans p.tape, h.output.trans p.output, Nat.le_trans p.size h.size, fun j hj h1 h2 => (h.block j (Nat.lt_of_lt_of_le hj p.size) h1).trans (p.block j hj h1 h2), fun c t hc => by
    obtain ⟨c', h1, h2⟩ := p.self c t hc
    exact ⟨c', (h.block g (Nat.lt_of_lt_of_le hg p.size) hn).trans h1, h2⟩⟩
/-- One cell is set. -/
theorem put_one {g o : Nat} {c : Array Value} {t : TypeId} (hc : w.heap[g]? = some (.cells c t (0, 0))) (ho : o < c.size) (u : Value) : RPut A g o [u] w (w.setCell ⟨g, o, none⟩ u) := by
  refine ⟨rfl, rfl, rfl, by simp, fun j _ _ h => Below.heap_setCell w _ _ j h, fun c' t' hc' => ?_⟩
  rw [hc] at hc'
  cases hc'
  refine ⟨_, heap_setCell_same w g o u hc, by simp, fun r u' hu => ?_, fun i hi => ?_⟩
  · cases r with
    | zero => simp at hu; subst hu; simp [ho]
    | succ r => simp at hu
  · rw [Array.getElem?_setIfInBounds, if_neg (by simp at hi; omega)]
/-- The reader is set anew. -/
theorem Rl.set (L : Rl B A w s) {v : Value} {s' : Rs} (hv : BytesAt B w v s'.rest) (hb : s'.bad = s.bad) : Rl B A (w.setCell ⟨A, 0, none⟩ v) s' ∧ Fr A w (w.setCell ⟨A, 0, none⟩ v) := by
  obtain ⟨h1, v0, h2, h3⟩ := L
  have hk : ∀ j, j ≠ A → (w.setCell ⟨A, 0, none⟩ v).heap[j]? = w.heap[j]? := fun j hj => Below.heap_setCell w _ _ j hj
  refine ⟨⟨h1, v, ?_, hv.keep fun j hj => hk j (by omega)⟩, ⟨rfl, rfl, rfl, by simp, fun j _ hj => hk j hj⟩⟩
  have := heap_setCell_same w A 0 v h2
  rw [hb]
  simpa using this
theorem rgoing_any (L : Rl B A w s) : Calls Try.prog 28 #[.pointer (some ⟨A, 0, none⟩)] w fun e w' => e = .returned (.bool (!s.bad)) ∧ w' = w := by
  obtain ⟨_, v, h2, _⟩ := L
  have c1 : w.cell? ⟨A, 1, none⟩ = some (.bool s.bad) := cell_of h2 rfl
  clear h2
  generalize s.bad = d at *
  go_enter Try.func28, Try.ntmps28
  go_wp2
  go_ret
  exact ⟨rfl, rfl⟩
theorem rfail_any (L : Rl B A w s) : Calls Try.prog 66 #[.pointer (some ⟨A, 0, none⟩)] w fun e w' => e = .returned (.tuple #[]) ∧ Rl B A w' failS ∧ Fr A w w' := by
  obtain ⟨h1, v, h2, h3⟩ := L
  obtain ⟨a, c, rfl, _⟩ := h3
  have c0 : w.cell? ⟨A, 0, none⟩ = some (.slice a s.rest.length c) := cell_of h2 rfl
  have c1 : w.cell? ⟨A, 1, none⟩ = some (.bool s.bad) := cell_of h2 rfl
  have f0 : w.frozen? ⟨A, 0, none⟩ = false := by simp [World.frozen?, h2]
  have f1 : w.frozen? ⟨A, 1, none⟩ = false := by simp [World.frozen?, h2]
  have hlt := lt_of_block h2
  have HF := hide (show Rl B A ((w.setCell ⟨A, 0, none⟩ (.slice none 0 0)).setCell ⟨A, 1, none⟩ (.bool true)) failS ∧ Fr A w ((w.setCell ⟨A, 0, none⟩ (.slice none 0 0)).setCell ⟨A, 1, none⟩ (.bool true)) from by
    have e1 := heap_setCell_same w A 0 (.slice none 0 0) h2
    have e2 := heap_setCell_same _ A 1 (.bool true) e1
    refine ⟨⟨h1, .slice none 0 0, by simpa [failS] using e2, BytesAt.nil _ _⟩, ⟨rfl, rfl, rfl, by simp, fun j _ hj => ?_⟩⟩
    rw [Below.heap_setCell _ _ _ j hj, Below.heap_setCell _ _ _ j hj])
  clear h2
  go_enter Try.func66, Try.ntmps66
  go_wp2
  go_returns
  exact ⟨rfl, HF.out⟩
theorem unfolded_any (z : Nat) (hz : z < 18446744073709551616) (w : World) : Calls Try.prog 71 #[.int .u64 z] w fun e w' => e = .returned (.int .i64 (unzig z)) ∧ w' = w := by
  have HN := hide (i64_not (z / 2) (by omega))
  have HU := hide (show z % 2 = 1 → unzig z = -1 - ((z / 2 : Nat) : Int) from fun h => by unfold unzig; rw [if_pos h])
  have HV := hide (show z % 2 ≠ 1 → unzig z = ((z / 2 : Nat) : Int) from fun h => by unfold unzig; rw [if_neg h])
  by_cases h : z % 2 = 1
  · have d1 : decide (z % 2 = 1) = true := by simpa using h
    have e1 : (z : Int) % 2 = 1 := by omega
    have HH := hide h
    clear h
    go_enter Try.func71, Try.ntmps71
    go_wp2
    go_ret
    refine ⟨?_, rfl⟩
    rw [HU.out HH.out]
    have := HN.out
    rw [Int.natCast_ediv] at this ⊢
    exact congrArg (fun x => Ending.returned (Value.int .i64 x)) this
  · have d1 : decide (z % 2 = 1) = false := by simpa using h
    have e1 : (z : Int) % 2 = 0 := by omega
    have HH := hide h
    clear h
    go_enter Try.func71, Try.ntmps71
    go_wp2
    go_ret
    refine ⟨?_, rfl⟩
    rw [HV.out HH.out, Int.natCast_ediv]
    rfl
end
end Go.Proofs.Ytnkdlbiicfnmcaa
