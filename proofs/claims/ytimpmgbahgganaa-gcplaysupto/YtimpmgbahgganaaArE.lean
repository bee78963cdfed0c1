/- New. -/
import Derived.Test.YtimpmgbahgganaaArD
import Derived.Carry
namespace Go.Proofs.Ytimpmgbahgganaa
open Go.RowKit Go.Maps

theorem new_err (n : Int) (w : World) (h : n < 0 ∨ 65536 < n) : Calls Try.prog 24 #[.int .i64 n] w fun e w' => e = .returned (.tuple #[.pointer none, .int .i64 1]) ∧ w' = w := by
  rcases h with h | h
  · have h1 : decide (n < 0) = true := by simpa using h
    go_enter Try.func24, Try.ntmps24
    go_wp2
    go_ret2
    exact ⟨rfl, rfl⟩
  · have h1 : decide (n < 0) = false := by simp; omega
    have h2 : decide (65536 < n) = true := by simpa using h
    go_enter Try.func24, Try.ntmps24
    go_wp2
    go_ret2
    exact ⟨rfl, rfl⟩
theorem heap_new (w : World) (o : Obj) {j : Nat} (h : j = w.heap.size) : (w.alloc o).heap[j]? = some o := by subst h; exact (MapKept.heap_alloc w o).1
theorem made_ints (n : Nat) : madeCells #[Value.int .i64 0] n = (ints (List.replicate n 0)).toArray := by
  apply Array.ext
  · simp [madeCells, ints]
  · intro i h1 h2
    simp [madeCells, ints, Nat.mod_one]
/-- Where a new arena lies. -/
def newX (B : Nat) (w : World) : Wh := ⟨B, w.heap.size + 2, w.heap.size, .slice none 0 0, w.heap.size + 1, fun _ => .slice none 0 0⟩
theorem new_any (n : Nat) (w : World) (h : n ≤ 65536) (B : Nat) (hB : B ≤ w.heap.size) :
    Calls Try.prog 24 #[.int .i64 n] w fun e w' => e = .returned (.tuple #[(newX B w).p, .int .i64 0]) ∧ Lies (newX B w) w' (newS n) 0 ∧ Below w.heap.size w w' := by
  have h1 : decide ((n : Int) < 0) = false := by simp
  have h2 : decide (65536 < (n : Int)) = false := by simp; omega
  have b1 : (n : Int) ≤ 65536 := by omega
  obtain ⟨i0, hi, hz0, hz1, hz2, hz3⟩ : ∃ i0, Try.prog.info? 3 = some i0 ∧ i0.zero = some (.int .i64 0) ∧ i0.size = 1 ∧ i0.bytes = 8 ∧ True := by
    obtain ⟨i0, a, b, c, d⟩ := info_parts Try.info3
    exact ⟨i0, a, b, c, d, trivial⟩
  have hmk := run_make (P := Try.prog) w 31 3 i0 (.int .i64 0) Try.underlying31 hi hz0 .i64 .i64 n n (by omega) (Int.le_refl _) (by rw [hz2]; omega) (by omega)
  rw [hz1] at hmk
  simp only [Int.toNat_natCast, Nat.mul_one] at hmk
  rw [show (Value.int .i64 0).cells = #[Value.int .i64 0] from rfl, made_ints] at hmk
  have hmm := @run_makeMap Try.prog
  clear hz0 hz1 hz2 hz3 hi
  go_enter Try.func24, Try.ntmps24
  go_wp2
  go_ret2
  refine ⟨rfl, ?_, ((((Below.refl _ _).alloc (Nat.le_refl _) _).alloc (by simp) _).alloc (by simp; omega) _)⟩
  refine ⟨?_, ?_, ⟨rfl, .inl ⟨rfl, rfl⟩⟩, ⟨.map [], ?_, fun c => rfl⟩, fun c => ⟨rfl, .inl ⟨rfl, rfl⟩⟩, fun c => by simp [newX, Value.ownBlock], fun c d _ => .inl rfl, ⟨by simp [newX]; omega, by simpa [newX] using hB, by simp [newX]; omega⟩, fun c => Nat.le_refl _, by simp [newX]; omega⟩
  · rw [heap_new _ _ (by simp [newX])]; simp [newX, newS]
  · rw [Below.heap_alloc _ _ _ (by simp [newX]; omega), Below.heap_alloc _ _ _ (by simp [newX]), heap_new _ _ (by simp [newX])]; simp [newS]
  · have hm := World.ownsMap_made (w.alloc (.cells (ints (List.replicate n 0)).toArray 3)) Try.prog 3 heldR
    have := hm.alloc (.cells #[.slice (some ⟨w.heap.size, 0, none⟩) n n, .int .i64 0, .slice none 0 0, .map (some (w.heap.size + 1))] 108)
    simpa [newX] using this
end Go.Proofs.Ytimpmgbahgganaa
