/- Makes and appends whose run is known. -/
import Derived.Test.YtlbildodjnjniaaEsC
namespace Go.Proofs.Ytlbildodjnjniaa
open Go.RowKit

/-- The same n times. -/
def reps (n : Nat) (z : Value) : Array Value := (List.replicate n z).toArray
theorem reps_size (n : Nat) (z : Value) : (reps n z).size = n := by simp [reps]
theorem reps_get {n i : Nat} {z : Value} (h : i < n) : (reps n z)[i]? = some z := by unfold reps; rw [List.getElem?_toArray, List.getElem?_replicate, if_pos h]
theorem made_one {z : Value} (n : Nat) : madeCells #[z] n = reps n z := by
  unfold reps
  apply Array.ext
  · simp [madeCells]
  · intro i h1 h2
    simp [madeCells, Nat.mod_one]
theorem Try.info57 : (Try.prog.info? 57).map (fun i => (i.zero, i.size, i.bytes)) = some (some (.slice none 0 0), 1, 24) := by kernel_rfl
/-- A list of truths is made. -/
theorem run_bools (w : World) (n : Nat) (hn : n ≤ 100000) : (Instr.makeSlice 34 (.int .i64 n) (.int .i64 n)).run Try.prog w = .ok (.slice (some ⟨w.heap.size, 0, none⟩) n n) (w.alloc (.cells (reps n (.bool false)) 4)) := by
  obtain ⟨i0, hi, hz0, hz1, hz2⟩ := info_parts Try.info4
  have hmk := run_make (P := Try.prog) w 34 4 i0 (.bool false) Try.underlying34 hi hz0 .i64 .i64 n n (by omega) (Int.le_refl _) (by rw [hz2]; omega) (by omega)
  rw [hz1] at hmk
  simp only [Int.toNat_natCast, Nat.mul_one] at hmk
  rw [show (Value.bool false).cells = #[Value.bool false] from rfl, made_one] at hmk
  exact hmk
theorem run_ints (w : World) (n : Nat) (hn : n ≤ 100000) : (Instr.makeSlice 24 (.int .i64 n) (.int .i64 n)).run Try.prog w = .ok (.slice (some ⟨w.heap.size, 0, none⟩) n n) (w.alloc (.cells (reps n (.int .i64 0)) 3)) := by
  obtain ⟨i0, hi, hz0, hz1, hz2⟩ := info_parts Try.info3
  have hmk := run_make (P := Try.prog) w 24 3 i0 (.int .i64 0) Try.underlying24 hi hz0 .i64 .i64 n n (by omega) (Int.le_refl _) (by rw [hz2]; omega) (by omega)
  rw [hz1] at hmk
  simp only [Int.toNat_natCast, Nat.mul_one] at hmk
  rw [show (Value.int .i64 0).cells = #[Value.int .i64 0] from rfl, made_one] at hmk
  exact hmk
theorem run_graph (w : World) (n : Nat) (hn : n ≤ 1000) : (Instr.makeSlice 49 (.int .i64 ((n : Int) + 1)) (.int .i64 ((n : Int) + 1))).run Try.prog w = .ok (.slice (some ⟨w.heap.size, 0, none⟩) (n + 1) (n + 1)) (w.alloc (.cells (reps (n + 1) (.slice none 0 0)) 57)) := by
  obtain ⟨i0, hi, hz0, hz1, hz2⟩ := info_parts Try.info57
  have hmk := run_make (P := Try.prog) w 49 57 i0 (.slice none 0 0) Try.underlying49 hi hz0 .i64 .i64 ((n + 1 : Nat) : Int) ((n + 1 : Nat) : Int) (by omega) (Int.le_refl _) (by rw [hz2]; omega) (by omega)
  rw [hz1] at hmk
  simp only [Int.toNat_natCast, Nat.mul_one] at hmk
  rw [show (Value.slice none 0 0).cells = #[Value.slice none 0 0] from rfl, made_one] at hmk
  exact hmk
/-- One more number. -/
theorem run_appI {W : World} {C b m : Nat} {v : Value} {xs : List Value} {x : Int} (hown : W.ownsRow C 3 1 v m xs) (hb : W.heap[b]? = some (.cells #[.int .i64 x] 3 (0, 0))) (hlen : m < 1000000000) (hB : C ≤ W.heap.size) :
    ∃ g cap w', (Builtin.append_ #[24, 24] 24 #[v, .slice (some ⟨b, 0, none⟩) 1 1]).run Try.prog W = .ok (.slice (some ⟨g, 0, none⟩) (m + 1) cap) w' ∧
      w'.ownsRow C 3 1 (.slice (some ⟨g, 0, none⟩) (m + 1) cap) (m + 1) (xs ++ [.int .i64 x]) ∧ W.grownBy w' v.ownBlock ∧ (v.ownBlock = some g ∨ g = W.heap.size) ∧ g < w'.heap.size := by
  obtain ⟨i0, hi, hz0, hz1, hz2⟩ := info_parts Try.info3
  exact run_append_lies (P := Try.prog) W 24 24 C 3 i0 _ 1 8 Try.underlying24 hi hz0 hz1 hz2 rfl (by decide) v m xs hown ⟨b, 0, none⟩ 1 1 [.int .i64 x] rfl (World.news_of_block hb)
    (by intro u hu; simp at hu; rcases hu with rfl; rfl) (by decide) (by unfold maxLen; omega) (by omega) hB _ rfl
/-- One more flow. -/
theorem run_appE {W : World} {C b m : Nat} {v : Value} {xs : List Value} {x y : Int} (hown : W.ownsRow C 59 2 v m xs) (hb : W.heap[b]? = some (.cells #[.int .i64 x, .int .i64 y] 59 (0, 0))) (hlen : m < 1000000000) (hB : C ≤ W.heap.size) :
    ∃ g cap w', (Builtin.append_ #[57, 57] 57 #[v, .slice (some ⟨b, 0, none⟩) 1 1]).run Try.prog W = .ok (.slice (some ⟨g, 0, none⟩) (m + 1) cap) w' ∧
      w'.ownsRow C 59 2 (.slice (some ⟨g, 0, none⟩) (m + 1) cap) (m + 1) (xs ++ [.int .i64 x, .int .i64 y]) ∧ W.grownBy w' v.ownBlock ∧ (v.ownBlock = some g ∨ g = W.heap.size) ∧ g < w'.heap.size := by
  obtain ⟨i0, hi, hz0, hz1, hz2⟩ := info_parts Try.info59
  exact run_append_lies (P := Try.prog) W 57 57 C 59 i0 _ 2 16 Try.underlying57 hi hz0 hz1 hz2 rfl (by decide) v m xs hown ⟨b, 0, none⟩ 1 1 [.int .i64 x, .int .i64 y] rfl (World.news_of_block hb)
    (by intro u hu; simp at hu; rcases hu with rfl | rfl <;> rfl) (by decide) (by unfold maxLen; omega) (by omega) hB _ rfl
/-- One more hold. -/
theorem run_appH {W : World} {C b m : Nat} {v : Value} {xs : List Value} {x y : Int} (hown : W.ownsRow C 62 2 v m xs) (hb : W.heap[b]? = some (.cells #[.int .i64 x, .int .i64 y] 62 (0, 0))) (hlen : m < 1000000000) (hB : C ≤ W.heap.size) :
    ∃ g cap w', (Builtin.append_ #[64, 64] 64 #[v, .slice (some ⟨b, 0, none⟩) 1 1]).run Try.prog W = .ok (.slice (some ⟨g, 0, none⟩) (m + 1) cap) w' ∧
      w'.ownsRow C 62 2 (.slice (some ⟨g, 0, none⟩) (m + 1) cap) (m + 1) (xs ++ [.int .i64 x, .int .i64 y]) ∧ W.grownBy w' v.ownBlock ∧ (v.ownBlock = some g ∨ g = W.heap.size) ∧ g < w'.heap.size := by
  obtain ⟨i0, hi, hz0, hz1, hz2⟩ := info_parts Try.info62
  exact run_append_lies (P := Try.prog) W 64 64 C 62 i0 _ 2 16 Try.underlying64 hi hz0 hz1 hz2 rfl (by decide) v m xs hown ⟨b, 0, none⟩ 1 1 [.int .i64 x, .int .i64 y] rfl (World.news_of_block hb)
    (by intro u hu; simp at hu; rcases hu with rfl | rfl <;> rfl) (by decide) (by unfold maxLen; omega) (by omega) hB _ rfl
end Go.Proofs.Ytlbildodjnjniaa
