/- awake: the simplest facts. -/
import Derived.Test.YtaeheikhpepipaaDoorVfCn
namespace Go.Proofs.YtaeheikhpepipaaDoor
open Go.RowKit
def awF : Fd := ⟨0, [], [], [], [⟨1, 5, 0⟩, ⟨25, 0, 0⟩, ⟨28, 0, 0⟩]⟩
def awP : Pg := ⟨[], [awF], [], []⟩
theorem aw_check : checkP awP = (0, 0, 0) := by decide +kernel
theorem aw_size : (match followP awP awF with | .ok F => szP awP awF F | .error _ => 0) = 1 := by decide +kernel
theorem sl_nil {α : Type} {k : Nat} {P : World → List Value → α → Prop} {B : Nat} {w : World} : SlAt k P B w (.slice none 0 0) ([] : List α) := ⟨none, 0, rfl, ⟨by simp, by simp, by unfold maxLen; omega⟩, fun j x hx => by simp at hx⟩
section
variable {w : World}
theorem aw_pg {W : World} {b0 b1 : Nat} (h0 : W.heap[b0]? = some (.cells #[.int .i64 1, .int .i64 5, .int .i64 0, .int .i64 25, .int .i64 0, .int .i64 0, .int .i64 28, .int .i64 0, .int .i64 0] 50 (0, 0))) (h1 : W.heap[b1]? = some (.cells #[.int .i64 0, .slice none 0 0, .slice none 0 0, .slice none 0 0, .slice (some ⟨b0, 0, none⟩) 3 3] 48 (0, 0))) : PgAt W.heap.size W (.slice none 0 0) (.slice (some ⟨b1, 0, none⟩) 1 1) (.slice none 0 0) (.slice none 0 0) awP := by
  refine ⟨sl_nil, ⟨some ⟨b1, 0, none⟩, 1, rfl, ⟨by simp [awP], by simp [awP], by unfold maxLen; omega⟩, fun j x hx => ?_⟩, sl_nil, sl_nil⟩
  match j, hx with
  | 0, hx =>
    cases hx
    refine ⟨b1, 0, [.int .i64 0, .slice none 0 0, .slice none 0 0, .slice none 0 0, .slice (some ⟨b0, 0, none⟩) 3 3], rfl, lt_of_block h1, fun r u hu => ?_, _, _, _, _, rfl, by simp [awF], sl_nil, sl_nil, sl_nil, ⟨some ⟨b0, 0, none⟩, 3, rfl, ⟨by simp [awF], by simp [awF], by unfold maxLen; omega⟩, fun j y hy => ?_⟩⟩
    · rw [Nat.zero_mul, Nat.add_zero, Nat.zero_add]
      exact cell_of h1 (by simpa using hu)
    · match j, hy with
      | 0, hy =>
        cases hy
        refine ⟨b0, 0, [.int .i64 1, .int .i64 5, .int .i64 0], rfl, lt_of_block h0, fun r u hu => ?_, rfl, by simp⟩
        match r, hu with
        | 0, hu => cases hu; exact cell_of h0 rfl
        | 1, hu => cases hu; exact cell_of h0 rfl
        | 2, hu => cases hu; exact cell_of h0 rfl
      | 1, hy =>
        cases hy
        refine ⟨b0, 0, [.int .i64 25, .int .i64 0, .int .i64 0], rfl, lt_of_block h0, fun r u hu => ?_, rfl, by simp⟩
        match r, hu with
        | 0, hu => cases hu; exact cell_of h0 rfl
        | 1, hu => cases hu; exact cell_of h0 rfl
        | 2, hu => cases hu; exact cell_of h0 rfl
      | 2, hy =>
        cases hy
        refine ⟨b0, 0, [.int .i64 28, .int .i64 0, .int .i64 0], rfl, lt_of_block h0, fun r u hu => ?_, rfl, by simp⟩
        match r, hu with
        | 0, hu => cases hu; exact cell_of h0 rfl
        | 1, hu => cases hu; exact cell_of h0 rfl
        | 2, hu => cases hu; exact cell_of h0 rfl
set_option maxRecDepth 100000 in
set_option maxHeartbeats 1000000 in
theorem awake_any (w : World) (hT : Tb w) : Calls Tryd.prog 10 #[] w fun e w' => e = .returned (.bool true) ∧ Below w.heap.size w w' := by
  have h0 : 0 < w.heap.size := World.block_lt_of_cell? w ⟨0, 0, none⟩ (hT 0 (by decide))
  obtain ⟨W1, hW1⟩ : ∃ W1, ((w.alloc (.cells #[.int .i64 1, .int .i64 5, .int .i64 0, .int .i64 25, .int .i64 0, .int .i64 0, .int .i64 28, .int .i64 0, .int .i64 0] 50)).alloc (.cells #[.int .i64 0, .slice none 0 0, .slice none 0 0, .slice none 0 0, .slice (some ⟨w.heap.size, 0, none⟩) 3 3] 48)).alloc (.cells #[.slice none 0 0, .slice (some ⟨w.heap.size + 1, 0, none⟩) 1 1, .slice none 0 0, .slice none 0 0] 27) = W1 := ⟨_, rfl⟩
  have b1 : Below w.heap.size w W1 := by rw [← hW1]; exact (((Below.refl _ _).alloc (Nat.le_refl _) _).alloc (by simp) _).alloc (by simp; omega) _
  have g0 : W1.heap[w.heap.size]? = some (.cells #[.int .i64 1, .int .i64 5, .int .i64 0, .int .i64 25, .int .i64 0, .int .i64 0, .int .i64 28, .int .i64 0, .int .i64 0] 50 (0, 0)) := by rw [← hW1, Below.heap_alloc _ _ _ (by simp; omega), Below.heap_alloc _ _ _ (by simp)]; exact heap_new _ _ rfl
  have g1 : W1.heap[w.heap.size + 1]? = some (.cells #[.int .i64 0, .slice none 0 0, .slice none 0 0, .slice none 0 0, .slice (some ⟨w.heap.size, 0, none⟩) 3 3] 48 (0, 0)) := by rw [← hW1, Below.heap_alloc _ _ _ (by simp)]; exact heap_new _ _ (by simp)
  have g2 : W1.heap[w.heap.size + 1 + 1]? = some (.cells #[.slice none 0 0, .slice (some ⟨w.heap.size + 1, 0, none⟩) 1 1, .slice none 0 0, .slice none 0 0] 27 (0, 0)) := by rw [← hW1]; exact heap_new _ _ (by simp)
  have HCK := hide (check_any (aw_pg g0 g1) (Nat.le_refl _) (hT.keep (b1.block 0 h0)) (Nat.lt_of_lt_of_le h0 b1.size))
  have HSZ := hide (show ∀ W : World, Below W1.heap.size W1 W → Calls Tryd.prog 12 #[.agg #[.slice none 0 0, .slice (some ⟨w.heap.size + 1, 0, none⟩) 1 1, .slice none 0 0, .slice none 0 0], .int .i64 0] W fun e w' => e = .returned (.tuple #[.int .i64 1, .int .i64 0]) ∧ Below W.heap.size W w' from fun W h => by
    have hb := bel_tr b1 h
    refine (size_any (aw_pg ((h.block _ (lt_of_block g0)).trans g0) ((h.block _ (lt_of_block g1)).trans g1)) (Nat.le_refl _) (hT.keep (hb.block 0 h0)) (Nat.lt_of_lt_of_le h0 hb.size) 0).mono ?_
    rintro e w' ⟨hb2, (⟨hc, _⟩ | ⟨_, hi, _⟩ | ⟨k, f, F, _, hk, hf, hF, rfl⟩)⟩
    · rw [aw_check] at hc
      exact absurd rfl hc
    · cases hi
    · have hk0 : k = 0 := by omega
      subst hk0
      cases hf
      have hs := aw_size
      rw [hF] at hs
      have hs2 : szP awP awF F = 1 := hs
      rw [hs2]
      exact ⟨rfl, hb2⟩)
  unfold CkO at HCK
  rw [aw_check] at HCK
  have HB1 := hide b1
  have HBX := hide (show ∀ W : World, Below W1.heap.size W1 W → W.cell? ⟨w.heap.size + 1 + 1, 0, none⟩ = some (.slice none 0 0) ∧ W.cell? ⟨w.heap.size + 1 + 1, 1, none⟩ = some (.slice (some ⟨w.heap.size + 1, 0, none⟩) 1 1) ∧ W.cell? ⟨w.heap.size + 1 + 1, 2, none⟩ = some (.slice none 0 0) ∧ W.cell? ⟨w.heap.size + 1 + 1, 3, none⟩ = some (.slice none 0 0) ∧ w.heap.size + 1 + 1 < W.heap.size from fun W h => by
    have h1 := (h.block _ (lt_of_block g2)).trans g2
    exact ⟨cell_of h1 rfl, cell_of h1 rfl, cell_of h1 rfl, cell_of h1 rfl, lt_of_block h1⟩)
  obtain ⟨k0, k1, k2, k3, k4⟩ := HBX.out W1 (Below.refl _ _)
  clear b1 g0 g1 g2 hT h0
  have HW1 := hide hW1
  clear hW1
  go_enter Tryd.func10, Tryd.ntmps10
  go_upto_region 2 with (fail)
  rw [HW1.out]
  go_wp2_with fail
  refine HCK.out.mono ?_
  rintro e w2 ⟨rfl, hb2⟩
  have HB2 := hide hb2
  clear hb2 k0 k1 k2 k3 k4
  obtain ⟨k0, k1, k2, k3, k4⟩ := HBX.out w2 HB2.out
  go_wp2_with fail
  refine (HSZ.out w2 HB2.out).mono ?_
  rintro e w3 ⟨rfl, hb3⟩
  have HB3 := hide (bel_tr HB1.out (bel_tr HB2.out hb3))
  clear hb3 k0 k1 k2 k3 k4
  go_wp2
  go_ret
  exact ⟨rfl, HB3.out⟩
end
end Go.Proofs.YtaeheikhpepipaaDoor
