/- The writer's way: numbers, layout. -/
import Derived.Test.YtgkpfpaohibcjaaCdLN
namespace Go.Proofs.Ytgkpfpaohibcjaa
open Go.RowKit
section
variable {X : Wx} {w w' : World} {out : By} {B : Nat}
set_option maxHeartbeats 1000000 in
theorem wnumbers_any (L : Wl X w out) (hBX : B ≤ X.B) {q : Addr} {v : Value} {l : List Int} (hq : w.cell? q = some v) (hqB : q.block < B) (R : SlAt 1 IntP B w v l) (hm : out.length ≤ 5000000) :
    Calls Try.prog 38 #[.agg #[X.i], .pointer (some q)] w fun e w' => e = .returned (.tuple #[]) ∧ ∃ X', Wl X' w' (intsW out l) ∧ Stp X X' w w' := by
  obtain ⟨W1, hW1⟩ : ∃ W1, w.alloc (.cells #[X.i] 48) = W1 := ⟨_, rfl⟩
  have hb : W1.heap[w.heap.size]? = some (.cells #[X.i] 48 (0, 0)) := by rw [← hW1]; exact heap_new _ _ rfl
  have cb : W1.cell? ⟨w.heap.size, 0, none⟩ = some X.i := cell_of hb rfl
  have S0 := hide (show Stp X X w W1.drew from (hW1 ▸ Stp.of_below (below_drew ((Below.refl _ _).alloc (Nat.le_refl _) _))))
  have L1 := hide (show Wl X W1.drew out from hW1 ▸ (L.alloc _).drew)
  have HB := hide hb
  have HC := hide (wlistN_any L1.out hBX (q := q) (v := v) (by rw [L.cellB S0.out (Nat.lt_of_lt_of_le hqB hBX)]; exact hq) hqB (ints_keep (Nat.le_refl _) (fun j hj => Stp.sameB L S0.out j (Nat.lt_of_lt_of_le hj hBX)) R) hm)
  clear hb L hqB hm hq R hBX
  go_enter Try.func38, Try.ntmps38
  go_wp2_with fail
  clear hW1
  go_region_held3 (fun W => W.cell? ⟨w.heap.size, 0, none⟩ = some X.i) (first | exact cb | exact cb2 | go_keep) ((go_simp; go_at_call 44; refine HC.out.mono ?_; rintro e w2 ⟨rfl, X2, LX, SX⟩; have cb2 : w2.cell? ⟨w.heap.size, 0, none⟩ = some X.i := cell_of (SX.box L1.out HB.out (by decide) (by decide)) rfl))
  have HLX := hide LX
  have HSX := hide (S0.out.trans SX)
  clear LX SX cb cb2 HC S0 L1 HB
  go_wp2
  go_returns
  exact ⟨rfl, X2, HLX.out, HSX.out⟩
set_option maxHeartbeats 1000000 in
theorem wlayout_any (L : Wl X w out) (hBX : B ≤ X.B) {g o : Nat} {v : Value} {l : List Int} (hq : w.cell? ⟨g, o, none⟩ = some v) (hqB : g < B) (R : SlAt 1 IntP B w v l) (hm : out.length ≤ 5000000) :
    Calls Try.prog 34 #[.agg #[X.i], .pointer (some ⟨g, o, none⟩)] w fun e w' => e = .returned (.tuple #[]) ∧ ∃ X', Wl X' w' (intsW out l) ∧ Stp X X' w w' := by
  obtain ⟨W1, hW1⟩ : ∃ W1, w.alloc (.cells #[X.i] 48) = W1 := ⟨_, rfl⟩
  have hb : W1.heap[w.heap.size]? = some (.cells #[X.i] 48 (0, 0)) := by rw [← hW1]; exact heap_new _ _ rfl
  have cb : W1.cell? ⟨w.heap.size, 0, none⟩ = some X.i := cell_of hb rfl
  have S0 := hide (show Stp X X w W1.drew from (hW1 ▸ Stp.of_below (below_drew ((Below.refl _ _).alloc (Nat.le_refl _) _))))
  have L1 := hide (show Wl X W1.drew out from hW1 ▸ (L.alloc _).drew)
  have HB := hide hb
  have HC := hide (wnumbers_any L1.out hBX (q := ⟨g, o, none⟩) (v := v) (by rw [L.cellB S0.out (show g < X.B from Nat.lt_of_lt_of_le hqB hBX)]; exact hq) hqB (ints_keep (Nat.le_refl _) (fun j hj => Stp.sameB L S0.out j (Nat.lt_of_lt_of_le hj hBX)) R) hm)
  clear hb L hqB hm hq R hBX
  go_enter Try.func34, Try.ntmps34
  go_wp2_with fail
  clear hW1
  go_region_held3 (fun W => W.cell? ⟨w.heap.size, 0, none⟩ = some X.i) (first | exact cb | exact cb2 | go_keep) ((go_simp; go_at_call 38; refine HC.out.mono ?_; rintro e w2 ⟨rfl, X2, LX, SX⟩; have cb2 : w2.cell? ⟨w.heap.size, 0, none⟩ = some X.i := cell_of (SX.box L1.out HB.out (by decide) (by decide)) rfl))
  have HLX := hide LX
  have HSX := hide (S0.out.trans SX)
  clear LX SX cb cb2 HC S0 L1 HB
  go_wp2
  go_returns
  exact ⟨rfl, X2, HLX.out, HSX.out⟩
variable {w0 : World} {g o : Nat} {cs : List Value} {i k : Nat}
theorem witem_L {l : List Int} (L : Wl X w out) (hB : B ≤ X.B) (hg : g < B) (hk : ∀ j, j < B → w.heap[j]? = w0.heap[j]?) (hcs : ∀ r u, cs[r]? = some u → w0.cell? ⟨g, o + i * k + r, none⟩ = some u) (hP : LstP B w0 cs l) (hm : out.length ≤ 4200000) :
    Calls Try.prog 34 #[.agg #[X.i], .pointer (some ⟨g, o + i * k, none⟩)] w fun e w' => e = .returned (.tuple #[]) ∧ ∃ X', Wl X' w' (intsW out l) ∧ Stp X X' w w' := by
  obtain ⟨v, rfl, h1⟩ := hP
  exact wlayout_any L hB (witem_cell hg hk hcs 0 _ rfl) hg (ints_keep (Nat.le_refl _) hk h1) (by omega)
theorem witem_T {l : List Int} (L : Wl X w out) (hB : B ≤ X.B) (hg : g < B) (hk : ∀ j, j < B → w.heap[j]? = w0.heap[j]?) (hcs : ∀ r u, cs[r]? = some u → w0.cell? ⟨g, o + i * k + r, none⟩ = some u) (hP : LstP B w0 cs l) (hm : out.length ≤ 4200000) :
    Calls Try.prog 38 #[.agg #[X.i], .pointer (some ⟨g, o + i * k, none⟩)] w fun e w' => e = .returned (.tuple #[]) ∧ ∃ X', Wl X' w' (intsW out l) ∧ Stp X X' w w' := by
  obtain ⟨v, rfl, h1⟩ := hP
  exact wnumbers_any L hB (q := ⟨g, o + i * k, none⟩) (witem_cell hg hk hcs 0 _ rfl) hg (ints_keep (Nat.le_refl _) hk h1) (by omega)
end
end Go.Proofs.Ytgkpfpaohibcjaa
