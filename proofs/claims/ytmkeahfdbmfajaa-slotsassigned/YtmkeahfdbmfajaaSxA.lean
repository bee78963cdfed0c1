/- The queue's methods. -/
import Derived.Test.YtmkeahfdbmfajaaSxW
import Derived.Test.YtmkeahfdbmfajaaSxM
namespace Go.Proofs.Ytmkeahfdbmfajaa
open Go.RowKit
def zs (l : List Nat) : List Int := l.map fun (x : Nat) => (x : Int)
theorem zs_len (l : List Nat) : (zs l).length = l.length := by simp [zs]
theorem ints_len (l : List Int) : (ints l).length = l.length := by simp [ints]
theorem zs_get {l : List Nat} {i : Nat} (h : i < l.length) : (zs l)[i]? = some ((l.getD i 0 : Nat) : Int) := by
  simp [zs, List.getD_eq_getElem?_getD, h]
theorem ints_set (l : List Int) (i : Nat) (x : Int) : ints (l.set i x) = (ints l).set i (.int .i64 x) := by simp [ints, List.map_set]
theorem zs_set (l : List Nat) (i x : Nat) : zs (l.set i x) = (zs l).set i x := by simp [zs, List.map_set]
theorem ne_ty {w : World} {i j : Nat} {c d : Array Value} {t t2 : TypeId} {z z2 : Nat × Nat} (h1 : w.heap[i]? = some (.cells c t z)) (h2 : w.heap[j]? = some (.cells d t2 z2)) (ht : t ≠ t2) : i ≠ j := fun e => by
  rw [e, h2] at h1; simp at h1; exact ht h1.2.1.symm
section
variable {w : World} {C g n cap : Nat}
/-- A number of a row of one's own. -/
theorem row_int {v : Value} {l : List Int} {i : Nat} {x : Int} (h : w.ownsRow C 3 1 v n (ints l)) (hi : l[i]? = some x) : ∃ g cap, v = .slice (some ⟨g, 0, none⟩) n cap ∧ w.cell? ⟨g, i, none⟩ = some (.int .i64 x) ∧ w.frozen? ⟨g, i, none⟩ = false ∧ g < w.heap.size ∧ i < n ∧ C ≤ g := by
  obtain ⟨g, cap, rfl, h1, h2, h3⟩ := row_cell h (ints_get hi)
  have hl := h.lt g rfl
  exact ⟨g, cap, rfl, h1, h2, hl.2, h3, hl.1⟩
/-- A number of it is set. -/
theorem row_set {xs : List Value} {i : Nat} (u : Value) (h : w.ownsRow C 3 1 (.slice (some ⟨g, 0, none⟩) n cap) n xs) (_ : i < n) : (w.setCell ⟨g, i, none⟩ u).ownsRow C 3 1 (.slice (some ⟨g, 0, none⟩) n cap) n (xs.set i u) := by
  obtain ⟨h1, h2⟩ := h
  rcases h2 with ⟨h2, _⟩ | ⟨g1, cap1, cur, e1, hB, hc, hmc, hcap, hsz, htk⟩
  · cases h2
  · cases e1
    refine ⟨by simpa using h1, .inr ⟨g, cap, cur.setIfInBounds i u, rfl, hB, heap_setCell_same _ _ _ _ hc, hmc, hcap, by simpa using hsz, ?_⟩⟩
    rw [Array.toList_setIfInBounds, ← htk, List.take_set]
end
section
variable {w : World} {C n : Nat}
set_option maxHeartbeats 1000000 in
theorem qlen_any {ao : Option Addr} {cap : Nat} : Calls Try.prog 27 #[.slice ao n cap] w fun e w' => e = .returned (.int .i64 n) ∧ w' = w := by
  go_enter Try.func27, Try.ntmps27
  go_wp2
  go_ret
  exact ⟨rfl, rfl⟩
set_option maxHeartbeats 1000000 in
theorem qless0 {v : Value} {l : List Int} {i j : Nat} {x1 x2 : Int} (h : w.ownsRow C 3 1 v n (ints l)) (hi : l[i]? = some x1) (hj : l[j]? = some x2) : Calls Try.prog 84 #[v, .int .i64 i, .int .i64 j] w fun e w' => e = .returned (.bool (decide (x1 < x2))) ∧ Below w.heap.size w w' := by
  obtain ⟨g, cap, rfl, c1, z1, lg, b1, _⟩ := row_int h hi
  obtain ⟨g2, cap2, e2, c2, z2, _, b2, _⟩ := row_int h hj
  cases e2
  have b1' : (i : Int) < (n : Int) := by omega
  have b2' : (j : Int) < (n : Int) := by omega
  clear h hi hj
  go_enter Try.func84, Try.ntmps84
  go_wp2
  go_region
  go_wp2_with fail
  go_ret
  exact ⟨rfl, below_drewN (Below.refl _ _) 1⟩
theorem qless_any {v : Value} {l : List Nat} {i j : Nat} (h : w.ownsRow C 3 1 v n (ints (zs l))) (hi : i < l.length) (hj : j < l.length) : Calls Try.prog 84 #[v, .int .i64 i, .int .i64 j] w fun e w' => e = .returned (.bool (decide (kv (fun x => (x : Int)) l i < kv (fun x => (x : Int)) l j))) ∧ Below w.heap.size w w' :=
  qless0 h (zs_get hi) (zs_get hj)
set_option maxHeartbeats 1000000 in
theorem qswap_any {v : Value} {l : List Nat} {i j : Nat} (h : w.ownsRow C 3 1 v l.length (ints (zs l))) (hi : i < l.length) (hj : j < l.length) : Calls Try.prog 85 #[v, .int .i64 i, .int .i64 j] w fun e w' => (∃ v', e = .returned v') ∧ w'.ownsRow C 3 1 v (sw l i j).length (ints (zs (sw l i j))) ∧ Kp (fun b => v.ownBlock = some b) w w' := by
  obtain ⟨g, cap, rfl, c1, z1, lg, b1, _⟩ := row_int h (zs_get hi)
  obtain ⟨g2, cap2, e2, c2, z2, _, b2, _⟩ := row_int h (zs_get hj)
  cases e2
  have e : ints (zs (sw l i j)) = ((ints (zs l)).set i (.int .i64 ((l.getD j 0 : Nat) : Int))).set j (.int .i64 ((l.getD i 0 : Nat) : Int)) := by unfold sw; rw [zs_set, zs_set, ints_set, ints_set]
  rw [sw_len, e]
  have R2 := row_set (.int .i64 ((l.getD i 0 : Nat) : Int)) (row_set (.int .i64 ((l.getD j 0 : Nat) : Int)) h b1) b2
  have h1 := row_set (.int .i64 ((l.getD j 0 : Nat) : Int)) h b1
  have hz : (w.setCell ⟨g, i, none⟩ (.int .i64 ((l.getD j 0 : Nat) : Int))).frozen? ⟨g, j, none⟩ = false := by
    rcases h1.2 with ⟨h2, _⟩ | ⟨g1, cap1, cur, e1, _, hc, _⟩
    · cases h2
    · cases e1; exact fz_of _ hc
  have hc : ∃ x, (w.setCell ⟨g, i, none⟩ (.int .i64 ((l.getD j 0 : Nat) : Int))).cell? ⟨g, j, none⟩ = some x := by
    rcases h1.2 with ⟨h2, _⟩ | ⟨g1, cap1, cur, e1, _, hc, hmc, hcap, hsz, _⟩
    · cases h2
    · cases e1; exact ⟨cur[j]'(by omega), cell_of hc (by simp [show j < cur.size by omega])⟩
  obtain ⟨xj, hc⟩ := hc
  have HK : Hid (Kp (fun b => (Value.slice (some ⟨g, 0, none⟩) l.length cap).ownBlock = some b) w ((w.setCell ⟨g, i, none⟩ (.int .i64 ((l.getD j 0 : Nat) : Int))).setCell ⟨g, j, none⟩ (.int .i64 ((l.getD i 0 : Nat) : Int))).drew) := hide (((Kp.setCell _ _ _).trans (Kp.setCell _ _ _)).mono (fun b hb => by rw [hb]; rfl)).drew
  have HR : Hid (((w.setCell ⟨g, i, none⟩ (.int .i64 ((l.getD j 0 : Nat) : Int))).setCell ⟨g, j, none⟩ (.int .i64 ((l.getD i 0 : Nat) : Int))).drew.ownsRow C 3 1 (.slice (some ⟨g, 0, none⟩) l.length cap) l.length (((ints (zs l)).set i (.int .i64 ((l.getD j 0 : Nat) : Int))).set j (.int .i64 ((l.getD i 0 : Nat) : Int)))) := hide (ownsRow_keep R2 (fun _ _ => rfl))
  clear e h1 R2 h
  generalize ((ints (zs l)).set i (.int .i64 ((l.getD j 0 : Nat) : Int))).set j (.int .i64 ((l.getD i 0 : Nat) : Int)) = ys at *
  have b1' : (i : Int) < (l.length : Int) := by omega
  have b2' : (j : Int) < (l.length : Int) := by omega
  generalize ((l.getD i 0 : Nat) : Int) = x1 at *
  generalize ((l.getD j 0 : Nat) : Int) = x2 at *
  generalize l.length = n at *
  go_enter Try.func85, Try.ntmps85
  go_wp2
  go_region
  go_wp2_with fail
  go_returns
  exact ⟨⟨_, rfl⟩, HR.out, HK.out⟩
/-- One more number, put into a queue. -/
theorem run_appQ {W : World} {C b m : Nat} {v : Value} {xs : List Value} {x : Int} (hown : W.ownsRow C 3 1 v m xs) (hb : W.heap[b]? = some (.cells #[.int .i64 x] 3 (0, 0))) (hlen : m < 1000000000) (hB : C ≤ W.heap.size) :
    ∃ g cap w', (Builtin.append_ #[42, 42] 42 #[v, .slice (some ⟨b, 0, none⟩) 1 1]).run Try.prog W = .ok (.slice (some ⟨g, 0, none⟩) (m + 1) cap) w' ∧
      w'.ownsRow C 3 1 (.slice (some ⟨g, 0, none⟩) (m + 1) cap) (m + 1) (xs ++ [.int .i64 x]) ∧ W.grownBy w' v.ownBlock ∧ (v.ownBlock = some g ∨ g = W.heap.size) ∧ g < w'.heap.size := by
  obtain ⟨i0, hi, hz0, hz1, hz2⟩ := info_parts Try.info3
  exact run_append_lies (P := Try.prog) W 42 42 C 3 i0 _ 1 8 Try.underlying42 hi hz0 hz1 hz2 rfl (by decide) v m xs hown ⟨b, 0, none⟩ 1 1 [.int .i64 x] rfl (World.news_of_block hb)
    (by intro u hu; simp at hu; rcases hu with rfl; rfl) (by decide) (by unfold maxLen; omega) (by omega) hB _ rfl
/-- A row without its last number. -/
theorem row_short {g cap : Nat} {xs : List Value} (h : w.ownsRow C 3 1 (.slice (some ⟨g, 0, none⟩) (n + 1) cap) (n + 1) xs) : w.ownsRow C 3 1 (.slice (some ⟨g, 0, none⟩) n cap) n (xs.take n) := by
  obtain ⟨h1, h2⟩ := h
  rcases h2 with ⟨h2, _⟩ | ⟨g1, cap1, cur, e1, hB, hc, hmc, hcap, hsz, htk⟩
  · cases h2
  · cases e1
    refine ⟨by rw [List.length_take]; omega, .inr ⟨g, cap, cur, rfl, hB, hc, by omega, hcap, hsz, ?_⟩⟩
    rw [← htk, List.take_take]
    congr 1
    omega
end
end Go.Proofs.Ytmkeahfdbmfajaa
