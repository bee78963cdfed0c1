/- The comparison by which ranges are ordered. -/
import Derived.Test.YtmkeahfdbmfajaaSxO
namespace Go.Proofs.Ytmkeahfdbmfajaa
open Go.RowKit
def cmpI (x y : Int) : Int := if x < y then -1 else if y < x then 1 else 0
def orI (a c : Int) : Int := if a = 0 then c else a
section
variable {w : World}
theorem isnan_any (x : Int) : Calls Try.prog 35 #[.int .i64 x] w fun e w' => e = .returned (.bool false) ∧ w' = w := by
  go_enter Try.func35, Try.ntmps35
  go_wp2
  go_ret
  exact ⟨by simp, rfl⟩
set_option maxHeartbeats 1000000 in
theorem compare_any (x y : Int) : Calls Try.prog 26 #[.int .i64 x, .int .i64 y] w fun e w' => e = .returned (.int .i64 (cmpI x y)) ∧ w' = w := by
  go_enter Try.func26, Try.ntmps26
  go_wp2_with (go_at_call 35; refine (isnan_any _).mono ?_; rintro e w' ⟨rfl, hw⟩; rw [hw])
  all_goals (go_ret; refine ⟨?_, rfl⟩; unfold cmpI; (repeat' split) <;> first | rfl | (exfalso; omega))
set_option maxHeartbeats 1000000 in
theorem or_any {b : Nat} (a c : Int) (hb : w.heap[b]? = some (.cells #[.int .i64 a, .int .i64 c] 3 (0, 0))) : Calls Try.prog 25 #[.slice (some ⟨b, 0, none⟩) 2 2] w fun e w' => e = .returned (.int .i64 (orI a c)) ∧ w' = w := by
  have c0 : w.cell? ⟨b, 0, none⟩ = some (.int .i64 a) := cell_of hb rfl
  have c1 : w.cell? ⟨b, 1, none⟩ = some (.int .i64 c) := cell_of hb rfl
  clear hb
  by_cases h : a = 0
  · subst h
    by_cases h2 : c = 0
    · subst h2
      go_enter Try.func25, Try.ntmps25
      go_wp2
      refine wp_loop_rounds 3 ?_
      rw [rounds_succ]
      go_wp2
      rw [rounds_succ]
      go_wp2
      rw [rounds_succ]
      go_wp2
      go_ret
      exact ⟨rfl, rfl⟩
    · have h2' : decide (c = 0) = false := by simpa using h2
      have e : orI 0 c = c := rfl
      rw [e]
      go_enter Try.func25, Try.ntmps25
      go_wp2
      refine wp_loop_rounds 2 ?_
      rw [rounds_succ]
      go_wp2
      rw [rounds_succ]
      go_wp2
      go_ret
      exact ⟨rfl, rfl⟩
  · have h' : decide (a = 0) = false := by simpa using h
    have e : orI a c = a := if_neg h
    rw [e]
    go_enter Try.func25, Try.ntmps25
    go_wp2
    refine wp_loop_rounds 1 ?_
    rw [rounds_succ]
    go_wp2
    go_ret
    exact ⟨rfl, rfl⟩
theorem heap_newd (w : World) (o : Obj) {j : Nat} (h : j = w.heap.size) : (w.alloc o).drew.heap[j]? = some o := heap_new w o h
/-- How two of the ranges stand to one another. -/
def cfR (l : List Rg) (x y : Fin l.length) : Int := orI (cmpI (kf l x) (kf l y)) (cmpI x.val y.val)
set_option maxRecDepth 20000 in
set_option maxHeartbeats 2000000 in
theorem clos_any {v : Value} {l : List Rg} {b : Nat} (R : RgsAt w v l) (hb : w.cell? ⟨b, 0, none⟩ = some v) (_ : b < w.heap.size) (x y : Fin l.length) : Calls Try.prog 24 #[.int .i64 x.val, .int .i64 y.val, .pointer (some ⟨b, 0, none⟩)] w fun e w' => e = .returned (.int .i64 (cfR l x y)) ∧ ∃ q o, w' = (w.drewN q).alloc o := by
  obtain ⟨ao, cap, rfl⟩ := R.slice
  obtain ⟨p1, h1⟩ : ∃ p, l[x.val]? = some p := ⟨l[x.val], by simp⟩
  obtain ⟨p2, h2⟩ : ∃ p, l[y.val]? = some p := ⟨l[y.val], by simp⟩
  obtain ⟨g, o, rfl, hg, a0, _⟩ := R.cell h1
  obtain ⟨g', o', e', hg', a1, _⟩ := R.cell h2
  cases e'
  have bx := x.isLt
  have bY := y.isLt
  unfold cfR
  rw [kf_get h1, kf_get h2]
  clear R h1 h2
  generalize x.val = i at *
  generalize y.val = k at *
  generalize l.length = n at *
  have b1 : (i : Int) < (n : Int) := by omega
  have b2 : (k : Int) < (n : Int) := by omega
  have hc1 := compare_any (w := w) p1.fr p2.fr
  go_enter Try.func24, Try.ntmps24
  go_wp2
  go_region_with (first
    | (go_at_call 26; refine (compare_any _ _).mono ?_; rintro e w' ⟨rfl, hw⟩; rw [hw])
    | (go_at_call 25; refine (or_any _ _ (heap_newd _ _ rfl)).mono ?_; rintro e w' ⟨rfl, hw⟩; rw [hw]))
  all_goals go_wp2
  all_goals go_ret
  all_goals exact ⟨rfl, 1, _, rfl⟩
end
end Go.Proofs.Ytmkeahfdbmfajaa
