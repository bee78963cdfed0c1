/- The document's Make of a heap, where there is no such type, or no such number. -/
import Derived.Test.YtimpmgbahgganaaRhCJp
import Derived.Deep.DrawnRows
namespace Go.Proofs.Ytimpmgbahgganaa
open Go.RowKit Go.Maps
attribute [local go_sem ↓] Go.wp_at_zero Go.wp_at_succ

section
variable {B : Nat} {w : World} {q : Rh} {vt vp vs vo : Value}
set_option maxHeartbeats 400000 in
theorem rmake_none (R : RH B w q vt vp vs vo) {t n : Int} (ht : t < 0 ∨ (q.ty.length : Int) ≤ t) :
    Calls Try.prog 12 #[rhv q vt vp vs vo, .int .i64 t, .int .i64 n] w fun e w' => e = .returned (.tuple #[.int .i64 0, .int .i64 6, rhv q vt vp vs vo]) ∧ Below w.heap.size w w' := by
  obtain ⟨aot, cpt, rfl⟩ := R.tform
  obtain ⟨aop, cpp, rfl⟩ := R.rl.pform
  obtain ⟨aos, cps, rfl⟩ := R.rl.sform
  obtain ⟨aoo, cpo, rfl⟩ := R.oform
  have bt := R.bt
  clear R
  by_cases h0 : t < 0
  · have d0 : decide (t < 0) = true := by simpa using h0
    clear ht
    go_enter Try.func12, Try.ntmps12
    go_wp2
    go_region
    all_goals go_wp2
    all_goals exact bodyPost_ret (v := .tuple #[.int .i64 0, .int .i64 6, rhv q (.slice aot q.ty.length cpt) (.slice aop q.r.ps.length cpp) (.slice aos q.r.st.length cps) (.slice aoo q.ob.length cpo)]) (by simp [results, Try.results12, go_sem]) rfl ⟨rfl, (((Below.refl _ w).alloc (Nat.le_refl _) _).alloc (by simp) _).drew⟩
  · have d0 : decide (t < 0) = false := by simpa using h0
    have d1 : decide ((q.ty.length : Int) ≤ t) = true := by simp; omega
    clear ht
    go_enter Try.func12, Try.ntmps12
    go_wp2
    go_region
    all_goals go_wp2
    all_goals exact bodyPost_ret (v := .tuple #[.int .i64 0, .int .i64 6, rhv q (.slice aot q.ty.length cpt) (.slice aop q.r.ps.length cpp) (.slice aos q.r.st.length cps) (.slice aoo q.ob.length cpo)]) (by simp [results, Try.results12, go_sem]) rfl ⟨rfl, (((Below.refl _ w).alloc (Nat.le_refl _) _).alloc (by simp) _).drew⟩
set_option maxHeartbeats 400000 in
theorem rmake_arg (R : RH B w q vt vp vs vo) {t n : Int} {m : Nat} (hm : t = m) (hl : m < q.ty.length) (hn : n < 0 ∨ 1024 < n) :
    Calls Try.prog 12 #[rhv q vt vp vs vo, .int .i64 t, .int .i64 n] w fun e w' => e = .returned (.tuple #[.int .i64 0, .int .i64 1, rhv q vt vp vs vo]) ∧ Below w.heap.size w w' := by
  obtain ⟨aot, cpt, rfl⟩ := R.tform
  obtain ⟨aop, cpp, rfl⟩ := R.rl.pform
  obtain ⟨aos, cps, rfl⟩ := R.rl.sform
  obtain ⟨aoo, cpo, rfl⟩ := R.oform
  have bt := R.bt
  clear R
  have d0 : decide (t < 0) = false := by simp; omega
  have d1 : decide ((q.ty.length : Int) ≤ t) = false := by simp; omega
  clear hm hl
  by_cases h0 : n < 0
  · have d2 : decide (n < 0) = true := by simpa using h0
    clear hn
    go_enter Try.func12, Try.ntmps12
    go_wp2
    go_region
    all_goals go_wp2
    all_goals exact bodyPost_ret (v := .tuple #[.int .i64 0, .int .i64 1, rhv q (.slice aot q.ty.length cpt) (.slice aop q.r.ps.length cpp) (.slice aos q.r.st.length cps) (.slice aoo q.ob.length cpo)]) (by simp [results, Try.results12, go_sem]) rfl ⟨rfl, (((Below.refl _ w).alloc (Nat.le_refl _) _).alloc (by simp) _).drew⟩
  · have d2 : decide (n < 0) = false := by simpa using h0
    have d3 : decide (1024 < n) = true := by simp; omega
    clear hn
    go_enter Try.func12, Try.ntmps12
    go_wp2
    go_region
    all_goals go_wp2
    all_goals exact bodyPost_ret (v := .tuple #[.int .i64 0, .int .i64 1, rhv q (.slice aot q.ty.length cpt) (.slice aop q.r.ps.length cpp) (.slice aos q.r.st.length cps) (.slice aoo q.ob.length cpo)]) (by simp [results, Try.results12, go_sem]) rfl ⟨rfl, (((Below.refl _ w).alloc (Nat.le_refl _) _).alloc (by simp) _).drew⟩
end
end Go.Proofs.Ytimpmgbahgganaa
