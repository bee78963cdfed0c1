/- soundFunc. -/
import Derived.Test.YtkdojpnihinpbaaDoorCdSI
namespace Go.Proofs.YtkdojpnihinpbaaDoor
open Go.RowKit
section
variable {w : World} {B : Nat}
set_option maxHeartbeats 1000000 in
theorem sndF_any (f : Fd) {a4 : Option Addr} {c4 : Nat} (R : SlAt 3 InsP B w (.slice a4 f.co.length c4) f.co) (hB : B ≤ w.heap.size) (a1 a2 a3 : Option Addr) (c1 c2 c3 : Nat) :
    Calls Tryd.prog 41 #[.agg #[.int .i64 f.pa, .slice a1 f.lo.length c1, .slice a2 f.re.length c2, .slice a3 f.ar.length c3, .slice a4 f.co.length c4]] w fun e w' => e = .returned (.bool (sndF f)) ∧ Below w.heap.size w w' := by
  obtain ⟨W1, hW1⟩ : ∃ W1, w.alloc (.cells #[.int .i64 f.pa, .slice a1 f.lo.length c1, .slice a2 f.re.length c2, .slice a3 f.ar.length c3, .slice a4 f.co.length c4] 50) = W1 := ⟨_, rfl⟩
  have BB := hide (show Below w.heap.size w W1 from hW1 ▸ (Below.refl _ _).alloc (Nat.le_refl _) _)
  have HC := hide (eachI_any (w := W1) (ins_keep (Nat.le_refl _) (fun j hj => BB.out.block j (Nat.lt_of_lt_of_le hj hB)) R) (Nat.le_trans hB BB.out.size))
  have k0 : W1.cell? ⟨w.heap.size, 0, none⟩ = some (.int .i64 f.pa) := hW1 ▸ cell_of (heap_new _ _ rfl) rfl
  have k1 : W1.cell? ⟨w.heap.size, 1, none⟩ = some (.slice a1 f.lo.length c1) := hW1 ▸ cell_of (heap_new _ _ rfl) rfl
  have k2 : W1.cell? ⟨w.heap.size, 2, none⟩ = some (.slice a2 f.re.length c2) := hW1 ▸ cell_of (heap_new _ _ rfl) rfl
  have k3 : W1.cell? ⟨w.heap.size, 3, none⟩ = some (.slice a3 f.ar.length c3) := hW1 ▸ cell_of (heap_new _ _ rfl) rfl
  have k4 : W1.cell? ⟨w.heap.size, 4, none⟩ = some (.slice a4 f.co.length c4) := hW1 ▸ cell_of (heap_new _ _ rfl) rfl
  unfold sndF
  have e1 : decide ((f.lo.length : Int) ≤ 4096) = decide (f.lo.length ≤ 4096) := by apply decide_eq_decide.mpr; omega
  have e2 : decide ((f.re.length : Int) ≤ 4096) = decide (f.re.length ≤ 4096) := by apply decide_eq_decide.mpr; omega
  have e3 : decide ((f.ar.length : Int) ≤ 4096) = decide (f.ar.length ≤ 4096) := by apply decide_eq_decide.mpr; omega
  generalize eachB 65536 sndI f.co = d6 at *
  generalize f.lo.length = n1 at *
  generalize f.re.length = n2 at *
  generalize f.ar.length = n3 at *
  generalize f.co.length = n4 at *
  generalize f.pa = pa at *
  generalize decide (n1 ≤ 4096) = d1 at *
  generalize decide (n2 ≤ 4096) = d4 at *
  generalize decide (n3 ≤ 4096) = d5 at *
  generalize hd2 : decide (0 ≤ pa) = d2 at *
  generalize hd3 : decide (pa ≤ (n1 : Int)) = d3 at *
  clear R hB
  cases d1 with
  | false =>
    go_enter Tryd.func41, Tryd.ntmps41
    go_wp2
    go_ret
    exact ⟨by simp, BB.out⟩
  | true =>
    cases d2 with
    | false =>
      go_enter Tryd.func41, Tryd.ntmps41
      go_wp2
      go_ret
      exact ⟨by simp, BB.out⟩
    | true =>
      cases d3 with
      | false =>
        go_enter Tryd.func41, Tryd.ntmps41
        go_wp2
        go_ret
        exact ⟨by simp, BB.out⟩
      | true =>
        cases d4 with
        | false =>
          go_enter Tryd.func41, Tryd.ntmps41
          go_wp2
          go_ret
          exact ⟨by simp, BB.out⟩
        | true =>
          cases d5 with
          | false =>
            go_enter Tryd.func41, Tryd.ntmps41
            go_wp2
            go_ret
            exact ⟨by simp, BB.out⟩
          | true =>
            go_enter Tryd.func41, Tryd.ntmps41
            go_wp2_with fail
            refine HC.out.mono ?_
            rintro e w2 ⟨rfl, hb⟩
            have HB2 := hide (BB.out.trans (hb.mono BB.out.size))
            clear hb HC hW1
            go_wp2
            go_ret
            exact ⟨by simp, HB2.out⟩
end
end Go.Proofs.YtkdojpnihinpbaaDoor
