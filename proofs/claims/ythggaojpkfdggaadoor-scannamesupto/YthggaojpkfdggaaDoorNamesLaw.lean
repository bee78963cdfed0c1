/- The law ScanNames, walked. -/
import Derived.Test.YthggaojpkfdggaaDoorRef3
namespace Go.Proofs.YthggaojpkfdggaaDoor
open Go.RowKit

set_option maxHeartbeats 1000000 in
theorem names_any (s : ByteArray) (hs : s.size ≤ 1048576) (w : World) (hG : Gl w) : Calls Tryd.prog 4 #[.string s] w fun e w' => e = .returned (.bool true) ∧ Below w.heap.size w w' := by
  have hm : s.size ≤ maxLen := by unfold maxLen; omega
  have cQ := quote_any s (by omega)
  have cR := quoteR_any s (by omega)
  generalize (⟨(quoteL s.data.toList).toArray⟩ : ByteArray) = q at *
  have cN : ∀ W, Gl W → _ := fun W hG => isName_any s hm W hG
  have cM := nameR_any s hm
  generalize nameP s.data.toList = b at *
  have HQ := Lib.hid cQ
  have HR := Lib.hid cR
  have HN := Lib.hid cN
  have HM := Lib.hid cM
  clear cQ cR cN cM
  go_enter Tryd.func4, Tryd.ntmps4
  go_wp2_with fail
  refine (awake_any w hG).mono ?_
  rintro e w1 ⟨rfl, b1⟩
  go_wp2_with fail
  refine (HQ.out w1).mono ?_
  rintro e w2 ⟨rfl, b2⟩
  go_wp2_with fail
  refine (HR.out w2).mono ?_
  rintro e w3 ⟨rfl, b3⟩
  have b13 : Below w.heap.size w w3 := b1.trans ((b2.trans (b3.mono b2.size)).mono b1.size)
  go_wp2_with fail
  refine (HN.out w3 (hG.later b13)).mono ?_
  rintro e w4 ⟨rfl, b4⟩
  go_wp2_with fail
  refine (HM.out w4).mono ?_
  rintro e w5 ⟨rfl, b5⟩
  go_wp2
  go_ret
  exact ⟨by simp, b13.trans ((b4.trans (b5.mono b4.size)).mono b13.size)⟩

end Go.Proofs.YthggaojpkfdggaaDoor
