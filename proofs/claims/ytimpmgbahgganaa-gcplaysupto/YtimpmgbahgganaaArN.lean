/- awake, and what a nil arena answers. -/
import Derived.Test.YtimpmgbahgganaaArJ
namespace Go.Proofs.Ytimpmgbahgganaa
open Go.RowKit Go.Maps

theorem cls5 : clsN 5 = 6 := by decide +kernel
def aw1 : As := markS (pushS (newS 20) 6) 1 5
theorem aw_alloc : allocS (newS 20) 5 = some (1, aw1) := by
  unfold allocS
  rw [cls5]
  rfl
theorem aw_ps : aw1.ps = [⟨1, 6, 5⟩] := by kernel_rfl
theorem aw_hold : hold aw1.ps 5 = some 0 := by rw [aw_ps]; kernel_rfl
end Go.Proofs.Ytimpmgbahgganaa
