/- sort.Search, laid over this program. -/
import Derived.Shelf.SlSorted.Search
import Derived.Test.YtimpmgbahgganaaProg
namespace Go.Proofs.Ytimpmgbahgganaa
open Go.Shelf
def Try.laysSearch_ren : Go.Shelf.Ren := ⟨fun | 16 => 66 | n => n, fun | 3 => 3 | 4 => 4 | 35 => 88 | 38 => 128 | n => n, fun | n => n⟩
set_option maxRecDepth 20000 in
theorem Try.laysSearch : Go.Proofs.SlLaysO.n16 Try.prog Try.laysSearch_ren := {
  mixed := by kernel_rfl
  f16 := Try.func66.trans (congrArg some (by kernel_rfl))
  t3 := Try.underlying3
  a3 := Try.isAgg3
  z3 := Try.sizeOf3
  v3 := Try.zeroValue3
  t4 := Try.underlying4
  a4 := Try.isAgg4
  z4 := Try.sizeOf4
  v4 := Try.zeroValue4
  t35 := Try.underlying88
  a35 := Try.isAgg88
  z35 := Try.sizeOf88
  v35 := Try.zeroValue88
  t38 := Try.underlying128
  a38 := Try.isAgg128
  z38 := Try.sizeOf128
  v38 := Try.zeroValue128 }
end Go.Proofs.Ytimpmgbahgganaa
