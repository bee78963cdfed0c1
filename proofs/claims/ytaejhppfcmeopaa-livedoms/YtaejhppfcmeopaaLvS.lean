/- The library's bits.Len64, laid over this program. -/
import Derived.Shelf.Small.Bits
import Derived.Test.YtaejhppfcmeopaaProg
namespace Go.Proofs.Ytaejhppfcmeopaa
open Go.Shelf
def Try.laysLen_ren : Go.Shelf.Ren := ⟨fun | 129 => 52 | n => n, fun | 3 => 3 | 4 => 4 | 5 => 5 | 9 => 9 | 46 => 80 | 53 => 62 | n => n, fun | n => n⟩
set_option maxRecDepth 20000 in
theorem Try.laysLen : Go.Proofs.Lays.n129 Try.prog Try.laysLen_ren := {
  mixed := by kernel_rfl
  f129 := Try.func52.trans (congrArg some (by kernel_rfl))
  t3 := Try.underlying3
  a3 := Try.isAgg3
  z3 := Try.sizeOf3
  v3 := Try.zeroValue3
  t4 := Try.underlying4
  a4 := Try.isAgg4
  z4 := Try.sizeOf4
  v4 := Try.zeroValue4
  t5 := Try.underlying5
  a5 := Try.isAgg5
  z5 := Try.sizeOf5
  v5 := Try.zeroValue5
  t9 := Try.underlying9
  a9 := Try.isAgg9
  z9 := Try.sizeOf9
  v9 := Try.zeroValue9
  t46 := Try.underlying80
  a46 := Try.isAgg80
  z46 := Try.sizeOf80
  v46 := Try.zeroValue80
  t53 := Try.underlying62
  a53 := Try.isAgg62
  z53 := Try.sizeOf62
  v53 := Try.zeroValue62 }
theorem Try.bits_Len64 (x : Int) (w : World) (h0 : 0 ≤ x) (h1 : x ≤ 18446744073709551615) :
    Calls Try.prog 52 #[.int .u64 x] w fun e w' => e = .returned (.int .i64 (Lib.bitLen x.toNat)) ∧ w' = w := Any.bits_Len64 Try.laysLen x w h0 h1
end Go.Proofs.Ytaejhppfcmeopaa
