/- A set's methods: has, add, less, join. -/
import Derived.Test.YtaejhppfcmeopaaLvW
namespace Go.Proofs.Ytaejhppfcmeopaa
open Go.RowKit
section
variable {w w' : World}
theorem has_any (m b : Nat) (hb : b < 512) : Calls Try.prog 41 #[setV m, .int .i64 b] w fun e w' => e = .returned (.bool (m.testBit b)) ∧ Below w.heap.size w w' := by
  have hB : Below w.heap.size w (w.alloc (.cells (wc m) 64)) := (Below.refl _ _).alloc (Nat.le_refl _) _
  have hc : (w.alloc (.cells (wc m) 64)).cell? ⟨w.heap.size, b / 64, none⟩ = some (.int .u64 (wd m (b / 64))) := cell_of (BoxS.new w m) (wc_get m (by omega))
  generalize hW : w.alloc (.cells (wc m) 64) = W at *
  have e1 : (b : Int) / 64 = ((b / 64 : Nat) : Int) := by omega
  have e2 : (b : Int) % 64 = ((b % 64 : Nat) : Int) := by omega
  have hf := has_fact m b rfl
  have b1 : b / 64 < 8 := by omega
  have b2 : b % 64 < 64 := Nat.mod_lt _ (by decide)
  have b3 : (b : Int) < 512 := by omega
  generalize wd m (b / 64) = x at *
  generalize b / 64 = k at *
  generalize b % 64 = r at *
  go_enter Try.func41, Try.ntmps41
  go_wp2
  go_ret
  exact ⟨rfl, hB⟩
end
end Go.Proofs.Ytaejhppfcmeopaa
