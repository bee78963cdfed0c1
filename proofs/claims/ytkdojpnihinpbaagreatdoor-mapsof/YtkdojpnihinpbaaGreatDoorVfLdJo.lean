/- What the rows' list of package variables gives the verifier's walks. -/
import Derived.Test.YtkdojpnihinpbaaGreatDoorRows
import Derived.Test.YtkdojpnihinpbaaGreatDoorVfQJo
import Derived.ProofKit
import Derived.LaidMore
import Derived.OpenShut
import Derived.MakeChecks
import Derived.Stop.LaidErr
import Derived.Stop.Joined
import Derived.Deep.DeepHandedRow
import Derived.Deep.DeepWitnessRowRef
import Derived.Lib.LaidTab
namespace Go.Proofs.YtkdojpnihinpbaaGreatDoor
set_option maxRecDepth 20000
open Go.ChangeShapes Go.WideShapes Go.ChangeAt Go.RowKit
theorem own:ownKnob Tryz.prog.godebug=none:=by kernel_rfl
theorem gBru : Tryz.prog.globalNamed "math/bits.deBruijn64tab" = some 0 := by kernel_rfl
theorem tBru:(Tryz.prog.globals[0]?).map (·.type)=some 136:=by kernel_rfl
theorem uTab:Tryz.prog.underlying 136=some (.array 64 5):=by kernel_rfl
def laid1:List (String × DataW Unit):=Rows.mapsOfRow.laid
theorem tb_of_laid {W:World} (h:laidMetH Tryz.prog laid1 W):Tb W∧0<W.heap.size:=by
 rw [MakeChecks.laidMetH_plain _ _ _ (by kernel_rfl)] at h
 have h3 : laidMet Tryz.prog (("math/bits.deBruijn64tab", Lib.tabData .u8 (Lib.deBruijn64tab.map fun n : Nat => (n : Int))) :: []) W := h
 have ht:=Lib.tabIs_of_head gBru tBru uTab Tryz.underlying5 (by kernel_rfl) (by kernel_rfl) h3
 unfold Lib.TabIs at ht
 have hT:Tb W:=fun j hj=>by
  have h4:=World.var?_cell gBru ht j
  rw [h4]
  have hl:j<Lib.deBruijn64tab.length:=hj
  simp [hl,List.getD]
 exact ⟨hT,World.block_lt_of_cell? _ _ (hT 0 (by decide))⟩
/-- The door's own heap meets the list. -/
theorem door_met (os:Os) (args:Array Value):laidMetH Tryz.prog laid1 ((World.doorLaid Tryz.prog 65 os).forCall (fun _ _=>0) ⟨#[],args,[]⟩).memory :=
  laidMetH_of_parts3 (fuel:=8) (laidMet_of_run' 8 (by kernel_rfl) (by kernel_rfl)) (by kernel_rfl) (by kernel_rfl)
end Go.Proofs.YtkdojpnihinpbaaGreatDoor
