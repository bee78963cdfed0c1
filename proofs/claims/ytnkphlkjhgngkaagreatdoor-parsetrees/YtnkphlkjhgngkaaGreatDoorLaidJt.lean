/- What the rows' list of package variables gives the walks. -/
import Derived.Test.YtnkphlkjhgngkaaGreatDoorRows
import Derived.Test.YtnkphlkjhgngkaaGreatDoorNumJt
import Derived.ProofKit
import Derived.LaidMore
import Derived.OpenShut
import Derived.MakeChecks
import Derived.Stop.LaidErr
import Derived.Stop.Joined
import Derived.Deep.DeepHandedRow
import Derived.Deep.DeepWitnessRowRef
namespace Go.Proofs.YtnkphlkjhgngkaaGreatDoor
open Go.ChangeShapes Go.WideShapes Go.ChangeAt Go.RowKit
set_option maxRecDepth 20000 in
theorem own : ownKnob Tryz.prog.godebug = none:=by kernel_rfl
set_option maxRecDepth 20000 in
theorem gSyn : Tryz.prog.globalNamed "strconv.ErrSyntax" = some 0 := by kernel_rfl
set_option maxRecDepth 20000 in
theorem gRng : Tryz.prog.globalNamed "strconv.ErrRange" = some 1 := by kernel_rfl
set_option maxRecDepth 20000 in
theorem tSyn : (Tryz.prog.globals[0]?).map (·.type) = some 101:=by kernel_rfl
set_option maxRecDepth 20000 in
theorem tRng : (Tryz.prog.globals[1]?).map (·.type) = some 101:=by kernel_rfl
/-- The list that every row of this seat bears. -/
def laid5 : List (String × DataW Unit):=Rows.parseTreesRow.laid
set_option maxRecDepth 20000 in
theorem iface_cell {n nm : String} {d : DataW Unit} {r : List (String × DataW Unit)} {W : World} {g : Nat} (h : laidMet Tryz.prog ((n,.iface nm d) :: r) W) (hg : Tryz.prog.globalNamed n = some g) (ht : (Tryz.prog.globals[g]?).map (·.type) = some 101) :
    ∃ u v,W.cell? ⟨g,0,none⟩ = some (.iface u v):=by
  obtain ⟨ps,⟨g0,t0,cs0,f0,p0,q0,hg0,ht0,hv0,hd0,_,e0⟩,_,_⟩:=h
  obtain rfl:=Option.some.inj (hg.symm.trans hg0)
  obtain rfl:=Option.some.inj (ht.symm.trans ht0)
  obtain ⟨f1,u,v,hcs,_⟩:=iface_of_trod Tryz.underlying101 hd0
  have:=World.var?_cell hg0 hv0 0
  rw [Array.eq_one_of_toList hcs] at this
  exact ⟨u,v,by simpa using this⟩
set_option maxRecDepth 20000 in
theorem gl_of_laid {W : World} (h : laidMetH Tryz.prog laid5 W) : Gl W:=by
 rw [MakeChecks.laidMetH_plain _ _ _ (by kernel_rfl)] at h
 have h3 : laidMet Tryz.prog (("strconv.ErrRange", Rows.laid_strconv_ErrRange) :: ("strconv.ErrSyntax", Rows.laid_strconv_ErrSyntax) :: []) W := h.tail.tail.tail
 have h4 : laidMet Tryz.prog (("strconv.ErrSyntax", Rows.laid_strconv_ErrSyntax) :: []) W := h3.tail
 obtain ⟨u1,v1,c1⟩:=iface_cell h3 gRng tRng
 obtain ⟨u0,v0,c0⟩:=iface_cell h4 gSyn tSyn
 exact ⟨⟨u0,v0,c0⟩,⟨u1,v1,c1⟩,World.block_lt_of_cell? _ _ c1⟩
/-- The door's own heap meets the list. -/
theorem door_met (os : Os) (args : Array Value) : laidMetH Tryz.prog laid5 ((World.doorLaid Tryz.prog 62 os).forCall (fun _ _ => 0) ⟨#[],args,[]⟩).memory :=
  laidMetH_of_parts3 (fuel:=8) (laidMet_of_run' 8 (by kernel_rfl) (by kernel_rfl)) (by kernel_rfl) (by kernel_rfl)
end Go.Proofs.YtnkphlkjhgngkaaGreatDoor
