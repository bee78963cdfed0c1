/-
  No cell of these rows narrows 'for every input' (looked for: loops, veiled, ifaces, maps, wideKeys, modest, calm, conditions, laid).
  DERIVED. THE GIVEN ROWS OF THIS SEAT. 4 by the template 'for every input the law returns true; each argument reads behind the call as it read before'; 0 by the template 'total and deterministic' (their statements: YtimpmgbahgganaaTotals.lean).
  GIVEN WITH THE SEED: the statements are not yours to turn. If you find one false, say at which input.
  Laid BY PROGRAM, IN A SANDBOX (cutbox-rows.mjs): the forced cells as the released guide's own fill.sh prints them over the translation d4609d1669bf4799… (all of the seat's roots in one cut). By AI agents, Wed Nov 11 2026. No macro, syntax, notation, axiom, sorry.
-/
import Derived.Test.YtimpmgbahgganaaChecked
import GoSem.Claim
import GoSem.ClaimJoined
import GoSem.ClaimMapViews
import Derived.JoinedTies
import Derived.KernelRfl
namespace Go.Proofs.Ytimpmgbahgganaa
/- THE CELL 'sum', in the pinned program and in every row, IS THE sha256 OF THE DUMP (.gsa) THAT YtimpmgbahgganaaProg.lean LOADS. Nothing in Lean hashes anything: it is a label: what it is worth is what the hold of that sum in a sandbox is worth. -/
noncomputable def Try.pinned : Pinned := { name := "ytimpmgbahgganaa", sum := "d4609d1669bf4799a47c008e33b0fb42d812c4e9734154582b0f93cf64c086a3", checked := Try.checked }
namespace Rows
def none {H : Type} : Left H := { results := [], args := [] }

/-- 'halyardlaw08.GcPlays': WHATEVER THE INPUT: true; the input reads as it did. -/
def gcPlaysSpec : ChangeSpec := { name := "gcPlays", fn := fun _ => fun
  | [d1, d2, d3] => { results := [.lit (.bool true)], args := [d1, d2, d3] }
  | _ => none }
def gcPlaysRow : OpenClaim := { program := "ytimpmgbahgganaa", sum := "d4609d1669bf4799a47c008e33b0fb42d812c4e9734154582b0f93cf64c086a3", func := "halyard/halyardlaw08.GcPlays", spec := "gcPlays", unfollowed := true, recurses := true, apart := false }
def GcPlaysSaid : Prop := gcPlaysRow.holds Try.pinned (OpenSpec.ofChange gcPlaysSpec)

/-- ITS FALSE NEIGHBOUR: 'it returns false'. Refute it at one input. -/
def gcPlaysWrong : ChangeSpec := { name := "gcPlays", fn := fun _ => fun
  | [d1, d2, d3] => { results := [.lit (.bool false)], args := [d1, d2, d3] }
  | _ => none }
def GcPlaysWrongFalsely : Prop := gcPlaysRow.holds Try.pinned (OpenSpec.ofChange gcPlaysWrong)

/-- 'halyardlaw08.GcKeeps': WHATEVER THE INPUT: true; the input reads as it did. -/
def gcKeepsSpec : ChangeSpec := { name := "gcKeeps", fn := fun _ => fun
  | [d1, d2] => { results := [.lit (.bool true)], args := [d1, d2] }
  | _ => none }
def gcKeepsRow : OpenClaim := { program := "ytimpmgbahgganaa", sum := "d4609d1669bf4799a47c008e33b0fb42d812c4e9734154582b0f93cf64c086a3", func := "halyard/halyardlaw08.GcKeeps", spec := "gcKeeps", unfollowed := true, recurses := true, apart := false }
def GcKeepsSaid : Prop := gcKeepsRow.holds Try.pinned (OpenSpec.ofChange gcKeepsSpec)

/-- ITS FALSE NEIGHBOUR: 'it returns false'. Refute it at one input. -/
def gcKeepsWrong : ChangeSpec := { name := "gcKeeps", fn := fun _ => fun
  | [d1, d2] => { results := [.lit (.bool false)], args := [d1, d2] }
  | _ => none }
def GcKeepsWrongFalsely : Prop := gcKeepsRow.holds Try.pinned (OpenSpec.ofChange gcKeepsWrong)

/-- 'halyardlaw08.GcNumbers': WHATEVER THE INPUT: true; the input reads as it did. -/
def gcNumbersSpec : ChangeSpec := { name := "gcNumbers", fn := fun _ => fun
  | [d1, d2] => { results := [.lit (.bool true)], args := [d1, d2] }
  | _ => none }
def gcNumbersRow : OpenClaim := { program := "ytimpmgbahgganaa", sum := "d4609d1669bf4799a47c008e33b0fb42d812c4e9734154582b0f93cf64c086a3", func := "halyard/halyardlaw08.GcNumbers", spec := "gcNumbers", unfollowed := true, recurses := true, apart := false }
def GcNumbersSaid : Prop := gcNumbersRow.holds Try.pinned (OpenSpec.ofChange gcNumbersSpec)

/-- ITS FALSE NEIGHBOUR: 'it returns false'. Refute it at one input. -/
def gcNumbersWrong : ChangeSpec := { name := "gcNumbers", fn := fun _ => fun
  | [d1, d2] => { results := [.lit (.bool false)], args := [d1, d2] }
  | _ => none }
def GcNumbersWrongFalsely : Prop := gcNumbersRow.holds Try.pinned (OpenSpec.ofChange gcNumbersWrong)

/-- 'halyardlaw08.GcNil': WHATEVER THE INPUT: true; the input reads as it did. -/
def gcNilSpec : ChangeSpec := { name := "gcNil", fn := fun _ => fun
  | [d1, d2, d3] => { results := [.lit (.bool true)], args := [d1, d2, d3] }
  | _ => none }
def gcNilRow : OpenClaim := { program := "ytimpmgbahgganaa", sum := "d4609d1669bf4799a47c008e33b0fb42d812c4e9734154582b0f93cf64c086a3", func := "halyard/halyardlaw08.GcNil", spec := "gcNil", unfollowed := true, recurses := true, apart := false }
def GcNilSaid : Prop := gcNilRow.holds Try.pinned (OpenSpec.ofChange gcNilSpec)

/-- ITS FALSE NEIGHBOUR: 'it returns false'. Refute it at one input. -/
def gcNilWrong : ChangeSpec := { name := "gcNil", fn := fun _ => fun
  | [d1, d2, d3] => { results := [.lit (.bool false)], args := [d1, d2, d3] }
  | _ => none }
def GcNilWrongFalsely : Prop := gcNilRow.holds Try.pinned (OpenSpec.ofChange gcNilWrong)

/- THE SECOND FORM. 'bulk': how many values and letters a reading holds, each counted each time it is reached (what is shared counts as often as it is met; a slice's spare places count too). A statement '..UptoSaid' is the law's where the arguments, and the package variables that the reading takes, are together of bulk at most 1048576: NARROWER than '..Said'. Prove '..Said' where nothing that the law and all that it calls make is longer than what came in: it says more and counts as full. Else prove '..UptoSaid'. A law counts once. -/
mutual
def uptoBulk {H : Type} : DataW H → Nat
  | .lit (.string bytes) => bytes.length + 1
  | .lit _ => 1
  | .nil => 1
  | .ptr d => uptoBulk d + 1
  | .slice elems spare => uptoBulkAll elems + uptoBulkAll spare + 1
  | .agg parts => uptoBulkAll parts + 1
  | .iface _ d => uptoBulk d + 1
  | .map entries => uptoBulkEntries entries + 1
  | .held _ => 1
def uptoBulkAll {H : Type} : List (DataW H) → Nat
  | [] => 0
  | d :: r => uptoBulk d + uptoBulkAll r
def uptoBulkEntries {H : Type} : List (Lit × DataW H) → Nat
  | [] => 0
  | x :: r => uptoBulkEntry x + uptoBulkEntries r
def uptoBulkEntry {H : Type} : Lit × DataW H → Nat
  | (.string bytes, d) => bytes.length + uptoBulk d + 1
  | (_, d) => uptoBulk d + 1
 end
def uptoSmall : (H : Type) → List (DataW H) → Bool := fun _ ds => decide (uptoBulkAll ds ≤ 1048576)
def OpenSpec.upto (s : _root_.Go.ChangeSpec) : _root_.Go.OpenSpec := { _root_.Go.OpenSpec.ofChange s with cond := some uptoSmall }

/-- 'halyardlaw08.GcPlays', WHERE WHAT IT READS IS OF BULK AT MOST 1048576: true; the input reads as it did. -/
def gcPlaysUptoRow : OpenClaim := { program := "ytimpmgbahgganaa", sum := "d4609d1669bf4799a47c008e33b0fb42d812c4e9734154582b0f93cf64c086a3", func := "halyard/halyardlaw08.GcPlays", spec := "gcPlays", unfollowed := true, recurses := true, apart := false, narrowed := true }
def GcPlaysUptoSaid : Prop := gcPlaysUptoRow.holds Try.pinned (OpenSpec.upto gcPlaysSpec)

/-- 'halyardlaw08.GcKeeps', WHERE WHAT IT READS IS OF BULK AT MOST 1048576: true; the input reads as it did. -/
def gcKeepsUptoRow : OpenClaim := { program := "ytimpmgbahgganaa", sum := "d4609d1669bf4799a47c008e33b0fb42d812c4e9734154582b0f93cf64c086a3", func := "halyard/halyardlaw08.GcKeeps", spec := "gcKeeps", unfollowed := true, recurses := true, apart := false, narrowed := true }
def GcKeepsUptoSaid : Prop := gcKeepsUptoRow.holds Try.pinned (OpenSpec.upto gcKeepsSpec)

/-- 'halyardlaw08.GcNumbers', WHERE WHAT IT READS IS OF BULK AT MOST 1048576: true; the input reads as it did. -/
def gcNumbersUptoRow : OpenClaim := { program := "ytimpmgbahgganaa", sum := "d4609d1669bf4799a47c008e33b0fb42d812c4e9734154582b0f93cf64c086a3", func := "halyard/halyardlaw08.GcNumbers", spec := "gcNumbers", unfollowed := true, recurses := true, apart := false, narrowed := true }
def GcNumbersUptoSaid : Prop := gcNumbersUptoRow.holds Try.pinned (OpenSpec.upto gcNumbersSpec)

/-- 'halyardlaw08.GcNil', WHERE WHAT IT READS IS OF BULK AT MOST 1048576: true; the input reads as it did. -/
def gcNilUptoRow : OpenClaim := { program := "ytimpmgbahgganaa", sum := "d4609d1669bf4799a47c008e33b0fb42d812c4e9734154582b0f93cf64c086a3", func := "halyard/halyardlaw08.GcNil", spec := "gcNil", unfollowed := true, recurses := true, apart := false, narrowed := true }
def GcNilUptoSaid : Prop := gcNilUptoRow.holds Try.pinned (OpenSpec.upto gcNilSpec)

end Rows
end Go.Proofs.Ytimpmgbahgganaa
