/-
  No cell of these rows narrows 'for every input' (looked for: loops, veiled, ifaces, maps, wideKeys, modest, calm, conditions, laid).
  DERIVED. THE GIVEN ROWS OF THIS SEAT. 5 by the template 'for every input the law returns true; each argument reads behind the call as it read before'; 0 by the template 'total and deterministic' (their statements: YtlbildodjnjniaaTotals.lean).
  GIVEN WITH THE SEED: the statements are not yours to turn. If you find one false, say at which input.
  Laid BY PROGRAM, IN A SANDBOX (cutbox-rows.mjs): the forced cells as the released guide's own fill.sh prints them over the translation 4a89b1489e706f36… (all of the seat's roots in one cut). By AI agents, Wed Nov 11 2026. No macro, syntax, notation, axiom, sorry.
-/
import Derived.Test.YtlbildodjnjniaaChecked
import GoSem.Claim
import GoSem.ClaimJoined
import GoSem.ClaimMapViews
import Derived.JoinedTies
import Derived.KernelRfl
namespace Go.Proofs.Ytlbildodjnjniaa
/- THE CELL 'sum', in the pinned program and in every row, IS THE sha256 OF THE DUMP (.gsa) THAT YtlbildodjnjniaaProg.lean LOADS. Nothing in Lean hashes anything: it is a label: what it is worth is what the hold of that sum in a sandbox is worth. -/
noncomputable def Try.pinned : Pinned := { name := "ytlbildodjnjniaa", sum := "4a89b1489e706f36dd542f73d8c5e9bfc58b534f8b10dcb9ac76ae0050a49f3a", checked := Try.checked }
namespace Rows
def none {H : Type} : Left H := { results := [], args := [] }

/-- 'halyardlaw16.EscapeComes': WHATEVER THE INPUT: true; the input reads as it did. -/
def escapeComesSpec : ChangeSpec := { name := "escapeComes", fn := fun _ => fun
  | [d1, d2, d3] => { results := [.lit (.bool true)], args := [d1, d2, d3] }
  | _ => none }
def escapeComesRow : OpenClaim := { program := "ytlbildodjnjniaa", sum := "4a89b1489e706f36dd542f73d8c5e9bfc58b534f8b10dcb9ac76ae0050a49f3a", func := "halyard/halyardlaw16.EscapeComes", spec := "escapeComes", unfollowed := true, recurses := true, apart := false }
def EscapeComesSaid : Prop := escapeComesRow.holds Try.pinned (OpenSpec.ofChange escapeComesSpec)

/-- ITS FALSE NEIGHBOUR: 'it returns false'. Refute it at one input. -/
def escapeComesWrong : ChangeSpec := { name := "escapeComes", fn := fun _ => fun
  | [d1, d2, d3] => { results := [.lit (.bool false)], args := [d1, d2, d3] }
  | _ => none }
def EscapeComesWrongFalsely : Prop := escapeComesRow.holds Try.pinned (OpenSpec.ofChange escapeComesWrong)

/-- 'halyardlaw16.EscapeSolves': WHATEVER THE INPUT: true; the input reads as it did. -/
def escapeSolvesSpec : ChangeSpec := { name := "escapeSolves", fn := fun _ => fun
  | [d1, d2] => { results := [.lit (.bool true)], args := [d1, d2] }
  | _ => none }
def escapeSolvesRow : OpenClaim := { program := "ytlbildodjnjniaa", sum := "4a89b1489e706f36dd542f73d8c5e9bfc58b534f8b10dcb9ac76ae0050a49f3a", func := "halyard/halyardlaw16.EscapeSolves", spec := "escapeSolves", unfollowed := true, recurses := true, apart := false }
def EscapeSolvesSaid : Prop := escapeSolvesRow.holds Try.pinned (OpenSpec.ofChange escapeSolvesSpec)

/-- ITS FALSE NEIGHBOUR: 'it returns false'. Refute it at one input. -/
def escapeSolvesWrong : ChangeSpec := { name := "escapeSolves", fn := fun _ => fun
  | [d1, d2] => { results := [.lit (.bool false)], args := [d1, d2] }
  | _ => none }
def EscapeSolvesWrongFalsely : Prop := escapeSolvesRow.holds Try.pinned (OpenSpec.ofChange escapeSolvesWrong)

/-- 'halyardlaw16.EscapeMore': WHATEVER THE INPUT: true; the input reads as it did. -/
def escapeMoreSpec : ChangeSpec := { name := "escapeMore", fn := fun _ => fun
  | [d1, d2, d3] => { results := [.lit (.bool true)], args := [d1, d2, d3] }
  | _ => none }
def escapeMoreRow : OpenClaim := { program := "ytlbildodjnjniaa", sum := "4a89b1489e706f36dd542f73d8c5e9bfc58b534f8b10dcb9ac76ae0050a49f3a", func := "halyard/halyardlaw16.EscapeMore", spec := "escapeMore", unfollowed := true, recurses := true, apart := false }
def EscapeMoreSaid : Prop := escapeMoreRow.holds Try.pinned (OpenSpec.ofChange escapeMoreSpec)

/-- ITS FALSE NEIGHBOUR: 'it returns false'. Refute it at one input. -/
def escapeMoreWrong : ChangeSpec := { name := "escapeMore", fn := fun _ => fun
  | [d1, d2, d3] => { results := [.lit (.bool false)], args := [d1, d2, d3] }
  | _ => none }
def EscapeMoreWrongFalsely : Prop := escapeMoreRow.holds Try.pinned (OpenSpec.ofChange escapeMoreWrong)

/-- 'halyardlaw16.EscapeClosed': WHATEVER THE INPUT: true; the input reads as it did. -/
def escapeClosedSpec : ChangeSpec := { name := "escapeClosed", fn := fun _ => fun
  | [d1, d2] => { results := [.lit (.bool true)], args := [d1, d2] }
  | _ => none }
def escapeClosedRow : OpenClaim := { program := "ytlbildodjnjniaa", sum := "4a89b1489e706f36dd542f73d8c5e9bfc58b534f8b10dcb9ac76ae0050a49f3a", func := "halyard/halyardlaw16.EscapeClosed", spec := "escapeClosed", unfollowed := true, recurses := true, apart := false }
def EscapeClosedSaid : Prop := escapeClosedRow.holds Try.pinned (OpenSpec.ofChange escapeClosedSpec)

/-- ITS FALSE NEIGHBOUR: 'it returns false'. Refute it at one input. -/
def escapeClosedWrong : ChangeSpec := { name := "escapeClosed", fn := fun _ => fun
  | [d1, d2] => { results := [.lit (.bool false)], args := [d1, d2] }
  | _ => none }
def EscapeClosedWrongFalsely : Prop := escapeClosedRow.holds Try.pinned (OpenSpec.ofChange escapeClosedWrong)

/-- 'halyardlaw16.EscapeHeap': WHATEVER THE INPUT: true; the input reads as it did. -/
def escapeHeapSpec : ChangeSpec := { name := "escapeHeap", fn := fun _ => fun
  | [d1, d2, d3] => { results := [.lit (.bool true)], args := [d1, d2, d3] }
  | _ => none }
def escapeHeapRow : OpenClaim := { program := "ytlbildodjnjniaa", sum := "4a89b1489e706f36dd542f73d8c5e9bfc58b534f8b10dcb9ac76ae0050a49f3a", func := "halyard/halyardlaw16.EscapeHeap", spec := "escapeHeap", unfollowed := true, recurses := true, apart := false }
def EscapeHeapSaid : Prop := escapeHeapRow.holds Try.pinned (OpenSpec.ofChange escapeHeapSpec)

/-- ITS FALSE NEIGHBOUR: 'it returns false'. Refute it at one input. -/
def escapeHeapWrong : ChangeSpec := { name := "escapeHeap", fn := fun _ => fun
  | [d1, d2, d3] => { results := [.lit (.bool false)], args := [d1, d2, d3] }
  | _ => none }
def EscapeHeapWrongFalsely : Prop := escapeHeapRow.holds Try.pinned (OpenSpec.ofChange escapeHeapWrong)

/- THE SECOND FORM. 'bulk': how many values and letters a reading holds, each counted each time it is reached (what is shared counts as often as it is met; a slice's spare places count too). A statement '..UptoSaid' is the law's where the arguments, and the package variables that the reading takes, are together of bulk at most 1048576: NARROWER than '..Said'. Prove '..Said' where nothing that the law and all that it calls make is longer than what came in: it says more and counts as full. Else prove '..UptoSaid'. A law counts once. -/
mutual
def uptoBulk {H : Type} : DataW H → Nat
  | .lit (.string bytes) => bytes.length + 1
  | .lit _ => 1
  | .nil => 1
  | .ptr d => uptoBulk d + 1
  | .slice elems spare => uptoBulkAll elems + uptoBulkAll spare + 1
  | .agg parts => uptoBulkAll parts + 1
  | .iface _ d => uptoBulk d + 1
  | .map entries => uptoBulkEntries entries + 1
  | .held _ => 1
def uptoBulkAll {H : Type} : List (DataW H) → Nat
  | [] => 0
  | d :: r => uptoBulk d + uptoBulkAll r
def uptoBulkEntries {H : Type} : List (Lit × DataW H) → Nat
  | [] => 0
  | x :: r => uptoBulkEntry x + uptoBulkEntries r
def uptoBulkEntry {H : Type} : Lit × DataW H → Nat
  | (.string bytes, d) => bytes.length + uptoBulk d + 1
  | (_, d) => uptoBulk d + 1
 end
def uptoSmall : (H : Type) → List (DataW H) → Bool := fun _ ds => decide (uptoBulkAll ds ≤ 1048576)
def OpenSpec.upto (s : _root_.Go.ChangeSpec) : _root_.Go.OpenSpec := { _root_.Go.OpenSpec.ofChange s with cond := some uptoSmall }

/-- 'halyardlaw16.EscapeComes', WHERE WHAT IT READS IS OF BULK AT MOST 1048576: true; the input reads as it did. -/
def escapeComesUptoRow : OpenClaim := { program := "ytlbildodjnjniaa", sum := "4a89b1489e706f36dd542f73d8c5e9bfc58b534f8b10dcb9ac76ae0050a49f3a", func := "halyard/halyardlaw16.EscapeComes", spec := "escapeComes", unfollowed := true, recurses := true, apart := false, narrowed := true }
def EscapeComesUptoSaid : Prop := escapeComesUptoRow.holds Try.pinned (OpenSpec.upto escapeComesSpec)

/-- 'halyardlaw16.EscapeSolves', WHERE WHAT IT READS IS OF BULK AT MOST 1048576: true; the input reads as it did. -/
def escapeSolvesUptoRow : OpenClaim := { program := "ytlbildodjnjniaa", sum := "4a89b1489e706f36dd542f73d8c5e9bfc58b534f8b10dcb9ac76ae0050a49f3a", func := "halyard/halyardlaw16.EscapeSolves", spec := "escapeSolves", unfollowed := true, recurses := true, apart := false, narrowed := true }
def EscapeSolvesUptoSaid : Prop := escapeSolvesUptoRow.holds Try.pinned (OpenSpec.upto escapeSolvesSpec)

/-- 'halyardlaw16.EscapeMore', WHERE WHAT IT READS IS OF BULK AT MOST 1048576: true; the input reads as it did. -/
def escapeMoreUptoRow : OpenClaim := { program := "ytlbildodjnjniaa", sum := "4a89b1489e706f36dd542f73d8c5e9bfc58b534f8b10dcb9ac76ae0050a49f3a", func := "halyard/halyardlaw16.EscapeMore", spec := "escapeMore", unfollowed := true, recurses := true, apart := false, narrowed := true }
def EscapeMoreUptoSaid : Prop := escapeMoreUptoRow.holds Try.pinned (OpenSpec.upto escapeMoreSpec)

/-- 'halyardlaw16.EscapeClosed', WHERE WHAT IT READS IS OF BULK AT MOST 1048576: true; the input reads as it did. -/
def escapeClosedUptoRow : OpenClaim := { program := "ytlbildodjnjniaa", sum := "4a89b1489e706f36dd542f73d8c5e9bfc58b534f8b10dcb9ac76ae0050a49f3a", func := "halyard/halyardlaw16.EscapeClosed", spec := "escapeClosed", unfollowed := true, recurses := true, apart := false, narrowed := true }
def EscapeClosedUptoSaid : Prop := escapeClosedUptoRow.holds Try.pinned (OpenSpec.upto escapeClosedSpec)

/-- 'halyardlaw16.EscapeHeap', WHERE WHAT IT READS IS OF BULK AT MOST 1048576: true; the input reads as it did. -/
def escapeHeapUptoRow : OpenClaim := { program := "ytlbildodjnjniaa", sum := "4a89b1489e706f36dd542f73d8c5e9bfc58b534f8b10dcb9ac76ae0050a49f3a", func := "halyard/halyardlaw16.EscapeHeap", spec := "escapeHeap", unfollowed := true, recurses := true, apart := false, narrowed := true }
def EscapeHeapUptoSaid : Prop := escapeHeapUptoRow.holds Try.pinned (OpenSpec.upto escapeHeapSpec)

end Rows
end Go.Proofs.Ytlbildodjnjniaa
