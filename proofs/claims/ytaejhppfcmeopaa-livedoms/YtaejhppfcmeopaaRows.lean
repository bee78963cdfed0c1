/-
  No cell of these rows narrows 'for every input' (looked for: loops, veiled, ifaces, maps, wideKeys, modest, calm, conditions, laid).
  DERIVED. THE GIVEN ROWS OF THIS SEAT. 6 by the template 'for every input the law returns true; each argument reads behind the call as it read before'; 0 by the template 'total and deterministic' (their statements: YtaejhppfcmeopaaTotals.lean).
  GIVEN WITH THE SEED: the statements are not yours to turn. If you find one false, say at which input.
  Laid BY PROGRAM, IN A SANDBOX (cutbox-rows.mjs): the forced cells as the released guide's own fill.sh prints them over the translation dd9a204d1b19b2ef… (all of the seat's roots in one cut). By AI agents, Wed Nov 11 2026. No macro, syntax, notation, axiom, sorry.
-/
import Derived.Test.YtaejhppfcmeopaaChecked
import GoSem.Claim
import GoSem.ClaimJoined
import GoSem.ClaimMapViews
import Derived.JoinedTies
import Derived.KernelRfl
namespace Go.Proofs.Ytaejhppfcmeopaa
/- THE CELL 'sum', in the pinned program and in every row, IS THE sha256 OF THE DUMP (.gsa) THAT YtaejhppfcmeopaaProg.lean LOADS. Nothing in Lean hashes anything: it is a label: what it is worth is what the hold of that sum in a sandbox is worth. -/
noncomputable def Try.pinned : Pinned := { name := "ytaejhppfcmeopaa", sum := "dd9a204d1b19b2eff26e599b255f4d06f71fe5ab4a519a83259f8f32e6684469", checked := Try.checked }
namespace Rows
def none {H : Type} : Left H := { results := [], args := [] }

/-- 'halyardlaw17.LiveSolves': WHATEVER THE INPUT: true; the input reads as it did. -/
def liveSolvesSpec : ChangeSpec := { name := "liveSolves", fn := fun _ => fun
  | [d1, d2] => { results := [.lit (.bool true)], args := [d1, d2] }
  | _ => none }
def liveSolvesRow : OpenClaim := { program := "ytaejhppfcmeopaa", sum := "dd9a204d1b19b2eff26e599b255f4d06f71fe5ab4a519a83259f8f32e6684469", func := "halyard/halyardlaw17.LiveSolves", spec := "liveSolves", unfollowed := true, recurses := true, apart := false }
def LiveSolvesSaid : Prop := liveSolvesRow.holds Try.pinned (OpenSpec.ofChange liveSolvesSpec)

/-- ITS FALSE NEIGHBOUR: 'it returns false'. Refute it at one input. -/
def liveSolvesWrong : ChangeSpec := { name := "liveSolves", fn := fun _ => fun
  | [d1, d2] => { results := [.lit (.bool false)], args := [d1, d2] }
  | _ => none }
def LiveSolvesWrongFalsely : Prop := liveSolvesRow.holds Try.pinned (OpenSpec.ofChange liveSolvesWrong)

/-- 'halyardlaw17.LiveOrders': WHATEVER THE INPUT: true; the input reads as it did. -/
def liveOrdersSpec : ChangeSpec := { name := "liveOrders", fn := fun _ => fun
  | [d] => { results := [.lit (.bool true)], args := [d] }
  | _ => none }
def liveOrdersRow : OpenClaim := { program := "ytaejhppfcmeopaa", sum := "dd9a204d1b19b2eff26e599b255f4d06f71fe5ab4a519a83259f8f32e6684469", func := "halyard/halyardlaw17.LiveOrders", spec := "liveOrders", unfollowed := true, recurses := true, apart := false }
def LiveOrdersSaid : Prop := liveOrdersRow.holds Try.pinned (OpenSpec.ofChange liveOrdersSpec)

/-- ITS FALSE NEIGHBOUR: 'it returns false'. Refute it at one input. -/
def liveOrdersWrong : ChangeSpec := { name := "liveOrders", fn := fun _ => fun
  | [d] => { results := [.lit (.bool false)], args := [d] }
  | _ => none }
def LiveOrdersWrongFalsely : Prop := liveOrdersRow.holds Try.pinned (OpenSpec.ofChange liveOrdersWrong)

/-- 'halyardlaw17.LiveWays': WHATEVER THE INPUT: true; the input reads as it did. -/
def liveWaysSpec : ChangeSpec := { name := "liveWays", fn := fun _ => fun
  | [d1, d2, d3] => { results := [.lit (.bool true)], args := [d1, d2, d3] }
  | _ => none }
def liveWaysRow : OpenClaim := { program := "ytaejhppfcmeopaa", sum := "dd9a204d1b19b2eff26e599b255f4d06f71fe5ab4a519a83259f8f32e6684469", func := "halyard/halyardlaw17.LiveWays", spec := "liveWays", unfollowed := true, recurses := true, apart := false }
def LiveWaysSaid : Prop := liveWaysRow.holds Try.pinned (OpenSpec.ofChange liveWaysSpec)

/-- ITS FALSE NEIGHBOUR: 'it returns false'. Refute it at one input. -/
def liveWaysWrong : ChangeSpec := { name := "liveWays", fn := fun _ => fun
  | [d1, d2, d3] => { results := [.lit (.bool false)], args := [d1, d2, d3] }
  | _ => none }
def LiveWaysWrongFalsely : Prop := liveWaysRow.holds Try.pinned (OpenSpec.ofChange liveWaysWrong)

/-- 'halyardlaw17.LiveLeast': WHATEVER THE INPUT: true; the input reads as it did. -/
def liveLeastSpec : ChangeSpec := { name := "liveLeast", fn := fun _ => fun
  | [d1, d2] => { results := [.lit (.bool true)], args := [d1, d2] }
  | _ => none }
def liveLeastRow : OpenClaim := { program := "ytaejhppfcmeopaa", sum := "dd9a204d1b19b2eff26e599b255f4d06f71fe5ab4a519a83259f8f32e6684469", func := "halyard/halyardlaw17.LiveLeast", spec := "liveLeast", unfollowed := true, recurses := true, apart := false }
def LiveLeastSaid : Prop := liveLeastRow.holds Try.pinned (OpenSpec.ofChange liveLeastSpec)

/-- ITS FALSE NEIGHBOUR: 'it returns false'. Refute it at one input. -/
def liveLeastWrong : ChangeSpec := { name := "liveLeast", fn := fun _ => fun
  | [d1, d2] => { results := [.lit (.bool false)], args := [d1, d2] }
  | _ => none }
def LiveLeastWrongFalsely : Prop := liveLeastRow.holds Try.pinned (OpenSpec.ofChange liveLeastWrong)

/-- 'halyardlaw17.LiveDoms': WHATEVER THE INPUT: true; the input reads as it did. -/
def liveDomsSpec : ChangeSpec := { name := "liveDoms", fn := fun _ => fun
  | [d1, d2] => { results := [.lit (.bool true)], args := [d1, d2] }
  | _ => none }
def liveDomsRow : OpenClaim := { program := "ytaejhppfcmeopaa", sum := "dd9a204d1b19b2eff26e599b255f4d06f71fe5ab4a519a83259f8f32e6684469", func := "halyard/halyardlaw17.LiveDoms", spec := "liveDoms", unfollowed := true, recurses := true, apart := false }
def LiveDomsSaid : Prop := liveDomsRow.holds Try.pinned (OpenSpec.ofChange liveDomsSpec)

/-- ITS FALSE NEIGHBOUR: 'it returns false'. Refute it at one input. -/
def liveDomsWrong : ChangeSpec := { name := "liveDoms", fn := fun _ => fun
  | [d1, d2] => { results := [.lit (.bool false)], args := [d1, d2] }
  | _ => none }
def LiveDomsWrongFalsely : Prop := liveDomsRow.holds Try.pinned (OpenSpec.ofChange liveDomsWrong)

/-- 'halyardlaw17.LiveMore': WHATEVER THE INPUT: true; the input reads as it did. -/
def liveMoreSpec : ChangeSpec := { name := "liveMore", fn := fun _ => fun
  | [d1, d2, d3, d4] => { results := [.lit (.bool true)], args := [d1, d2, d3, d4] }
  | _ => none }
def liveMoreRow : OpenClaim := { program := "ytaejhppfcmeopaa", sum := "dd9a204d1b19b2eff26e599b255f4d06f71fe5ab4a519a83259f8f32e6684469", func := "halyard/halyardlaw17.LiveMore", spec := "liveMore", unfollowed := true, recurses := true, apart := false }
def LiveMoreSaid : Prop := liveMoreRow.holds Try.pinned (OpenSpec.ofChange liveMoreSpec)

/-- ITS FALSE NEIGHBOUR: 'it returns false'. Refute it at one input. -/
def liveMoreWrong : ChangeSpec := { name := "liveMore", fn := fun _ => fun
  | [d1, d2, d3, d4] => { results := [.lit (.bool false)], args := [d1, d2, d3, d4] }
  | _ => none }
def LiveMoreWrongFalsely : Prop := liveMoreRow.holds Try.pinned (OpenSpec.ofChange liveMoreWrong)

/- THE SECOND FORM. 'bulk': how many values and letters a reading holds, each counted each time it is reached (what is shared counts as often as it is met; a slice's spare places count too). A statement '..UptoSaid' is the law's where the arguments, and the package variables that the reading takes, are together of bulk at most 1048576: NARROWER than '..Said'. Prove '..Said' where nothing that the law and all that it calls make is longer than what came in: it says more and counts as full. Else prove '..UptoSaid'. A law counts once. -/
mutual
def uptoBulk {H : Type} : DataW H → Nat
  | .lit (.string bytes) => bytes.length + 1
  | .lit _ => 1
  | .nil => 1
  | .ptr d => uptoBulk d + 1
  | .slice elems spare => uptoBulkAll elems + uptoBulkAll spare + 1
  | .agg parts => uptoBulkAll parts + 1
  | .iface _ d => uptoBulk d + 1
  | .map entries => uptoBulkEntries entries + 1
  | .held _ => 1
def uptoBulkAll {H : Type} : List (DataW H) → Nat
  | [] => 0
  | d :: r => uptoBulk d + uptoBulkAll r
def uptoBulkEntries {H : Type} : List (Lit × DataW H) → Nat
  | [] => 0
  | x :: r => uptoBulkEntry x + uptoBulkEntries r
def uptoBulkEntry {H : Type} : Lit × DataW H → Nat
  | (.string bytes, d) => bytes.length + uptoBulk d + 1
  | (_, d) => uptoBulk d + 1
 end
def uptoSmall : (H : Type) → List (DataW H) → Bool := fun _ ds => decide (uptoBulkAll ds ≤ 1048576)
def OpenSpec.upto (s : _root_.Go.ChangeSpec) : _root_.Go.OpenSpec := { _root_.Go.OpenSpec.ofChange s with cond := some uptoSmall }

/-- 'halyardlaw17.LiveSolves', WHERE WHAT IT READS IS OF BULK AT MOST 1048576: true; the input reads as it did. -/
def liveSolvesUptoRow : OpenClaim := { program := "ytaejhppfcmeopaa", sum := "dd9a204d1b19b2eff26e599b255f4d06f71fe5ab4a519a83259f8f32e6684469", func := "halyard/halyardlaw17.LiveSolves", spec := "liveSolves", unfollowed := true, recurses := true, apart := false, narrowed := true }
def LiveSolvesUptoSaid : Prop := liveSolvesUptoRow.holds Try.pinned (OpenSpec.upto liveSolvesSpec)

/-- 'halyardlaw17.LiveOrders', WHERE WHAT IT READS IS OF BULK AT MOST 1048576: true; the input reads as it did. -/
def liveOrdersUptoRow : OpenClaim := { program := "ytaejhppfcmeopaa", sum := "dd9a204d1b19b2eff26e599b255f4d06f71fe5ab4a519a83259f8f32e6684469", func := "halyard/halyardlaw17.LiveOrders", spec := "liveOrders", unfollowed := true, recurses := true, apart := false, narrowed := true }
def LiveOrdersUptoSaid : Prop := liveOrdersUptoRow.holds Try.pinned (OpenSpec.upto liveOrdersSpec)

/-- 'halyardlaw17.LiveWays', WHERE WHAT IT READS IS OF BULK AT MOST 1048576: true; the input reads as it did. -/
def liveWaysUptoRow : OpenClaim := { program := "ytaejhppfcmeopaa", sum := "dd9a204d1b19b2eff26e599b255f4d06f71fe5ab4a519a83259f8f32e6684469", func := "halyard/halyardlaw17.LiveWays", spec := "liveWays", unfollowed := true, recurses := true, apart := false, narrowed := true }
def LiveWaysUptoSaid : Prop := liveWaysUptoRow.holds Try.pinned (OpenSpec.upto liveWaysSpec)

/-- 'halyardlaw17.LiveLeast', WHERE WHAT IT READS IS OF BULK AT MOST 1048576: true; the input reads as it did. -/
def liveLeastUptoRow : OpenClaim := { program := "ytaejhppfcmeopaa", sum := "dd9a204d1b19b2eff26e599b255f4d06f71fe5ab4a519a83259f8f32e6684469", func := "halyard/halyardlaw17.LiveLeast", spec := "liveLeast", unfollowed := true, recurses := true, apart := false, narrowed := true }
def LiveLeastUptoSaid : Prop := liveLeastUptoRow.holds Try.pinned (OpenSpec.upto liveLeastSpec)

/-- 'halyardlaw17.LiveDoms', WHERE WHAT IT READS IS OF BULK AT MOST 1048576: true; the input reads as it did. -/
def liveDomsUptoRow : OpenClaim := { program := "ytaejhppfcmeopaa", sum := "dd9a204d1b19b2eff26e599b255f4d06f71fe5ab4a519a83259f8f32e6684469", func := "halyard/halyardlaw17.LiveDoms", spec := "liveDoms", unfollowed := true, recurses := true, apart := false, narrowed := true }
def LiveDomsUptoSaid : Prop := liveDomsUptoRow.holds Try.pinned (OpenSpec.upto liveDomsSpec)

/-- 'halyardlaw17.LiveMore', WHERE WHAT IT READS IS OF BULK AT MOST 1048576: true; the input reads as it did. -/
def liveMoreUptoRow : OpenClaim := { program := "ytaejhppfcmeopaa", sum := "dd9a204d1b19b2eff26e599b255f4d06f71fe5ab4a519a83259f8f32e6684469", func := "halyard/halyardlaw17.LiveMore", spec := "liveMore", unfollowed := true, recurses := true, apart := false, narrowed := true }
def LiveMoreUptoSaid : Prop := liveMoreUptoRow.holds Try.pinned (OpenSpec.upto liveMoreSpec)

end Rows
end Go.Proofs.Ytaejhppfcmeopaa
