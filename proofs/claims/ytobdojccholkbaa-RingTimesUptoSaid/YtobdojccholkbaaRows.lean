/-
  No cell of these rows narrows 'for every input' (looked for: loops, veiled, ifaces, maps, wideKeys, modest, calm, conditions, laid).
  DERIVED. THE GIVEN ROWS OF THIS SEAT. 6 by the template 'for every input the law returns true; each argument reads behind the call as it read before'; 0 by the template 'total and deterministic' (their statements: YtobdojccholkbaaTotals.lean).
  GIVEN WITH THE SEED: the statements are not yours to turn. If you find one false, say at which input.
  Laid BY PROGRAM, IN A SANDBOX (cutbox-rows.mjs): the forced cells as the released guide's own fill.sh prints them over the translation b79a2a67577845b5… (all of the seat's roots in one cut). By AI agents, Wed Nov 11 2026. No macro, syntax, notation, axiom, sorry.
-/
import Derived.Test.YtobdojccholkbaaChecked
import GoSem.Claim
import GoSem.ClaimJoined
import GoSem.ClaimMapViews
import Derived.JoinedTies
import Derived.KernelRfl
namespace Go.Proofs.Ytobdojccholkbaa
/- THE CELL 'sum', in the pinned program and in every row, IS THE sha256 OF THE DUMP (.gsa) THAT YtobdojccholkbaaProg.lean LOADS. Nothing in Lean hashes anything: it is a label: what it is worth is what the hold of that sum in a sandbox is worth. -/
noncomputable def Try.pinned : Pinned := { name := "ytobdojccholkbaa", sum := "b79a2a67577845b55e8e7c3abc1f89b997832ff4b4582943c6ab5f61b54e70b0", checked := Try.checked }
namespace Rows
def none {H : Type} : Left H := { results := [], args := [] }

/-- 'astrolabelaw13.RingKnown': WHATEVER THE INPUT: true; the input reads as it did. -/
def ringKnownSpec : ChangeSpec := { name := "ringKnown", fn := fun _ => fun
  | [] => { results := [.lit (.bool true)], args := [] }
  | _ => none }
def ringKnownRow : OpenClaim := { program := "ytobdojccholkbaa", sum := "b79a2a67577845b55e8e7c3abc1f89b997832ff4b4582943c6ab5f61b54e70b0", func := "astrolabe/astrolabelaw13.RingKnown", spec := "ringKnown", inPlace := ["slices.overlaps[astrolabe/api.Sample]"], unfollowed := true, recurses := true, apart := false }
def RingKnownSaid : Prop := ringKnownRow.holds Try.pinned (OpenSpec.ofChange ringKnownSpec)

/-- ITS FALSE NEIGHBOUR: 'it returns false'. Refute it at one input. -/
def ringKnownWrong : ChangeSpec := { name := "ringKnown", fn := fun _ => fun
  | [] => { results := [.lit (.bool false)], args := [] }
  | _ => none }
def RingKnownWrongFalsely : Prop := ringKnownRow.holds Try.pinned (OpenSpec.ofChange ringKnownWrong)

/-- 'astrolabelaw13.RingPlays': WHATEVER THE INPUT: true; the input reads as it did. -/
def ringPlaysSpec : ChangeSpec := { name := "ringPlays", fn := fun _ => fun
  | [d1, d2] => { results := [.lit (.bool true)], args := [d1, d2] }
  | _ => none }
def ringPlaysRow : OpenClaim := { program := "ytobdojccholkbaa", sum := "b79a2a67577845b55e8e7c3abc1f89b997832ff4b4582943c6ab5f61b54e70b0", func := "astrolabe/astrolabelaw13.RingPlays", spec := "ringPlays", inPlace := ["slices.overlaps[astrolabe/api.Sample]"], unfollowed := true, recurses := true, apart := false }
def RingPlaysSaid : Prop := ringPlaysRow.holds Try.pinned (OpenSpec.ofChange ringPlaysSpec)

/-- ITS FALSE NEIGHBOUR: 'it returns false'. Refute it at one input. -/
def ringPlaysWrong : ChangeSpec := { name := "ringPlays", fn := fun _ => fun
  | [d1, d2] => { results := [.lit (.bool false)], args := [d1, d2] }
  | _ => none }
def RingPlaysWrongFalsely : Prop := ringPlaysRow.holds Try.pinned (OpenSpec.ofChange ringPlaysWrong)

/-- 'astrolabelaw13.RingOrders': WHATEVER THE INPUT: true; the input reads as it did. -/
def ringOrdersSpec : ChangeSpec := { name := "ringOrders", fn := fun _ => fun
  | [d1, d2, d3] => { results := [.lit (.bool true)], args := [d1, d2, d3] }
  | _ => none }
def ringOrdersRow : OpenClaim := { program := "ytobdojccholkbaa", sum := "b79a2a67577845b55e8e7c3abc1f89b997832ff4b4582943c6ab5f61b54e70b0", func := "astrolabe/astrolabelaw13.RingOrders", spec := "ringOrders", inPlace := ["slices.overlaps[astrolabe/api.Sample]"], unfollowed := true, recurses := true, apart := false }
def RingOrdersSaid : Prop := ringOrdersRow.holds Try.pinned (OpenSpec.ofChange ringOrdersSpec)

/-- ITS FALSE NEIGHBOUR: 'it returns false'. Refute it at one input. -/
def ringOrdersWrong : ChangeSpec := { name := "ringOrders", fn := fun _ => fun
  | [d1, d2, d3] => { results := [.lit (.bool false)], args := [d1, d2, d3] }
  | _ => none }
def RingOrdersWrongFalsely : Prop := ringOrdersRow.holds Try.pinned (OpenSpec.ofChange ringOrdersWrong)

/-- 'astrolabelaw13.RingLatest': WHATEVER THE INPUT: true; the input reads as it did. -/
def ringLatestSpec : ChangeSpec := { name := "ringLatest", fn := fun _ => fun
  | [d1, d2] => { results := [.lit (.bool true)], args := [d1, d2] }
  | _ => none }
def ringLatestRow : OpenClaim := { program := "ytobdojccholkbaa", sum := "b79a2a67577845b55e8e7c3abc1f89b997832ff4b4582943c6ab5f61b54e70b0", func := "astrolabe/astrolabelaw13.RingLatest", spec := "ringLatest", inPlace := ["slices.overlaps[astrolabe/api.Sample]"], unfollowed := true, recurses := true, apart := false }
def RingLatestSaid : Prop := ringLatestRow.holds Try.pinned (OpenSpec.ofChange ringLatestSpec)

/-- ITS FALSE NEIGHBOUR: 'it returns false'. Refute it at one input. -/
def ringLatestWrong : ChangeSpec := { name := "ringLatest", fn := fun _ => fun
  | [d1, d2] => { results := [.lit (.bool false)], args := [d1, d2] }
  | _ => none }
def RingLatestWrongFalsely : Prop := ringLatestRow.holds Try.pinned (OpenSpec.ofChange ringLatestWrong)

/-- 'astrolabelaw13.RingTimes': WHATEVER THE INPUT: true; the input reads as it did. -/
def ringTimesSpec : ChangeSpec := { name := "ringTimes", fn := fun _ => fun
  | [d1, d2] => { results := [.lit (.bool true)], args := [d1, d2] }
  | _ => none }
def ringTimesRow : OpenClaim := { program := "ytobdojccholkbaa", sum := "b79a2a67577845b55e8e7c3abc1f89b997832ff4b4582943c6ab5f61b54e70b0", func := "astrolabe/astrolabelaw13.RingTimes", spec := "ringTimes", inPlace := ["slices.overlaps[astrolabe/api.Sample]"], unfollowed := true, recurses := true, apart := false }
def RingTimesSaid : Prop := ringTimesRow.holds Try.pinned (OpenSpec.ofChange ringTimesSpec)

/-- ITS FALSE NEIGHBOUR: 'it returns false'. Refute it at one input. -/
def ringTimesWrong : ChangeSpec := { name := "ringTimes", fn := fun _ => fun
  | [d1, d2] => { results := [.lit (.bool false)], args := [d1, d2] }
  | _ => none }
def RingTimesWrongFalsely : Prop := ringTimesRow.holds Try.pinned (OpenSpec.ofChange ringTimesWrong)

/-- 'astrolabelaw13.RingParts': WHATEVER THE INPUT: true; the input reads as it did. -/
def ringPartsSpec : ChangeSpec := { name := "ringParts", fn := fun _ => fun
  | [d1, d2, d3] => { results := [.lit (.bool true)], args := [d1, d2, d3] }
  | _ => none }
def ringPartsRow : OpenClaim := { program := "ytobdojccholkbaa", sum := "b79a2a67577845b55e8e7c3abc1f89b997832ff4b4582943c6ab5f61b54e70b0", func := "astrolabe/astrolabelaw13.RingParts", spec := "ringParts", inPlace := ["slices.overlaps[astrolabe/api.Sample]"], unfollowed := true, recurses := true, apart := false }
def RingPartsSaid : Prop := ringPartsRow.holds Try.pinned (OpenSpec.ofChange ringPartsSpec)

/-- ITS FALSE NEIGHBOUR: 'it returns false'. Refute it at one input. -/
def ringPartsWrong : ChangeSpec := { name := "ringParts", fn := fun _ => fun
  | [d1, d2, d3] => { results := [.lit (.bool false)], args := [d1, d2, d3] }
  | _ => none }
def RingPartsWrongFalsely : Prop := ringPartsRow.holds Try.pinned (OpenSpec.ofChange ringPartsWrong)

/- THE SECOND FORM. 'bulk': how many values and letters a reading holds, each counted each time it is reached (what is shared counts as often as it is met; a slice's spare places count too). A statement '..UptoSaid' is the law's where the arguments, and the package variables that the reading takes, are together of bulk at most 1048576: NARROWER than '..Said'. Prove '..Said' where nothing that the law and all that it calls make is longer than what came in: it says more and counts as full. Else prove '..UptoSaid'. A law counts once. -/
mutual
def uptoBulk {H : Type} : DataW H → Nat
  | .lit (.string bytes) => bytes.length + 1
  | .lit _ => 1
  | .nil => 1
  | .ptr d => uptoBulk d + 1
  | .slice elems spare => uptoBulkAll elems + uptoBulkAll spare + 1
  | .agg parts => uptoBulkAll parts + 1
  | .iface _ d => uptoBulk d + 1
  | .map entries => uptoBulkEntries entries + 1
  | .held _ => 1
def uptoBulkAll {H : Type} : List (DataW H) → Nat
  | [] => 0
  | d :: r => uptoBulk d + uptoBulkAll r
def uptoBulkEntries {H : Type} : List (Lit × DataW H) → Nat
  | [] => 0
  | x :: r => uptoBulkEntry x + uptoBulkEntries r
def uptoBulkEntry {H : Type} : Lit × DataW H → Nat
  | (.string bytes, d) => bytes.length + uptoBulk d + 1
  | (_, d) => uptoBulk d + 1
 end
def uptoSmall : (H : Type) → List (DataW H) → Bool := fun _ ds => decide (uptoBulkAll ds ≤ 1048576)
def OpenSpec.upto (s : _root_.Go.ChangeSpec) : _root_.Go.OpenSpec := { _root_.Go.OpenSpec.ofChange s with cond := some uptoSmall }

/-- 'astrolabelaw13.RingKnown', WHERE WHAT IT READS IS OF BULK AT MOST 1048576: true; the input reads as it did. -/
def ringKnownUptoRow : OpenClaim := { program := "ytobdojccholkbaa", sum := "b79a2a67577845b55e8e7c3abc1f89b997832ff4b4582943c6ab5f61b54e70b0", func := "astrolabe/astrolabelaw13.RingKnown", spec := "ringKnown", inPlace := ["slices.overlaps[astrolabe/api.Sample]"], unfollowed := true, recurses := true, apart := false, narrowed := true }
def RingKnownUptoSaid : Prop := ringKnownUptoRow.holds Try.pinned (OpenSpec.upto ringKnownSpec)

/-- 'astrolabelaw13.RingPlays', WHERE WHAT IT READS IS OF BULK AT MOST 1048576: true; the input reads as it did. -/
def ringPlaysUptoRow : OpenClaim := { program := "ytobdojccholkbaa", sum := "b79a2a67577845b55e8e7c3abc1f89b997832ff4b4582943c6ab5f61b54e70b0", func := "astrolabe/astrolabelaw13.RingPlays", spec := "ringPlays", inPlace := ["slices.overlaps[astrolabe/api.Sample]"], unfollowed := true, recurses := true, apart := false, narrowed := true }
def RingPlaysUptoSaid : Prop := ringPlaysUptoRow.holds Try.pinned (OpenSpec.upto ringPlaysSpec)

/-- 'astrolabelaw13.RingOrders', WHERE WHAT IT READS IS OF BULK AT MOST 1048576: true; the input reads as it did. -/
def ringOrdersUptoRow : OpenClaim := { program := "ytobdojccholkbaa", sum := "b79a2a67577845b55e8e7c3abc1f89b997832ff4b4582943c6ab5f61b54e70b0", func := "astrolabe/astrolabelaw13.RingOrders", spec := "ringOrders", inPlace := ["slices.overlaps[astrolabe/api.Sample]"], unfollowed := true, recurses := true, apart := false, narrowed := true }
def RingOrdersUptoSaid : Prop := ringOrdersUptoRow.holds Try.pinned (OpenSpec.upto ringOrdersSpec)

/-- 'astrolabelaw13.RingLatest', WHERE WHAT IT READS IS OF BULK AT MOST 1048576: true; the input reads as it did. -/
def ringLatestUptoRow : OpenClaim := { program := "ytobdojccholkbaa", sum := "b79a2a67577845b55e8e7c3abc1f89b997832ff4b4582943c6ab5f61b54e70b0", func := "astrolabe/astrolabelaw13.RingLatest", spec := "ringLatest", inPlace := ["slices.overlaps[astrolabe/api.Sample]"], unfollowed := true, recurses := true, apart := false, narrowed := true }
def RingLatestUptoSaid : Prop := ringLatestUptoRow.holds Try.pinned (OpenSpec.upto ringLatestSpec)

/-- 'astrolabelaw13.RingTimes', WHERE WHAT IT READS IS OF BULK AT MOST 1048576: true; the input reads as it did. -/
def ringTimesUptoRow : OpenClaim := { program := "ytobdojccholkbaa", sum := "b79a2a67577845b55e8e7c3abc1f89b997832ff4b4582943c6ab5f61b54e70b0", func := "astrolabe/astrolabelaw13.RingTimes", spec := "ringTimes", inPlace := ["slices.overlaps[astrolabe/api.Sample]"], unfollowed := true, recurses := true, apart := false, narrowed := true }
def RingTimesUptoSaid : Prop := ringTimesUptoRow.holds Try.pinned (OpenSpec.upto ringTimesSpec)

/-- 'astrolabelaw13.RingParts', WHERE WHAT IT READS IS OF BULK AT MOST 1048576: true; the input reads as it did. -/
def ringPartsUptoRow : OpenClaim := { program := "ytobdojccholkbaa", sum := "b79a2a67577845b55e8e7c3abc1f89b997832ff4b4582943c6ab5f61b54e70b0", func := "astrolabe/astrolabelaw13.RingParts", spec := "ringParts", inPlace := ["slices.overlaps[astrolabe/api.Sample]"], unfollowed := true, recurses := true, apart := false, narrowed := true }
def RingPartsUptoSaid : Prop := ringPartsUptoRow.holds Try.pinned (OpenSpec.upto ringPartsSpec)

end Rows
end Go.Proofs.Ytobdojccholkbaa
