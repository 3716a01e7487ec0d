/-
  No cell of these rows narrows 'for every input' (looked for: loops, veiled, ifaces, maps, wideKeys, modest, calm, conditions, laid).
  DERIVED. THE GIVEN ROWS OF THIS SEAT. 15 by the template 'for every input the law returns true; each argument reads behind the call as it read before'; 0 by the template 'total and deterministic' (their statements: YtdgapclgapjhiaaTotals.lean).
  GIVEN WITH THE SEED: the statements are not yours to turn. If you find one false, say at which input.
  Laid BY PROGRAM, IN A SANDBOX (cutbox-rows.mjs): the forced cells as the released guide's own fill.sh prints them over the translation cf712902e1234ce4… (all of the seat's roots in one cut). By AI agents, Wed Nov 11 2026. No macro, syntax, notation, axiom, sorry.
-/
import Derived.Test.YtdgapclgapjhiaaChecked
import GoSem.Claim
import GoSem.ClaimJoined
import GoSem.ClaimMapViews
import Derived.JoinedTies
import Derived.KernelRfl
namespace Go.Proofs.Ytdgapclgapjhiaa
/- THE CELL 'sum', in the pinned program and in every row, IS THE sha256 OF THE DUMP (.gsa) THAT YtdgapclgapjhiaaProg.lean LOADS. Nothing in Lean hashes anything: it is a label: what it is worth is what the hold of that sum in a sandbox is worth. -/
noncomputable def Try.pinned : Pinned := { name := "ytdgapclgapjhiaa", sum := "cf712902e1234ce49b2480a979ed3318c8581c017cd720cb9f2b0b564d9ebdd9", checked := Try.checked }
namespace Rows
def none {H : Type} : Left H := { results := [], args := [] }

/-- 'astrolabelaw1.WideReckons': WHATEVER THE INPUT: true; the input reads as it did. -/
def wideReckonsSpec : ChangeSpec := { name := "wideReckons", fn := fun _ => fun
  | [d1, d2, d3, d4] => { results := [.lit (.bool true)], args := [d1, d2, d3, d4] }
  | _ => none }
def wideReckonsRow : OpenClaim := { program := "ytdgapclgapjhiaa", sum := "cf712902e1234ce49b2480a979ed3318c8581c017cd720cb9f2b0b564d9ebdd9", func := "astrolabe/astrolabelaw1.WideReckons", spec := "wideReckons", inPlace := ["math/bits.Sub64", "math/bits.Add64"], named := ["math/bits.divideError", "math/bits.overflowError"], apart := false }
def WideReckonsSaid : Prop := wideReckonsRow.holds Try.pinned (OpenSpec.ofChange wideReckonsSpec)

/-- ITS FALSE NEIGHBOUR: 'it returns false'. Refute it at one input. -/
def wideReckonsWrong : ChangeSpec := { name := "wideReckons", fn := fun _ => fun
  | [d1, d2, d3, d4] => { results := [.lit (.bool false)], args := [d1, d2, d3, d4] }
  | _ => none }
def WideReckonsWrongFalsely : Prop := wideReckonsRow.holds Try.pinned (OpenSpec.ofChange wideReckonsWrong)

/-- 'astrolabelaw1.WideRounds': WHATEVER THE INPUT: true; the input reads as it did. -/
def wideRoundsSpec : ChangeSpec := { name := "wideRounds", fn := fun _ => fun
  | [d1, d2, d3] => { results := [.lit (.bool true)], args := [d1, d2, d3] }
  | _ => none }
def wideRoundsRow : OpenClaim := { program := "ytdgapclgapjhiaa", sum := "cf712902e1234ce49b2480a979ed3318c8581c017cd720cb9f2b0b564d9ebdd9", func := "astrolabe/astrolabelaw1.WideRounds", spec := "wideRounds", inPlace := ["math/bits.Sub64", "math/bits.Add64"], named := ["math/bits.divideError", "math/bits.overflowError"], apart := false }
def WideRoundsSaid : Prop := wideRoundsRow.holds Try.pinned (OpenSpec.ofChange wideRoundsSpec)

/-- ITS FALSE NEIGHBOUR: 'it returns false'. Refute it at one input. -/
def wideRoundsWrong : ChangeSpec := { name := "wideRounds", fn := fun _ => fun
  | [d1, d2, d3] => { results := [.lit (.bool false)], args := [d1, d2, d3] }
  | _ => none }
def WideRoundsWrongFalsely : Prop := wideRoundsRow.holds Try.pinned (OpenSpec.ofChange wideRoundsWrong)

/-- 'astrolabelaw2.FxOps': WHATEVER THE INPUT: true; the input reads as it did. -/
def fxOpsSpec : ChangeSpec := { name := "fxOps", fn := fun _ => fun
  | [d1, d2, d3, d4] => { results := [.lit (.bool true)], args := [d1, d2, d3, d4] }
  | _ => none }
def fxOpsRow : OpenClaim := { program := "ytdgapclgapjhiaa", sum := "cf712902e1234ce49b2480a979ed3318c8581c017cd720cb9f2b0b564d9ebdd9", func := "astrolabe/astrolabelaw2.FxOps", spec := "fxOps", inPlace := ["math/bits.Sub64", "math/bits.Add64"], named := ["math/bits.divideError", "math/bits.overflowError"], apart := false }
def FxOpsSaid : Prop := fxOpsRow.holds Try.pinned (OpenSpec.ofChange fxOpsSpec)

/-- ITS FALSE NEIGHBOUR: 'it returns false'. Refute it at one input. -/
def fxOpsWrong : ChangeSpec := { name := "fxOps", fn := fun _ => fun
  | [d1, d2, d3, d4] => { results := [.lit (.bool false)], args := [d1, d2, d3, d4] }
  | _ => none }
def FxOpsWrongFalsely : Prop := fxOpsRow.holds Try.pinned (OpenSpec.ofChange fxOpsWrong)

/-- 'astrolabelaw2.FxDots': WHATEVER THE INPUT: true; the input reads as it did. -/
def fxDotsSpec : ChangeSpec := { name := "fxDots", fn := fun _ => fun
  | [d1, d2, d3] => { results := [.lit (.bool true)], args := [d1, d2, d3] }
  | _ => none }
def fxDotsRow : OpenClaim := { program := "ytdgapclgapjhiaa", sum := "cf712902e1234ce49b2480a979ed3318c8581c017cd720cb9f2b0b564d9ebdd9", func := "astrolabe/astrolabelaw2.FxDots", spec := "fxDots", inPlace := ["math/bits.Sub64", "math/bits.Add64"], named := ["math/bits.divideError", "math/bits.overflowError"], apart := false }
def FxDotsSaid : Prop := fxDotsRow.holds Try.pinned (OpenSpec.ofChange fxDotsSpec)

/-- ITS FALSE NEIGHBOUR: 'it returns false'. Refute it at one input. -/
def fxDotsWrong : ChangeSpec := { name := "fxDots", fn := fun _ => fun
  | [d1, d2, d3] => { results := [.lit (.bool false)], args := [d1, d2, d3] }
  | _ => none }
def FxDotsWrongFalsely : Prop := fxDotsRow.holds Try.pinned (OpenSpec.ofChange fxDotsWrong)

/-- 'astrolabelaw2.FxFlags': WHATEVER THE INPUT: true; the input reads as it did. -/
def fxFlagsSpec : ChangeSpec := { name := "fxFlags", fn := fun _ => fun
  | [d1, d2, d3] => { results := [.lit (.bool true)], args := [d1, d2, d3] }
  | _ => none }
def fxFlagsRow : OpenClaim := { program := "ytdgapclgapjhiaa", sum := "cf712902e1234ce49b2480a979ed3318c8581c017cd720cb9f2b0b564d9ebdd9", func := "astrolabe/astrolabelaw2.FxFlags", spec := "fxFlags", inPlace := ["math/bits.Sub64", "math/bits.Add64"], named := ["math/bits.divideError", "math/bits.overflowError"], apart := false }
def FxFlagsSaid : Prop := fxFlagsRow.holds Try.pinned (OpenSpec.ofChange fxFlagsSpec)

/-- ITS FALSE NEIGHBOUR: 'it returns false'. Refute it at one input. -/
def fxFlagsWrong : ChangeSpec := { name := "fxFlags", fn := fun _ => fun
  | [d1, d2, d3] => { results := [.lit (.bool false)], args := [d1, d2, d3] }
  | _ => none }
def FxFlagsWrongFalsely : Prop := fxFlagsRow.holds Try.pinned (OpenSpec.ofChange fxFlagsWrong)

/-- 'astrolabelaw3.RootHolds': WHATEVER THE INPUT: true; the input reads as it did. -/
def rootHoldsSpec : ChangeSpec := { name := "rootHolds", fn := fun _ => fun
  | [d1, d2, d3] => { results := [.lit (.bool true)], args := [d1, d2, d3] }
  | _ => none }
def rootHoldsRow : OpenClaim := { program := "ytdgapclgapjhiaa", sum := "cf712902e1234ce49b2480a979ed3318c8581c017cd720cb9f2b0b564d9ebdd9", func := "astrolabe/astrolabelaw3.RootHolds", spec := "rootHolds", inPlace := ["math/bits.Add64", "math/bits.Sub64"], named := ["math/bits.divideError", "math/bits.overflowError"], apart := false }
def RootHoldsSaid : Prop := rootHoldsRow.holds Try.pinned (OpenSpec.ofChange rootHoldsSpec)

/-- ITS FALSE NEIGHBOUR: 'it returns false'. Refute it at one input. -/
def rootHoldsWrong : ChangeSpec := { name := "rootHolds", fn := fun _ => fun
  | [d1, d2, d3] => { results := [.lit (.bool false)], args := [d1, d2, d3] }
  | _ => none }
def RootHoldsWrongFalsely : Prop := rootHoldsRow.holds Try.pinned (OpenSpec.ofChange rootHoldsWrong)

/-- 'astrolabelaw3.RootMany': WHATEVER THE INPUT: true; the input reads as it did. -/
def rootManySpec : ChangeSpec := { name := "rootMany", fn := fun _ => fun
  | [d1, d2] => { results := [.lit (.bool true)], args := [d1, d2] }
  | _ => none }
def rootManyRow : OpenClaim := { program := "ytdgapclgapjhiaa", sum := "cf712902e1234ce49b2480a979ed3318c8581c017cd720cb9f2b0b564d9ebdd9", func := "astrolabe/astrolabelaw3.RootMany", spec := "rootMany", inPlace := ["math/bits.Add64", "math/bits.Sub64"], named := ["math/bits.divideError", "math/bits.overflowError"], apart := false }
def RootManySaid : Prop := rootManyRow.holds Try.pinned (OpenSpec.ofChange rootManySpec)

/-- ITS FALSE NEIGHBOUR: 'it returns false'. Refute it at one input. -/
def rootManyWrong : ChangeSpec := { name := "rootMany", fn := fun _ => fun
  | [d1, d2] => { results := [.lit (.bool false)], args := [d1, d2] }
  | _ => none }
def RootManyWrongFalsely : Prop := rootManyRow.holds Try.pinned (OpenSpec.ofChange rootManyWrong)

/-- 'astrolabelaw4.TrigKnown': WHATEVER THE INPUT: true; the input reads as it did. -/
def trigKnownSpec : ChangeSpec := { name := "trigKnown", fn := fun _ => fun
  | [] => { results := [.lit (.bool true)], args := [] }
  | _ => none }
def trigKnownRow : OpenClaim := { program := "ytdgapclgapjhiaa", sum := "cf712902e1234ce49b2480a979ed3318c8581c017cd720cb9f2b0b564d9ebdd9", func := "astrolabe/astrolabelaw4.TrigKnown", spec := "trigKnown", inPlace := ["math/bits.Sub64", "math/bits.Add64"], named := ["math/bits.divideError", "math/bits.overflowError"], apart := false }
def TrigKnownSaid : Prop := trigKnownRow.holds Try.pinned (OpenSpec.ofChange trigKnownSpec)

/-- ITS FALSE NEIGHBOUR: 'it returns false'. Refute it at one input. -/
def trigKnownWrong : ChangeSpec := { name := "trigKnown", fn := fun _ => fun
  | [] => { results := [.lit (.bool false)], args := [] }
  | _ => none }
def TrigKnownWrongFalsely : Prop := trigKnownRow.holds Try.pinned (OpenSpec.ofChange trigKnownWrong)

/-- 'astrolabelaw4.TrigSays': WHATEVER THE INPUT: true; the input reads as it did. -/
def trigSaysSpec : ChangeSpec := { name := "trigSays", fn := fun _ => fun
  | [d1, d2, d3] => { results := [.lit (.bool true)], args := [d1, d2, d3] }
  | _ => none }
def trigSaysRow : OpenClaim := { program := "ytdgapclgapjhiaa", sum := "cf712902e1234ce49b2480a979ed3318c8581c017cd720cb9f2b0b564d9ebdd9", func := "astrolabe/astrolabelaw4.TrigSays", spec := "trigSays", inPlace := ["math/bits.Sub64", "math/bits.Add64"], named := ["math/bits.divideError", "math/bits.overflowError"], apart := false }
def TrigSaysSaid : Prop := trigSaysRow.holds Try.pinned (OpenSpec.ofChange trigSaysSpec)

/-- ITS FALSE NEIGHBOUR: 'it returns false'. Refute it at one input. -/
def trigSaysWrong : ChangeSpec := { name := "trigSays", fn := fun _ => fun
  | [d1, d2, d3] => { results := [.lit (.bool false)], args := [d1, d2, d3] }
  | _ => none }
def TrigSaysWrongFalsely : Prop := trigSaysRow.holds Try.pinned (OpenSpec.ofChange trigSaysWrong)

/-- 'astrolabelaw4.TrigCircle': WHATEVER THE INPUT: true; the input reads as it did. -/
def trigCircleSpec : ChangeSpec := { name := "trigCircle", fn := fun _ => fun
  | [d] => { results := [.lit (.bool true)], args := [d] }
  | _ => none }
def trigCircleRow : OpenClaim := { program := "ytdgapclgapjhiaa", sum := "cf712902e1234ce49b2480a979ed3318c8581c017cd720cb9f2b0b564d9ebdd9", func := "astrolabe/astrolabelaw4.TrigCircle", spec := "trigCircle", inPlace := ["math/bits.Sub64", "math/bits.Add64"], named := ["math/bits.divideError", "math/bits.overflowError"], apart := false }
def TrigCircleSaid : Prop := trigCircleRow.holds Try.pinned (OpenSpec.ofChange trigCircleSpec)

/-- ITS FALSE NEIGHBOUR: 'it returns false'. Refute it at one input. -/
def trigCircleWrong : ChangeSpec := { name := "trigCircle", fn := fun _ => fun
  | [d] => { results := [.lit (.bool false)], args := [d] }
  | _ => none }
def TrigCircleWrongFalsely : Prop := trigCircleRow.holds Try.pinned (OpenSpec.ofChange trigCircleWrong)

/-- 'astrolabelaw4.TrigSums': WHATEVER THE INPUT: true; the input reads as it did. -/
def trigSumsSpec : ChangeSpec := { name := "trigSums", fn := fun _ => fun
  | [d1, d2] => { results := [.lit (.bool true)], args := [d1, d2] }
  | _ => none }
def trigSumsRow : OpenClaim := { program := "ytdgapclgapjhiaa", sum := "cf712902e1234ce49b2480a979ed3318c8581c017cd720cb9f2b0b564d9ebdd9", func := "astrolabe/astrolabelaw4.TrigSums", spec := "trigSums", inPlace := ["math/bits.Sub64", "math/bits.Add64"], named := ["math/bits.divideError", "math/bits.overflowError"], apart := false }
def TrigSumsSaid : Prop := trigSumsRow.holds Try.pinned (OpenSpec.ofChange trigSumsSpec)

/-- ITS FALSE NEIGHBOUR: 'it returns false'. Refute it at one input. -/
def trigSumsWrong : ChangeSpec := { name := "trigSums", fn := fun _ => fun
  | [d1, d2] => { results := [.lit (.bool false)], args := [d1, d2] }
  | _ => none }
def TrigSumsWrongFalsely : Prop := trigSumsRow.holds Try.pinned (OpenSpec.ofChange trigSumsWrong)

/-- 'astrolabelaw4.TrigTurns': WHATEVER THE INPUT: true; the input reads as it did. -/
def trigTurnsSpec : ChangeSpec := { name := "trigTurns", fn := fun _ => fun
  | [d1, d2] => { results := [.lit (.bool true)], args := [d1, d2] }
  | _ => none }
def trigTurnsRow : OpenClaim := { program := "ytdgapclgapjhiaa", sum := "cf712902e1234ce49b2480a979ed3318c8581c017cd720cb9f2b0b564d9ebdd9", func := "astrolabe/astrolabelaw4.TrigTurns", spec := "trigTurns", inPlace := ["math/bits.Sub64", "math/bits.Add64"], named := ["math/bits.divideError", "math/bits.overflowError"], apart := false }
def TrigTurnsSaid : Prop := trigTurnsRow.holds Try.pinned (OpenSpec.ofChange trigTurnsSpec)

/-- ITS FALSE NEIGHBOUR: 'it returns false'. Refute it at one input. -/
def trigTurnsWrong : ChangeSpec := { name := "trigTurns", fn := fun _ => fun
  | [d1, d2] => { results := [.lit (.bool false)], args := [d1, d2] }
  | _ => none }
def TrigTurnsWrongFalsely : Prop := trigTurnsRow.holds Try.pinned (OpenSpec.ofChange trigTurnsWrong)

/-- 'astrolabelaw4.TrigWraps': WHATEVER THE INPUT: true; the input reads as it did. -/
def trigWrapsSpec : ChangeSpec := { name := "trigWraps", fn := fun _ => fun
  | [d1, d2] => { results := [.lit (.bool true)], args := [d1, d2] }
  | _ => none }
def trigWrapsRow : OpenClaim := { program := "ytdgapclgapjhiaa", sum := "cf712902e1234ce49b2480a979ed3318c8581c017cd720cb9f2b0b564d9ebdd9", func := "astrolabe/astrolabelaw4.TrigWraps", spec := "trigWraps", inPlace := ["math/bits.Sub64", "math/bits.Add64"], named := ["math/bits.divideError", "math/bits.overflowError"], apart := false }
def TrigWrapsSaid : Prop := trigWrapsRow.holds Try.pinned (OpenSpec.ofChange trigWrapsSpec)

/-- ITS FALSE NEIGHBOUR: 'it returns false'. Refute it at one input. -/
def trigWrapsWrong : ChangeSpec := { name := "trigWraps", fn := fun _ => fun
  | [d1, d2] => { results := [.lit (.bool false)], args := [d1, d2] }
  | _ => none }
def TrigWrapsWrongFalsely : Prop := trigWrapsRow.holds Try.pinned (OpenSpec.ofChange trigWrapsWrong)

/-- 'astrolabelaw4.TrigArcs': WHATEVER THE INPUT: true; the input reads as it did. -/
def trigArcsSpec : ChangeSpec := { name := "trigArcs", fn := fun _ => fun
  | [d] => { results := [.lit (.bool true)], args := [d] }
  | _ => none }
def trigArcsRow : OpenClaim := { program := "ytdgapclgapjhiaa", sum := "cf712902e1234ce49b2480a979ed3318c8581c017cd720cb9f2b0b564d9ebdd9", func := "astrolabe/astrolabelaw4.TrigArcs", spec := "trigArcs", inPlace := ["math/bits.Sub64", "math/bits.Add64"], named := ["math/bits.divideError", "math/bits.overflowError"], apart := false }
def TrigArcsSaid : Prop := trigArcsRow.holds Try.pinned (OpenSpec.ofChange trigArcsSpec)

/-- ITS FALSE NEIGHBOUR: 'it returns false'. Refute it at one input. -/
def trigArcsWrong : ChangeSpec := { name := "trigArcs", fn := fun _ => fun
  | [d] => { results := [.lit (.bool false)], args := [d] }
  | _ => none }
def TrigArcsWrongFalsely : Prop := trigArcsRow.holds Try.pinned (OpenSpec.ofChange trigArcsWrong)

/-- 'astrolabelaw4.TrigRises': WHATEVER THE INPUT: true; the input reads as it did. -/
def trigRisesSpec : ChangeSpec := { name := "trigRises", fn := fun _ => fun
  | [d1, d2] => { results := [.lit (.bool true)], args := [d1, d2] }
  | _ => none }
def trigRisesRow : OpenClaim := { program := "ytdgapclgapjhiaa", sum := "cf712902e1234ce49b2480a979ed3318c8581c017cd720cb9f2b0b564d9ebdd9", func := "astrolabe/astrolabelaw4.TrigRises", spec := "trigRises", inPlace := ["math/bits.Sub64", "math/bits.Add64"], named := ["math/bits.divideError", "math/bits.overflowError"], apart := false }
def TrigRisesSaid : Prop := trigRisesRow.holds Try.pinned (OpenSpec.ofChange trigRisesSpec)

/-- ITS FALSE NEIGHBOUR: 'it returns false'. Refute it at one input. -/
def trigRisesWrong : ChangeSpec := { name := "trigRises", fn := fun _ => fun
  | [d1, d2] => { results := [.lit (.bool false)], args := [d1, d2] }
  | _ => none }
def TrigRisesWrongFalsely : Prop := trigRisesRow.holds Try.pinned (OpenSpec.ofChange trigRisesWrong)

/- THE SECOND FORM. 'bulk': how many values and letters a reading holds, each counted each time it is reached (what is shared counts as often as it is met; a slice's spare places count too). A statement '..UptoSaid' is the law's where the arguments, and the package variables that the reading takes, are together of bulk at most 1048576: NARROWER than '..Said'. Prove '..Said' where nothing that the law and all that it calls make is longer than what came in: it says more and counts as full. Else prove '..UptoSaid'. A law counts once. -/
mutual
def uptoBulk {H : Type} : DataW H → Nat
  | .lit (.string bytes) => bytes.length + 1
  | .lit _ => 1
  | .nil => 1
  | .ptr d => uptoBulk d + 1
  | .slice elems spare => uptoBulkAll elems + uptoBulkAll spare + 1
  | .agg parts => uptoBulkAll parts + 1
  | .iface _ d => uptoBulk d + 1
  | .map entries => uptoBulkEntries entries + 1
  | .held _ => 1
def uptoBulkAll {H : Type} : List (DataW H) → Nat
  | [] => 0
  | d :: r => uptoBulk d + uptoBulkAll r
def uptoBulkEntries {H : Type} : List (Lit × DataW H) → Nat
  | [] => 0
  | x :: r => uptoBulkEntry x + uptoBulkEntries r
def uptoBulkEntry {H : Type} : Lit × DataW H → Nat
  | (.string bytes, d) => bytes.length + uptoBulk d + 1
  | (_, d) => uptoBulk d + 1
 end
def uptoSmall : (H : Type) → List (DataW H) → Bool := fun _ ds => decide (uptoBulkAll ds ≤ 1048576)
def OpenSpec.upto (s : _root_.Go.ChangeSpec) : _root_.Go.OpenSpec := { _root_.Go.OpenSpec.ofChange s with cond := some uptoSmall }

/-- 'astrolabelaw1.WideReckons', WHERE WHAT IT READS IS OF BULK AT MOST 1048576: true; the input reads as it did. -/
def wideReckonsUptoRow : OpenClaim := { program := "ytdgapclgapjhiaa", sum := "cf712902e1234ce49b2480a979ed3318c8581c017cd720cb9f2b0b564d9ebdd9", func := "astrolabe/astrolabelaw1.WideReckons", spec := "wideReckons", inPlace := ["math/bits.Sub64", "math/bits.Add64"], named := ["math/bits.divideError", "math/bits.overflowError"], apart := false, narrowed := true }
def WideReckonsUptoSaid : Prop := wideReckonsUptoRow.holds Try.pinned (OpenSpec.upto wideReckonsSpec)

/-- 'astrolabelaw1.WideRounds', WHERE WHAT IT READS IS OF BULK AT MOST 1048576: true; the input reads as it did. -/
def wideRoundsUptoRow : OpenClaim := { program := "ytdgapclgapjhiaa", sum := "cf712902e1234ce49b2480a979ed3318c8581c017cd720cb9f2b0b564d9ebdd9", func := "astrolabe/astrolabelaw1.WideRounds", spec := "wideRounds", inPlace := ["math/bits.Sub64", "math/bits.Add64"], named := ["math/bits.divideError", "math/bits.overflowError"], apart := false, narrowed := true }
def WideRoundsUptoSaid : Prop := wideRoundsUptoRow.holds Try.pinned (OpenSpec.upto wideRoundsSpec)

/-- 'astrolabelaw2.FxOps', WHERE WHAT IT READS IS OF BULK AT MOST 1048576: true; the input reads as it did. -/
def fxOpsUptoRow : OpenClaim := { program := "ytdgapclgapjhiaa", sum := "cf712902e1234ce49b2480a979ed3318c8581c017cd720cb9f2b0b564d9ebdd9", func := "astrolabe/astrolabelaw2.FxOps", spec := "fxOps", inPlace := ["math/bits.Sub64", "math/bits.Add64"], named := ["math/bits.divideError", "math/bits.overflowError"], apart := false, narrowed := true }
def FxOpsUptoSaid : Prop := fxOpsUptoRow.holds Try.pinned (OpenSpec.upto fxOpsSpec)

/-- 'astrolabelaw2.FxDots', WHERE WHAT IT READS IS OF BULK AT MOST 1048576: true; the input reads as it did. -/
def fxDotsUptoRow : OpenClaim := { program := "ytdgapclgapjhiaa", sum := "cf712902e1234ce49b2480a979ed3318c8581c017cd720cb9f2b0b564d9ebdd9", func := "astrolabe/astrolabelaw2.FxDots", spec := "fxDots", inPlace := ["math/bits.Sub64", "math/bits.Add64"], named := ["math/bits.divideError", "math/bits.overflowError"], apart := false, narrowed := true }
def FxDotsUptoSaid : Prop := fxDotsUptoRow.holds Try.pinned (OpenSpec.upto fxDotsSpec)

/-- 'astrolabelaw2.FxFlags', WHERE WHAT IT READS IS OF BULK AT MOST 1048576: true; the input reads as it did. -/
def fxFlagsUptoRow : OpenClaim := { program := "ytdgapclgapjhiaa", sum := "cf712902e1234ce49b2480a979ed3318c8581c017cd720cb9f2b0b564d9ebdd9", func := "astrolabe/astrolabelaw2.FxFlags", spec := "fxFlags", inPlace := ["math/bits.Sub64", "math/bits.Add64"], named := ["math/bits.divideError", "math/bits.overflowError"], apart := false, narrowed := true }
def FxFlagsUptoSaid : Prop := fxFlagsUptoRow.holds Try.pinned (OpenSpec.upto fxFlagsSpec)

/-- 'astrolabelaw3.RootHolds', WHERE WHAT IT READS IS OF BULK AT MOST 1048576: true; the input reads as it did. -/
def rootHoldsUptoRow : OpenClaim := { program := "ytdgapclgapjhiaa", sum := "cf712902e1234ce49b2480a979ed3318c8581c017cd720cb9f2b0b564d9ebdd9", func := "astrolabe/astrolabelaw3.RootHolds", spec := "rootHolds", inPlace := ["math/bits.Add64", "math/bits.Sub64"], named := ["math/bits.divideError", "math/bits.overflowError"], apart := false, narrowed := true }
def RootHoldsUptoSaid : Prop := rootHoldsUptoRow.holds Try.pinned (OpenSpec.upto rootHoldsSpec)

/-- 'astrolabelaw3.RootMany', WHERE WHAT IT READS IS OF BULK AT MOST 1048576: true; the input reads as it did. -/
def rootManyUptoRow : OpenClaim := { program := "ytdgapclgapjhiaa", sum := "cf712902e1234ce49b2480a979ed3318c8581c017cd720cb9f2b0b564d9ebdd9", func := "astrolabe/astrolabelaw3.RootMany", spec := "rootMany", inPlace := ["math/bits.Add64", "math/bits.Sub64"], named := ["math/bits.divideError", "math/bits.overflowError"], apart := false, narrowed := true }
def RootManyUptoSaid : Prop := rootManyUptoRow.holds Try.pinned (OpenSpec.upto rootManySpec)

/-- 'astrolabelaw4.TrigKnown', WHERE WHAT IT READS IS OF BULK AT MOST 1048576: true; the input reads as it did. -/
def trigKnownUptoRow : OpenClaim := { program := "ytdgapclgapjhiaa", sum := "cf712902e1234ce49b2480a979ed3318c8581c017cd720cb9f2b0b564d9ebdd9", func := "astrolabe/astrolabelaw4.TrigKnown", spec := "trigKnown", inPlace := ["math/bits.Sub64", "math/bits.Add64"], named := ["math/bits.divideError", "math/bits.overflowError"], apart := false, narrowed := true }
def TrigKnownUptoSaid : Prop := trigKnownUptoRow.holds Try.pinned (OpenSpec.upto trigKnownSpec)

/-- 'astrolabelaw4.TrigSays', WHERE WHAT IT READS IS OF BULK AT MOST 1048576: true; the input reads as it did. -/
def trigSaysUptoRow : OpenClaim := { program := "ytdgapclgapjhiaa", sum := "cf712902e1234ce49b2480a979ed3318c8581c017cd720cb9f2b0b564d9ebdd9", func := "astrolabe/astrolabelaw4.TrigSays", spec := "trigSays", inPlace := ["math/bits.Sub64", "math/bits.Add64"], named := ["math/bits.divideError", "math/bits.overflowError"], apart := false, narrowed := true }
def TrigSaysUptoSaid : Prop := trigSaysUptoRow.holds Try.pinned (OpenSpec.upto trigSaysSpec)

/-- 'astrolabelaw4.TrigCircle', WHERE WHAT IT READS IS OF BULK AT MOST 1048576: true; the input reads as it did. -/
def trigCircleUptoRow : OpenClaim := { program := "ytdgapclgapjhiaa", sum := "cf712902e1234ce49b2480a979ed3318c8581c017cd720cb9f2b0b564d9ebdd9", func := "astrolabe/astrolabelaw4.TrigCircle", spec := "trigCircle", inPlace := ["math/bits.Sub64", "math/bits.Add64"], named := ["math/bits.divideError", "math/bits.overflowError"], apart := false, narrowed := true }
def TrigCircleUptoSaid : Prop := trigCircleUptoRow.holds Try.pinned (OpenSpec.upto trigCircleSpec)

/-- 'astrolabelaw4.TrigSums', WHERE WHAT IT READS IS OF BULK AT MOST 1048576: true; the input reads as it did. -/
def trigSumsUptoRow : OpenClaim := { program := "ytdgapclgapjhiaa", sum := "cf712902e1234ce49b2480a979ed3318c8581c017cd720cb9f2b0b564d9ebdd9", func := "astrolabe/astrolabelaw4.TrigSums", spec := "trigSums", inPlace := ["math/bits.Sub64", "math/bits.Add64"], named := ["math/bits.divideError", "math/bits.overflowError"], apart := false, narrowed := true }
def TrigSumsUptoSaid : Prop := trigSumsUptoRow.holds Try.pinned (OpenSpec.upto trigSumsSpec)

/-- 'astrolabelaw4.TrigTurns', WHERE WHAT IT READS IS OF BULK AT MOST 1048576: true; the input reads as it did. -/
def trigTurnsUptoRow : OpenClaim := { program := "ytdgapclgapjhiaa", sum := "cf712902e1234ce49b2480a979ed3318c8581c017cd720cb9f2b0b564d9ebdd9", func := "astrolabe/astrolabelaw4.TrigTurns", spec := "trigTurns", inPlace := ["math/bits.Sub64", "math/bits.Add64"], named := ["math/bits.divideError", "math/bits.overflowError"], apart := false, narrowed := true }
def TrigTurnsUptoSaid : Prop := trigTurnsUptoRow.holds Try.pinned (OpenSpec.upto trigTurnsSpec)

/-- 'astrolabelaw4.TrigWraps', WHERE WHAT IT READS IS OF BULK AT MOST 1048576: true; the input reads as it did. -/
def trigWrapsUptoRow : OpenClaim := { program := "ytdgapclgapjhiaa", sum := "cf712902e1234ce49b2480a979ed3318c8581c017cd720cb9f2b0b564d9ebdd9", func := "astrolabe/astrolabelaw4.TrigWraps", spec := "trigWraps", inPlace := ["math/bits.Sub64", "math/bits.Add64"], named := ["math/bits.divideError", "math/bits.overflowError"], apart := false, narrowed := true }
def TrigWrapsUptoSaid : Prop := trigWrapsUptoRow.holds Try.pinned (OpenSpec.upto trigWrapsSpec)

/-- 'astrolabelaw4.TrigArcs', WHERE WHAT IT READS IS OF BULK AT MOST 1048576: true; the input reads as it did. -/
def trigArcsUptoRow : OpenClaim := { program := "ytdgapclgapjhiaa", sum := "cf712902e1234ce49b2480a979ed3318c8581c017cd720cb9f2b0b564d9ebdd9", func := "astrolabe/astrolabelaw4.TrigArcs", spec := "trigArcs", inPlace := ["math/bits.Sub64", "math/bits.Add64"], named := ["math/bits.divideError", "math/bits.overflowError"], apart := false, narrowed := true }
def TrigArcsUptoSaid : Prop := trigArcsUptoRow.holds Try.pinned (OpenSpec.upto trigArcsSpec)

/-- 'astrolabelaw4.TrigRises', WHERE WHAT IT READS IS OF BULK AT MOST 1048576: true; the input reads as it did. -/
def trigRisesUptoRow : OpenClaim := { program := "ytdgapclgapjhiaa", sum := "cf712902e1234ce49b2480a979ed3318c8581c017cd720cb9f2b0b564d9ebdd9", func := "astrolabe/astrolabelaw4.TrigRises", spec := "trigRises", inPlace := ["math/bits.Sub64", "math/bits.Add64"], named := ["math/bits.divideError", "math/bits.overflowError"], apart := false, narrowed := true }
def TrigRisesUptoSaid : Prop := trigRisesUptoRow.holds Try.pinned (OpenSpec.upto trigRisesSpec)

end Rows
end Go.Proofs.Ytdgapclgapjhiaa
