/-
  No cell of these rows narrows 'for every input' (looked for: loops, veiled, ifaces, maps, wideKeys, modest, calm, conditions, laid).
  DERIVED. THE GIVEN ROWS OF THIS SEAT. 12 by the template 'for every input the law returns true; each argument reads behind the call as it read before'; 0 by the template 'total and deterministic' (their statements: YtfkeljolpcbbkaaTotals.lean).
  GIVEN WITH THE SEED: the statements are not yours to turn. If you find one false, say at which input.
  Laid BY PROGRAM, IN A SANDBOX (cutbox-rows.mjs): the forced cells as the released guide's own fill.sh prints them over the translation 0c4e0101f2e6609f… (all of the seat's roots in one cut). By AI agents, Wed Nov 11 2026. No macro, syntax, notation, axiom, sorry.
-/
import Derived.Test.YtfkeljolpcbbkaaChecked
import GoSem.Claim
import GoSem.ClaimJoined
import GoSem.ClaimMapViews
import Derived.JoinedTies
import Derived.KernelRfl
namespace Go.Proofs.Ytfkeljolpcbbkaa
/- THE CELL 'sum', in the pinned program and in every row, IS THE sha256 OF THE DUMP (.gsa) THAT YtfkeljolpcbbkaaProg.lean LOADS. Nothing in Lean hashes anything: it is a label: what it is worth is what the hold of that sum in a sandbox is worth. -/
noncomputable def Try.pinned : Pinned := { name := "ytfkeljolpcbbkaa", sum := "0c4e0101f2e6609fc6d98c28a62d875b45fbc12c3559076ffe4c924cb1a5c9a0", checked := Try.checked }
namespace Rows
def none {H : Type} : Left H := { results := [], args := [] }

/-- 'astrolabelaw1.WideReckons': WHATEVER THE INPUT: true; the input reads as it did. -/
def wideReckonsSpec : ChangeSpec := { name := "wideReckons", fn := fun _ => fun
  | [d1, d2, d3, d4] => { results := [.lit (.bool true)], args := [d1, d2, d3, d4] }
  | _ => none }
def wideReckonsRow : OpenClaim := { program := "ytfkeljolpcbbkaa", sum := "0c4e0101f2e6609fc6d98c28a62d875b45fbc12c3559076ffe4c924cb1a5c9a0", func := "astrolabe/astrolabelaw1.WideReckons", spec := "wideReckons", inPlace := ["math/bits.Sub64", "math/bits.Add64"], named := ["math/bits.divideError", "math/bits.overflowError"], apart := false }
def WideReckonsSaid : Prop := wideReckonsRow.holds Try.pinned (OpenSpec.ofChange wideReckonsSpec)

/-- ITS FALSE NEIGHBOUR: 'it returns false'. Refute it at one input. -/
def wideReckonsWrong : ChangeSpec := { name := "wideReckons", fn := fun _ => fun
  | [d1, d2, d3, d4] => { results := [.lit (.bool false)], args := [d1, d2, d3, d4] }
  | _ => none }
def WideReckonsWrongFalsely : Prop := wideReckonsRow.holds Try.pinned (OpenSpec.ofChange wideReckonsWrong)

/-- 'astrolabelaw1.WideRounds': WHATEVER THE INPUT: true; the input reads as it did. -/
def wideRoundsSpec : ChangeSpec := { name := "wideRounds", fn := fun _ => fun
  | [d1, d2, d3] => { results := [.lit (.bool true)], args := [d1, d2, d3] }
  | _ => none }
def wideRoundsRow : OpenClaim := { program := "ytfkeljolpcbbkaa", sum := "0c4e0101f2e6609fc6d98c28a62d875b45fbc12c3559076ffe4c924cb1a5c9a0", func := "astrolabe/astrolabelaw1.WideRounds", spec := "wideRounds", inPlace := ["math/bits.Sub64", "math/bits.Add64"], named := ["math/bits.divideError", "math/bits.overflowError"], apart := false }
def WideRoundsSaid : Prop := wideRoundsRow.holds Try.pinned (OpenSpec.ofChange wideRoundsSpec)

/-- ITS FALSE NEIGHBOUR: 'it returns false'. Refute it at one input. -/
def wideRoundsWrong : ChangeSpec := { name := "wideRounds", fn := fun _ => fun
  | [d1, d2, d3] => { results := [.lit (.bool false)], args := [d1, d2, d3] }
  | _ => none }
def WideRoundsWrongFalsely : Prop := wideRoundsRow.holds Try.pinned (OpenSpec.ofChange wideRoundsWrong)

/-- 'astrolabelaw2.FxOps': WHATEVER THE INPUT: true; the input reads as it did. -/
def fxOpsSpec : ChangeSpec := { name := "fxOps", fn := fun _ => fun
  | [d1, d2, d3, d4] => { results := [.lit (.bool true)], args := [d1, d2, d3, d4] }
  | _ => none }
def fxOpsRow : OpenClaim := { program := "ytfkeljolpcbbkaa", sum := "0c4e0101f2e6609fc6d98c28a62d875b45fbc12c3559076ffe4c924cb1a5c9a0", func := "astrolabe/astrolabelaw2.FxOps", spec := "fxOps", inPlace := ["math/bits.Sub64", "math/bits.Add64"], named := ["math/bits.divideError", "math/bits.overflowError"], apart := false }
def FxOpsSaid : Prop := fxOpsRow.holds Try.pinned (OpenSpec.ofChange fxOpsSpec)

/-- ITS FALSE NEIGHBOUR: 'it returns false'. Refute it at one input. -/
def fxOpsWrong : ChangeSpec := { name := "fxOps", fn := fun _ => fun
  | [d1, d2, d3, d4] => { results := [.lit (.bool false)], args := [d1, d2, d3, d4] }
  | _ => none }
def FxOpsWrongFalsely : Prop := fxOpsRow.holds Try.pinned (OpenSpec.ofChange fxOpsWrong)

/-- 'astrolabelaw2.FxDots': WHATEVER THE INPUT: true; the input reads as it did. -/
def fxDotsSpec : ChangeSpec := { name := "fxDots", fn := fun _ => fun
  | [d1, d2, d3] => { results := [.lit (.bool true)], args := [d1, d2, d3] }
  | _ => none }
def fxDotsRow : OpenClaim := { program := "ytfkeljolpcbbkaa", sum := "0c4e0101f2e6609fc6d98c28a62d875b45fbc12c3559076ffe4c924cb1a5c9a0", func := "astrolabe/astrolabelaw2.FxDots", spec := "fxDots", inPlace := ["math/bits.Sub64", "math/bits.Add64"], named := ["math/bits.divideError", "math/bits.overflowError"], apart := false }
def FxDotsSaid : Prop := fxDotsRow.holds Try.pinned (OpenSpec.ofChange fxDotsSpec)

/-- ITS FALSE NEIGHBOUR: 'it returns false'. Refute it at one input. -/
def fxDotsWrong : ChangeSpec := { name := "fxDots", fn := fun _ => fun
  | [d1, d2, d3] => { results := [.lit (.bool false)], args := [d1, d2, d3] }
  | _ => none }
def FxDotsWrongFalsely : Prop := fxDotsRow.holds Try.pinned (OpenSpec.ofChange fxDotsWrong)

/-- 'astrolabelaw4.TrigSays': WHATEVER THE INPUT: true; the input reads as it did. -/
def trigSaysSpec : ChangeSpec := { name := "trigSays", fn := fun _ => fun
  | [d1, d2, d3] => { results := [.lit (.bool true)], args := [d1, d2, d3] }
  | _ => none }
def trigSaysRow : OpenClaim := { program := "ytfkeljolpcbbkaa", sum := "0c4e0101f2e6609fc6d98c28a62d875b45fbc12c3559076ffe4c924cb1a5c9a0", func := "astrolabe/astrolabelaw4.TrigSays", spec := "trigSays", inPlace := ["math/bits.Sub64", "math/bits.Add64"], named := ["math/bits.divideError", "math/bits.overflowError"], apart := false }
def TrigSaysSaid : Prop := trigSaysRow.holds Try.pinned (OpenSpec.ofChange trigSaysSpec)

/-- ITS FALSE NEIGHBOUR: 'it returns false'. Refute it at one input. -/
def trigSaysWrong : ChangeSpec := { name := "trigSays", fn := fun _ => fun
  | [d1, d2, d3] => { results := [.lit (.bool false)], args := [d1, d2, d3] }
  | _ => none }
def TrigSaysWrongFalsely : Prop := trigSaysRow.holds Try.pinned (OpenSpec.ofChange trigSaysWrong)

/-- 'astrolabelaw5.VecSays': WHATEVER THE INPUT: true; the input reads as it did. -/
def vecSaysSpec : ChangeSpec := { name := "vecSays", fn := fun _ => fun
  | [d1, d2, d3] => { results := [.lit (.bool true)], args := [d1, d2, d3] }
  | _ => none }
def vecSaysRow : OpenClaim := { program := "ytfkeljolpcbbkaa", sum := "0c4e0101f2e6609fc6d98c28a62d875b45fbc12c3559076ffe4c924cb1a5c9a0", func := "astrolabe/astrolabelaw5.VecSays", spec := "vecSays", inPlace := ["math/bits.Add64", "math/bits.Sub64"], named := ["math/bits.divideError", "math/bits.overflowError"], apart := false }
def VecSaysSaid : Prop := vecSaysRow.holds Try.pinned (OpenSpec.ofChange vecSaysSpec)

/-- ITS FALSE NEIGHBOUR: 'it returns false'. Refute it at one input. -/
def vecSaysWrong : ChangeSpec := { name := "vecSays", fn := fun _ => fun
  | [d1, d2, d3] => { results := [.lit (.bool false)], args := [d1, d2, d3] }
  | _ => none }
def VecSaysWrongFalsely : Prop := vecSaysRow.holds Try.pinned (OpenSpec.ofChange vecSaysWrong)

/-- 'astrolabelaw9.TriSays': WHATEVER THE INPUT: true; the input reads as it did. -/
def triSaysSpec : ChangeSpec := { name := "triSays", fn := fun _ => fun
  | [d1, d2, d3, d4, d5] => { results := [.lit (.bool true)], args := [d1, d2, d3, d4, d5] }
  | _ => none }
def triSaysRow : OpenClaim := { program := "ytfkeljolpcbbkaa", sum := "0c4e0101f2e6609fc6d98c28a62d875b45fbc12c3559076ffe4c924cb1a5c9a0", func := "astrolabe/astrolabelaw9.TriSays", spec := "triSays", inPlace := ["math/bits.Sub64", "math/bits.Add64"], apart := false }
def TriSaysSaid : Prop := triSaysRow.holds Try.pinned (OpenSpec.ofChange triSaysSpec)

/-- ITS FALSE NEIGHBOUR: 'it returns false'. Refute it at one input. -/
def triSaysWrong : ChangeSpec := { name := "triSays", fn := fun _ => fun
  | [d1, d2, d3, d4, d5] => { results := [.lit (.bool false)], args := [d1, d2, d3, d4, d5] }
  | _ => none }
def TriSaysWrongFalsely : Prop := triSaysRow.holds Try.pinned (OpenSpec.ofChange triSaysWrong)

/-- 'astrolabelaw9.TriSets': WHATEVER THE INPUT: true; the input reads as it did. -/
def triSetsSpec : ChangeSpec := { name := "triSets", fn := fun _ => fun
  | [d1, d2, d3, d4, d5, d6] => { results := [.lit (.bool true)], args := [d1, d2, d3, d4, d5, d6] }
  | _ => none }
def triSetsRow : OpenClaim := { program := "ytfkeljolpcbbkaa", sum := "0c4e0101f2e6609fc6d98c28a62d875b45fbc12c3559076ffe4c924cb1a5c9a0", func := "astrolabe/astrolabelaw9.TriSets", spec := "triSets", inPlace := ["math/bits.Sub64", "math/bits.Add64"], apart := false }
def TriSetsSaid : Prop := triSetsRow.holds Try.pinned (OpenSpec.ofChange triSetsSpec)

/-- ITS FALSE NEIGHBOUR: 'it returns false'. Refute it at one input. -/
def triSetsWrong : ChangeSpec := { name := "triSets", fn := fun _ => fun
  | [d1, d2, d3, d4, d5, d6] => { results := [.lit (.bool false)], args := [d1, d2, d3, d4, d5, d6] }
  | _ => none }
def TriSetsWrongFalsely : Prop := triSetsRow.holds Try.pinned (OpenSpec.ofChange triSetsWrong)

/-- 'astrolabelaw10.ThorntonClose': WHATEVER THE INPUT: true; the input reads as it did. -/
def thorntonCloseSpec : ChangeSpec := { name := "thorntonClose", fn := fun _ => fun
  | [d1, d2, d3, d4, d5] => { results := [.lit (.bool true)], args := [d1, d2, d3, d4, d5] }
  | _ => none }
def thorntonCloseRow : OpenClaim := { program := "ytfkeljolpcbbkaa", sum := "0c4e0101f2e6609fc6d98c28a62d875b45fbc12c3559076ffe4c924cb1a5c9a0", func := "astrolabe/astrolabelaw10.ThorntonClose", spec := "thorntonClose", inPlace := ["math/bits.Add64", "math/bits.Sub64"], named := ["math/bits.divideError", "math/bits.overflowError"], apart := false }
def ThorntonCloseSaid : Prop := thorntonCloseRow.holds Try.pinned (OpenSpec.ofChange thorntonCloseSpec)

/-- ITS FALSE NEIGHBOUR: 'it returns false'. Refute it at one input. -/
def thorntonCloseWrong : ChangeSpec := { name := "thorntonClose", fn := fun _ => fun
  | [d1, d2, d3, d4, d5] => { results := [.lit (.bool false)], args := [d1, d2, d3, d4, d5] }
  | _ => none }
def ThorntonCloseWrongFalsely : Prop := thorntonCloseRow.holds Try.pinned (OpenSpec.ofChange thorntonCloseWrong)

/-- 'astrolabelaw11.BiermanSays': WHATEVER THE INPUT: true; the input reads as it did. -/
def biermanSaysSpec : ChangeSpec := { name := "biermanSays", fn := fun _ => fun
  | [d1, d2, d3, d4, d5] => { results := [.lit (.bool true)], args := [d1, d2, d3, d4, d5] }
  | _ => none }
def biermanSaysRow : OpenClaim := { program := "ytfkeljolpcbbkaa", sum := "0c4e0101f2e6609fc6d98c28a62d875b45fbc12c3559076ffe4c924cb1a5c9a0", func := "astrolabe/astrolabelaw11.BiermanSays", spec := "biermanSays", inPlace := ["math/bits.Add64", "math/bits.Sub64"], named := ["math/bits.divideError", "math/bits.overflowError"], apart := false }
def BiermanSaysSaid : Prop := biermanSaysRow.holds Try.pinned (OpenSpec.ofChange biermanSaysSpec)

/-- ITS FALSE NEIGHBOUR: 'it returns false'. Refute it at one input. -/
def biermanSaysWrong : ChangeSpec := { name := "biermanSays", fn := fun _ => fun
  | [d1, d2, d3, d4, d5] => { results := [.lit (.bool false)], args := [d1, d2, d3, d4, d5] }
  | _ => none }
def BiermanSaysWrongFalsely : Prop := biermanSaysRow.holds Try.pinned (OpenSpec.ofChange biermanSaysWrong)

/-- 'astrolabelaw11.BiermanClose': WHATEVER THE INPUT: true; the input reads as it did. -/
def biermanCloseSpec : ChangeSpec := { name := "biermanClose", fn := fun _ => fun
  | [d1, d2, d3, d4, d5] => { results := [.lit (.bool true)], args := [d1, d2, d3, d4, d5] }
  | _ => none }
def biermanCloseRow : OpenClaim := { program := "ytfkeljolpcbbkaa", sum := "0c4e0101f2e6609fc6d98c28a62d875b45fbc12c3559076ffe4c924cb1a5c9a0", func := "astrolabe/astrolabelaw11.BiermanClose", spec := "biermanClose", inPlace := ["math/bits.Add64", "math/bits.Sub64"], named := ["math/bits.divideError", "math/bits.overflowError"], apart := false }
def BiermanCloseSaid : Prop := biermanCloseRow.holds Try.pinned (OpenSpec.ofChange biermanCloseSpec)

/-- ITS FALSE NEIGHBOUR: 'it returns false'. Refute it at one input. -/
def biermanCloseWrong : ChangeSpec := { name := "biermanClose", fn := fun _ => fun
  | [d1, d2, d3, d4, d5] => { results := [.lit (.bool false)], args := [d1, d2, d3, d4, d5] }
  | _ => none }
def BiermanCloseWrongFalsely : Prop := biermanCloseRow.holds Try.pinned (OpenSpec.ofChange biermanCloseWrong)

/-- 'astrolabelaw12.BlockSays': WHATEVER THE INPUT: true; the input reads as it did. -/
def blockSaysSpec : ChangeSpec := { name := "blockSays", fn := fun _ => fun
  | [d1, d2, d3, d4] => { results := [.lit (.bool true)], args := [d1, d2, d3, d4] }
  | _ => none }
def blockSaysRow : OpenClaim := { program := "ytfkeljolpcbbkaa", sum := "0c4e0101f2e6609fc6d98c28a62d875b45fbc12c3559076ffe4c924cb1a5c9a0", func := "astrolabe/astrolabelaw12.BlockSays", spec := "blockSays", inPlace := ["math/bits.Add64", "math/bits.Sub64"], named := ["math/bits.divideError", "math/bits.overflowError"], apart := false }
def BlockSaysSaid : Prop := blockSaysRow.holds Try.pinned (OpenSpec.ofChange blockSaysSpec)

/-- ITS FALSE NEIGHBOUR: 'it returns false'. Refute it at one input. -/
def blockSaysWrong : ChangeSpec := { name := "blockSays", fn := fun _ => fun
  | [d1, d2, d3, d4] => { results := [.lit (.bool false)], args := [d1, d2, d3, d4] }
  | _ => none }
def BlockSaysWrongFalsely : Prop := blockSaysRow.holds Try.pinned (OpenSpec.ofChange blockSaysWrong)

/- THE SECOND FORM. 'bulk': how many values and letters a reading holds, each counted each time it is reached (what is shared counts as often as it is met; a slice's spare places count too). A statement '..UptoSaid' is the law's where the arguments, and the package variables that the reading takes, are together of bulk at most 1048576: NARROWER than '..Said'. Prove '..Said' where nothing that the law and all that it calls make is longer than what came in: it says more and counts as full. Else prove '..UptoSaid'. A law counts once. -/
mutual
def uptoBulk {H : Type} : DataW H → Nat
  | .lit (.string bytes) => bytes.length + 1
  | .lit _ => 1
  | .nil => 1
  | .ptr d => uptoBulk d + 1
  | .slice elems spare => uptoBulkAll elems + uptoBulkAll spare + 1
  | .agg parts => uptoBulkAll parts + 1
  | .iface _ d => uptoBulk d + 1
  | .map entries => uptoBulkEntries entries + 1
  | .held _ => 1
def uptoBulkAll {H : Type} : List (DataW H) → Nat
  | [] => 0
  | d :: r => uptoBulk d + uptoBulkAll r
def uptoBulkEntries {H : Type} : List (Lit × DataW H) → Nat
  | [] => 0
  | x :: r => uptoBulkEntry x + uptoBulkEntries r
def uptoBulkEntry {H : Type} : Lit × DataW H → Nat
  | (.string bytes, d) => bytes.length + uptoBulk d + 1
  | (_, d) => uptoBulk d + 1
 end
def uptoSmall : (H : Type) → List (DataW H) → Bool := fun _ ds => decide (uptoBulkAll ds ≤ 1048576)
def OpenSpec.upto (s : _root_.Go.ChangeSpec) : _root_.Go.OpenSpec := { _root_.Go.OpenSpec.ofChange s with cond := some uptoSmall }

/-- 'astrolabelaw1.WideReckons', WHERE WHAT IT READS IS OF BULK AT MOST 1048576: true; the input reads as it did. -/
def wideReckonsUptoRow : OpenClaim := { program := "ytfkeljolpcbbkaa", sum := "0c4e0101f2e6609fc6d98c28a62d875b45fbc12c3559076ffe4c924cb1a5c9a0", func := "astrolabe/astrolabelaw1.WideReckons", spec := "wideReckons", inPlace := ["math/bits.Sub64", "math/bits.Add64"], named := ["math/bits.divideError", "math/bits.overflowError"], apart := false, narrowed := true }
def WideReckonsUptoSaid : Prop := wideReckonsUptoRow.holds Try.pinned (OpenSpec.upto wideReckonsSpec)

/-- 'astrolabelaw1.WideRounds', WHERE WHAT IT READS IS OF BULK AT MOST 1048576: true; the input reads as it did. -/
def wideRoundsUptoRow : OpenClaim := { program := "ytfkeljolpcbbkaa", sum := "0c4e0101f2e6609fc6d98c28a62d875b45fbc12c3559076ffe4c924cb1a5c9a0", func := "astrolabe/astrolabelaw1.WideRounds", spec := "wideRounds", inPlace := ["math/bits.Sub64", "math/bits.Add64"], named := ["math/bits.divideError", "math/bits.overflowError"], apart := false, narrowed := true }
def WideRoundsUptoSaid : Prop := wideRoundsUptoRow.holds Try.pinned (OpenSpec.upto wideRoundsSpec)

/-- 'astrolabelaw2.FxOps', WHERE WHAT IT READS IS OF BULK AT MOST 1048576: true; the input reads as it did. -/
def fxOpsUptoRow : OpenClaim := { program := "ytfkeljolpcbbkaa", sum := "0c4e0101f2e6609fc6d98c28a62d875b45fbc12c3559076ffe4c924cb1a5c9a0", func := "astrolabe/astrolabelaw2.FxOps", spec := "fxOps", inPlace := ["math/bits.Sub64", "math/bits.Add64"], named := ["math/bits.divideError", "math/bits.overflowError"], apart := false, narrowed := true }
def FxOpsUptoSaid : Prop := fxOpsUptoRow.holds Try.pinned (OpenSpec.upto fxOpsSpec)

/-- 'astrolabelaw2.FxDots', WHERE WHAT IT READS IS OF BULK AT MOST 1048576: true; the input reads as it did. -/
def fxDotsUptoRow : OpenClaim := { program := "ytfkeljolpcbbkaa", sum := "0c4e0101f2e6609fc6d98c28a62d875b45fbc12c3559076ffe4c924cb1a5c9a0", func := "astrolabe/astrolabelaw2.FxDots", spec := "fxDots", inPlace := ["math/bits.Sub64", "math/bits.Add64"], named := ["math/bits.divideError", "math/bits.overflowError"], apart := false, narrowed := true }
def FxDotsUptoSaid : Prop := fxDotsUptoRow.holds Try.pinned (OpenSpec.upto fxDotsSpec)

/-- 'astrolabelaw4.TrigSays', WHERE WHAT IT READS IS OF BULK AT MOST 1048576: true; the input reads as it did. -/
def trigSaysUptoRow : OpenClaim := { program := "ytfkeljolpcbbkaa", sum := "0c4e0101f2e6609fc6d98c28a62d875b45fbc12c3559076ffe4c924cb1a5c9a0", func := "astrolabe/astrolabelaw4.TrigSays", spec := "trigSays", inPlace := ["math/bits.Sub64", "math/bits.Add64"], named := ["math/bits.divideError", "math/bits.overflowError"], apart := false, narrowed := true }
def TrigSaysUptoSaid : Prop := trigSaysUptoRow.holds Try.pinned (OpenSpec.upto trigSaysSpec)

/-- 'astrolabelaw5.VecSays', WHERE WHAT IT READS IS OF BULK AT MOST 1048576: true; the input reads as it did. -/
def vecSaysUptoRow : OpenClaim := { program := "ytfkeljolpcbbkaa", sum := "0c4e0101f2e6609fc6d98c28a62d875b45fbc12c3559076ffe4c924cb1a5c9a0", func := "astrolabe/astrolabelaw5.VecSays", spec := "vecSays", inPlace := ["math/bits.Add64", "math/bits.Sub64"], named := ["math/bits.divideError", "math/bits.overflowError"], apart := false, narrowed := true }
def VecSaysUptoSaid : Prop := vecSaysUptoRow.holds Try.pinned (OpenSpec.upto vecSaysSpec)

/-- 'astrolabelaw9.TriSays', WHERE WHAT IT READS IS OF BULK AT MOST 1048576: true; the input reads as it did. -/
def triSaysUptoRow : OpenClaim := { program := "ytfkeljolpcbbkaa", sum := "0c4e0101f2e6609fc6d98c28a62d875b45fbc12c3559076ffe4c924cb1a5c9a0", func := "astrolabe/astrolabelaw9.TriSays", spec := "triSays", inPlace := ["math/bits.Sub64", "math/bits.Add64"], apart := false, narrowed := true }
def TriSaysUptoSaid : Prop := triSaysUptoRow.holds Try.pinned (OpenSpec.upto triSaysSpec)

/-- 'astrolabelaw9.TriSets', WHERE WHAT IT READS IS OF BULK AT MOST 1048576: true; the input reads as it did. -/
def triSetsUptoRow : OpenClaim := { program := "ytfkeljolpcbbkaa", sum := "0c4e0101f2e6609fc6d98c28a62d875b45fbc12c3559076ffe4c924cb1a5c9a0", func := "astrolabe/astrolabelaw9.TriSets", spec := "triSets", inPlace := ["math/bits.Sub64", "math/bits.Add64"], apart := false, narrowed := true }
def TriSetsUptoSaid : Prop := triSetsUptoRow.holds Try.pinned (OpenSpec.upto triSetsSpec)

/-- 'astrolabelaw10.ThorntonClose', WHERE WHAT IT READS IS OF BULK AT MOST 1048576: true; the input reads as it did. -/
def thorntonCloseUptoRow : OpenClaim := { program := "ytfkeljolpcbbkaa", sum := "0c4e0101f2e6609fc6d98c28a62d875b45fbc12c3559076ffe4c924cb1a5c9a0", func := "astrolabe/astrolabelaw10.ThorntonClose", spec := "thorntonClose", inPlace := ["math/bits.Add64", "math/bits.Sub64"], named := ["math/bits.divideError", "math/bits.overflowError"], apart := false, narrowed := true }
def ThorntonCloseUptoSaid : Prop := thorntonCloseUptoRow.holds Try.pinned (OpenSpec.upto thorntonCloseSpec)

/-- 'astrolabelaw11.BiermanSays', WHERE WHAT IT READS IS OF BULK AT MOST 1048576: true; the input reads as it did. -/
def biermanSaysUptoRow : OpenClaim := { program := "ytfkeljolpcbbkaa", sum := "0c4e0101f2e6609fc6d98c28a62d875b45fbc12c3559076ffe4c924cb1a5c9a0", func := "astrolabe/astrolabelaw11.BiermanSays", spec := "biermanSays", inPlace := ["math/bits.Add64", "math/bits.Sub64"], named := ["math/bits.divideError", "math/bits.overflowError"], apart := false, narrowed := true }
def BiermanSaysUptoSaid : Prop := biermanSaysUptoRow.holds Try.pinned (OpenSpec.upto biermanSaysSpec)

/-- 'astrolabelaw11.BiermanClose', WHERE WHAT IT READS IS OF BULK AT MOST 1048576: true; the input reads as it did. -/
def biermanCloseUptoRow : OpenClaim := { program := "ytfkeljolpcbbkaa", sum := "0c4e0101f2e6609fc6d98c28a62d875b45fbc12c3559076ffe4c924cb1a5c9a0", func := "astrolabe/astrolabelaw11.BiermanClose", spec := "biermanClose", inPlace := ["math/bits.Add64", "math/bits.Sub64"], named := ["math/bits.divideError", "math/bits.overflowError"], apart := false, narrowed := true }
def BiermanCloseUptoSaid : Prop := biermanCloseUptoRow.holds Try.pinned (OpenSpec.upto biermanCloseSpec)

/-- 'astrolabelaw12.BlockSays', WHERE WHAT IT READS IS OF BULK AT MOST 1048576: true; the input reads as it did. -/
def blockSaysUptoRow : OpenClaim := { program := "ytfkeljolpcbbkaa", sum := "0c4e0101f2e6609fc6d98c28a62d875b45fbc12c3559076ffe4c924cb1a5c9a0", func := "astrolabe/astrolabelaw12.BlockSays", spec := "blockSays", inPlace := ["math/bits.Add64", "math/bits.Sub64"], named := ["math/bits.divideError", "math/bits.overflowError"], apart := false, narrowed := true }
def BlockSaysUptoSaid : Prop := blockSaysUptoRow.holds Try.pinned (OpenSpec.upto blockSaysSpec)

end Rows
end Go.Proofs.Ytfkeljolpcbbkaa
