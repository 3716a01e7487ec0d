/-
  No cell of these rows narrows 'for every input' (looked for: loops, veiled, ifaces, maps, wideKeys, modest, calm, conditions, laid).
  DERIVED. THE GIVEN ROWS OF THIS SEAT. 12 by the template 'for every input the law returns true; each argument reads behind the call as it read before'; 0 by the template 'total and deterministic' (their statements: YtplojnnjkpeifaaTotals.lean).
  GIVEN WITH THE SEED: the statements are not yours to turn. If you find one false, say at which input.
  Laid BY PROGRAM, IN A SANDBOX (cutbox-rows.mjs): the forced cells as the released guide's own fill.sh prints them over the translation 05c72b7ab1dcd9e2… (all of the seat's roots in one cut). By AI agents, Wed Nov 11 2026. No macro, syntax, notation, axiom, sorry.
-/
import Derived.Test.YtplojnnjkpeifaaChecked
import GoSem.Claim
import GoSem.ClaimJoined
import GoSem.ClaimMapViews
import Derived.JoinedTies
import Derived.KernelRfl
namespace Go.Proofs.Ytplojnnjkpeifaa
/- THE CELL 'sum', in the pinned program and in every row, IS THE sha256 OF THE DUMP (.gsa) THAT YtplojnnjkpeifaaProg.lean LOADS. Nothing in Lean hashes anything: it is a label: what it is worth is what the hold of that sum in a sandbox is worth. -/
noncomputable def Try.pinned : Pinned := { name := "ytplojnnjkpeifaa", sum := "05c72b7ab1dcd9e20927b418923f12507451a15bb42e2b2c7c4a0b8fb929ad1a", checked := Try.checked }
namespace Rows
def none {H : Type} : Left H := { results := [], args := [] }

/-- 'astrolabelaw7.RotKnown': WHATEVER THE INPUT: true; the input reads as it did. -/
def rotKnownSpec : ChangeSpec := { name := "rotKnown", fn := fun _ => fun
  | [] => { results := [.lit (.bool true)], args := [] }
  | _ => none }
def rotKnownRow : OpenClaim := { program := "ytplojnnjkpeifaa", sum := "05c72b7ab1dcd9e20927b418923f12507451a15bb42e2b2c7c4a0b8fb929ad1a", func := "astrolabe/astrolabelaw7.RotKnown", spec := "rotKnown", inPlace := ["math/bits.Add64", "math/bits.Sub64"], named := ["math/bits.divideError", "math/bits.overflowError"], apart := false }
def RotKnownSaid : Prop := rotKnownRow.holds Try.pinned (OpenSpec.ofChange rotKnownSpec)

/-- ITS FALSE NEIGHBOUR: 'it returns false'. Refute it at one input. -/
def rotKnownWrong : ChangeSpec := { name := "rotKnown", fn := fun _ => fun
  | [] => { results := [.lit (.bool false)], args := [] }
  | _ => none }
def RotKnownWrongFalsely : Prop := rotKnownRow.holds Try.pinned (OpenSpec.ofChange rotKnownWrong)

/-- 'astrolabelaw7.RotSays': WHATEVER THE INPUT: true; the input reads as it did. -/
def rotSaysSpec : ChangeSpec := { name := "rotSays", fn := fun _ => fun
  | [d1, d2, d3] => { results := [.lit (.bool true)], args := [d1, d2, d3] }
  | _ => none }
def rotSaysRow : OpenClaim := { program := "ytplojnnjkpeifaa", sum := "05c72b7ab1dcd9e20927b418923f12507451a15bb42e2b2c7c4a0b8fb929ad1a", func := "astrolabe/astrolabelaw7.RotSays", spec := "rotSays", inPlace := ["math/bits.Add64", "math/bits.Sub64"], named := ["math/bits.divideError", "math/bits.overflowError"], apart := false }
def RotSaysSaid : Prop := rotSaysRow.holds Try.pinned (OpenSpec.ofChange rotSaysSpec)

/-- ITS FALSE NEIGHBOUR: 'it returns false'. Refute it at one input. -/
def rotSaysWrong : ChangeSpec := { name := "rotSays", fn := fun _ => fun
  | [d1, d2, d3] => { results := [.lit (.bool false)], args := [d1, d2, d3] }
  | _ => none }
def RotSaysWrongFalsely : Prop := rotSaysRow.holds Try.pinned (OpenSpec.ofChange rotSaysWrong)

/-- 'astrolabelaw7.RotTurns': WHATEVER THE INPUT: true; the input reads as it did. -/
def rotTurnsSpec : ChangeSpec := { name := "rotTurns", fn := fun _ => fun
  | [d1, d2, d3] => { results := [.lit (.bool true)], args := [d1, d2, d3] }
  | _ => none }
def rotTurnsRow : OpenClaim := { program := "ytplojnnjkpeifaa", sum := "05c72b7ab1dcd9e20927b418923f12507451a15bb42e2b2c7c4a0b8fb929ad1a", func := "astrolabe/astrolabelaw7.RotTurns", spec := "rotTurns", inPlace := ["math/bits.Add64", "math/bits.Sub64"], named := ["math/bits.divideError", "math/bits.overflowError"], apart := false }
def RotTurnsSaid : Prop := rotTurnsRow.holds Try.pinned (OpenSpec.ofChange rotTurnsSpec)

/-- ITS FALSE NEIGHBOUR: 'it returns false'. Refute it at one input. -/
def rotTurnsWrong : ChangeSpec := { name := "rotTurns", fn := fun _ => fun
  | [d1, d2, d3] => { results := [.lit (.bool false)], args := [d1, d2, d3] }
  | _ => none }
def RotTurnsWrongFalsely : Prop := rotTurnsRow.holds Try.pinned (OpenSpec.ofChange rotTurnsWrong)

/-- 'astrolabelaw7.RotYaws': WHATEVER THE INPUT: true; the input reads as it did. -/
def rotYawsSpec : ChangeSpec := { name := "rotYaws", fn := fun _ => fun
  | [d] => { results := [.lit (.bool true)], args := [d] }
  | _ => none }
def rotYawsRow : OpenClaim := { program := "ytplojnnjkpeifaa", sum := "05c72b7ab1dcd9e20927b418923f12507451a15bb42e2b2c7c4a0b8fb929ad1a", func := "astrolabe/astrolabelaw7.RotYaws", spec := "rotYaws", inPlace := ["math/bits.Add64", "math/bits.Sub64"], named := ["math/bits.divideError", "math/bits.overflowError"], apart := false }
def RotYawsSaid : Prop := rotYawsRow.holds Try.pinned (OpenSpec.ofChange rotYawsSpec)

/-- ITS FALSE NEIGHBOUR: 'it returns false'. Refute it at one input. -/
def rotYawsWrong : ChangeSpec := { name := "rotYaws", fn := fun _ => fun
  | [d] => { results := [.lit (.bool false)], args := [d] }
  | _ => none }
def RotYawsWrongFalsely : Prop := rotYawsRow.holds Try.pinned (OpenSpec.ofChange rotYawsWrong)

/-- 'astrolabelaw7.RotTilts': WHATEVER THE INPUT: true; the input reads as it did. -/
def rotTiltsSpec : ChangeSpec := { name := "rotTilts", fn := fun _ => fun
  | [d] => { results := [.lit (.bool true)], args := [d] }
  | _ => none }
def rotTiltsRow : OpenClaim := { program := "ytplojnnjkpeifaa", sum := "05c72b7ab1dcd9e20927b418923f12507451a15bb42e2b2c7c4a0b8fb929ad1a", func := "astrolabe/astrolabelaw7.RotTilts", spec := "rotTilts", inPlace := ["math/bits.Add64", "math/bits.Sub64"], named := ["math/bits.divideError", "math/bits.overflowError"], apart := false }
def RotTiltsSaid : Prop := rotTiltsRow.holds Try.pinned (OpenSpec.ofChange rotTiltsSpec)

/-- ITS FALSE NEIGHBOUR: 'it returns false'. Refute it at one input. -/
def rotTiltsWrong : ChangeSpec := { name := "rotTilts", fn := fun _ => fun
  | [d] => { results := [.lit (.bool false)], args := [d] }
  | _ => none }
def RotTiltsWrongFalsely : Prop := rotTiltsRow.holds Try.pinned (OpenSpec.ofChange rotTiltsWrong)

/-- 'astrolabelaw7.RotSquares': WHATEVER THE INPUT: true; the input reads as it did. -/
def rotSquaresSpec : ChangeSpec := { name := "rotSquares", fn := fun _ => fun
  | [d] => { results := [.lit (.bool true)], args := [d] }
  | _ => none }
def rotSquaresRow : OpenClaim := { program := "ytplojnnjkpeifaa", sum := "05c72b7ab1dcd9e20927b418923f12507451a15bb42e2b2c7c4a0b8fb929ad1a", func := "astrolabe/astrolabelaw7.RotSquares", spec := "rotSquares", inPlace := ["math/bits.Add64", "math/bits.Sub64"], named := ["math/bits.divideError", "math/bits.overflowError"], apart := false }
def RotSquaresSaid : Prop := rotSquaresRow.holds Try.pinned (OpenSpec.ofChange rotSquaresSpec)

/-- ITS FALSE NEIGHBOUR: 'it returns false'. Refute it at one input. -/
def rotSquaresWrong : ChangeSpec := { name := "rotSquares", fn := fun _ => fun
  | [d] => { results := [.lit (.bool false)], args := [d] }
  | _ => none }
def RotSquaresWrongFalsely : Prop := rotSquaresRow.holds Try.pinned (OpenSpec.ofChange rotSquaresWrong)

/-- 'astrolabelaw7.RotSmall': WHATEVER THE INPUT: true; the input reads as it did. -/
def rotSmallSpec : ChangeSpec := { name := "rotSmall", fn := fun _ => fun
  | [d1, d2] => { results := [.lit (.bool true)], args := [d1, d2] }
  | _ => none }
def rotSmallRow : OpenClaim := { program := "ytplojnnjkpeifaa", sum := "05c72b7ab1dcd9e20927b418923f12507451a15bb42e2b2c7c4a0b8fb929ad1a", func := "astrolabe/astrolabelaw7.RotSmall", spec := "rotSmall", inPlace := ["math/bits.Add64", "math/bits.Sub64"], named := ["math/bits.divideError", "math/bits.overflowError"], apart := false }
def RotSmallSaid : Prop := rotSmallRow.holds Try.pinned (OpenSpec.ofChange rotSmallSpec)

/-- ITS FALSE NEIGHBOUR: 'it returns false'. Refute it at one input. -/
def rotSmallWrong : ChangeSpec := { name := "rotSmall", fn := fun _ => fun
  | [d1, d2] => { results := [.lit (.bool false)], args := [d1, d2] }
  | _ => none }
def RotSmallWrongFalsely : Prop := rotSmallRow.holds Try.pinned (OpenSpec.ofChange rotSmallWrong)

/-- 'astrolabelaw7.RotTwice': WHATEVER THE INPUT: true; the input reads as it did. -/
def rotTwiceSpec : ChangeSpec := { name := "rotTwice", fn := fun _ => fun
  | [d] => { results := [.lit (.bool true)], args := [d] }
  | _ => none }
def rotTwiceRow : OpenClaim := { program := "ytplojnnjkpeifaa", sum := "05c72b7ab1dcd9e20927b418923f12507451a15bb42e2b2c7c4a0b8fb929ad1a", func := "astrolabe/astrolabelaw7.RotTwice", spec := "rotTwice", inPlace := ["math/bits.Add64", "math/bits.Sub64"], named := ["math/bits.divideError", "math/bits.overflowError"], apart := false }
def RotTwiceSaid : Prop := rotTwiceRow.holds Try.pinned (OpenSpec.ofChange rotTwiceSpec)

/-- ITS FALSE NEIGHBOUR: 'it returns false'. Refute it at one input. -/
def rotTwiceWrong : ChangeSpec := { name := "rotTwice", fn := fun _ => fun
  | [d] => { results := [.lit (.bool false)], args := [d] }
  | _ => none }
def RotTwiceWrongFalsely : Prop := rotTwiceRow.holds Try.pinned (OpenSpec.ofChange rotTwiceWrong)

/-- 'astrolabelaw2.FxOps': WHATEVER THE INPUT: true; the input reads as it did. -/
def fxOpsSpec : ChangeSpec := { name := "fxOps", fn := fun _ => fun
  | [d1, d2, d3, d4] => { results := [.lit (.bool true)], args := [d1, d2, d3, d4] }
  | _ => none }
def fxOpsRow : OpenClaim := { program := "ytplojnnjkpeifaa", sum := "05c72b7ab1dcd9e20927b418923f12507451a15bb42e2b2c7c4a0b8fb929ad1a", func := "astrolabe/astrolabelaw2.FxOps", spec := "fxOps", inPlace := ["math/bits.Sub64", "math/bits.Add64"], named := ["math/bits.divideError", "math/bits.overflowError"], apart := false }
def FxOpsSaid : Prop := fxOpsRow.holds Try.pinned (OpenSpec.ofChange fxOpsSpec)

/-- ITS FALSE NEIGHBOUR: 'it returns false'. Refute it at one input. -/
def fxOpsWrong : ChangeSpec := { name := "fxOps", fn := fun _ => fun
  | [d1, d2, d3, d4] => { results := [.lit (.bool false)], args := [d1, d2, d3, d4] }
  | _ => none }
def FxOpsWrongFalsely : Prop := fxOpsRow.holds Try.pinned (OpenSpec.ofChange fxOpsWrong)

/-- 'astrolabelaw1.WideRounds': WHATEVER THE INPUT: true; the input reads as it did. -/
def wideRoundsSpec : ChangeSpec := { name := "wideRounds", fn := fun _ => fun
  | [d1, d2, d3] => { results := [.lit (.bool true)], args := [d1, d2, d3] }
  | _ => none }
def wideRoundsRow : OpenClaim := { program := "ytplojnnjkpeifaa", sum := "05c72b7ab1dcd9e20927b418923f12507451a15bb42e2b2c7c4a0b8fb929ad1a", func := "astrolabe/astrolabelaw1.WideRounds", spec := "wideRounds", inPlace := ["math/bits.Sub64", "math/bits.Add64"], named := ["math/bits.divideError", "math/bits.overflowError"], apart := false }
def WideRoundsSaid : Prop := wideRoundsRow.holds Try.pinned (OpenSpec.ofChange wideRoundsSpec)

/-- ITS FALSE NEIGHBOUR: 'it returns false'. Refute it at one input. -/
def wideRoundsWrong : ChangeSpec := { name := "wideRounds", fn := fun _ => fun
  | [d1, d2, d3] => { results := [.lit (.bool false)], args := [d1, d2, d3] }
  | _ => none }
def WideRoundsWrongFalsely : Prop := wideRoundsRow.holds Try.pinned (OpenSpec.ofChange wideRoundsWrong)

/-- 'astrolabelaw4.TrigSays': WHATEVER THE INPUT: true; the input reads as it did. -/
def trigSaysSpec : ChangeSpec := { name := "trigSays", fn := fun _ => fun
  | [d1, d2, d3] => { results := [.lit (.bool true)], args := [d1, d2, d3] }
  | _ => none }
def trigSaysRow : OpenClaim := { program := "ytplojnnjkpeifaa", sum := "05c72b7ab1dcd9e20927b418923f12507451a15bb42e2b2c7c4a0b8fb929ad1a", func := "astrolabe/astrolabelaw4.TrigSays", spec := "trigSays", inPlace := ["math/bits.Sub64", "math/bits.Add64"], named := ["math/bits.divideError", "math/bits.overflowError"], apart := false }
def TrigSaysSaid : Prop := trigSaysRow.holds Try.pinned (OpenSpec.ofChange trigSaysSpec)

/-- ITS FALSE NEIGHBOUR: 'it returns false'. Refute it at one input. -/
def trigSaysWrong : ChangeSpec := { name := "trigSays", fn := fun _ => fun
  | [d1, d2, d3] => { results := [.lit (.bool false)], args := [d1, d2, d3] }
  | _ => none }
def TrigSaysWrongFalsely : Prop := trigSaysRow.holds Try.pinned (OpenSpec.ofChange trigSaysWrong)

/-- 'astrolabelaw6.QuatUnits': WHATEVER THE INPUT: true; the input reads as it did. -/
def quatUnitsSpec : ChangeSpec := { name := "quatUnits", fn := fun _ => fun
  | [d1, d2] => { results := [.lit (.bool true)], args := [d1, d2] }
  | _ => none }
def quatUnitsRow : OpenClaim := { program := "ytplojnnjkpeifaa", sum := "05c72b7ab1dcd9e20927b418923f12507451a15bb42e2b2c7c4a0b8fb929ad1a", func := "astrolabe/astrolabelaw6.QuatUnits", spec := "quatUnits", inPlace := ["math/bits.Add64", "math/bits.Sub64"], named := ["math/bits.divideError", "math/bits.overflowError"], apart := false }
def QuatUnitsSaid : Prop := quatUnitsRow.holds Try.pinned (OpenSpec.ofChange quatUnitsSpec)

/-- ITS FALSE NEIGHBOUR: 'it returns false'. Refute it at one input. -/
def quatUnitsWrong : ChangeSpec := { name := "quatUnits", fn := fun _ => fun
  | [d1, d2] => { results := [.lit (.bool false)], args := [d1, d2] }
  | _ => none }
def QuatUnitsWrongFalsely : Prop := quatUnitsRow.holds Try.pinned (OpenSpec.ofChange quatUnitsWrong)

/- THE SECOND FORM. 'bulk': how many values and letters a reading holds, each counted each time it is reached (what is shared counts as often as it is met; a slice's spare places count too). A statement '..UptoSaid' is the law's where the arguments, and the package variables that the reading takes, are together of bulk at most 1048576: NARROWER than '..Said'. Prove '..Said' where nothing that the law and all that it calls make is longer than what came in: it says more and counts as full. Else prove '..UptoSaid'. A law counts once. -/
mutual
def uptoBulk {H : Type} : DataW H → Nat
  | .lit (.string bytes) => bytes.length + 1
  | .lit _ => 1
  | .nil => 1
  | .ptr d => uptoBulk d + 1
  | .slice elems spare => uptoBulkAll elems + uptoBulkAll spare + 1
  | .agg parts => uptoBulkAll parts + 1
  | .iface _ d => uptoBulk d + 1
  | .map entries => uptoBulkEntries entries + 1
  | .held _ => 1
def uptoBulkAll {H : Type} : List (DataW H) → Nat
  | [] => 0
  | d :: r => uptoBulk d + uptoBulkAll r
def uptoBulkEntries {H : Type} : List (Lit × DataW H) → Nat
  | [] => 0
  | x :: r => uptoBulkEntry x + uptoBulkEntries r
def uptoBulkEntry {H : Type} : Lit × DataW H → Nat
  | (.string bytes, d) => bytes.length + uptoBulk d + 1
  | (_, d) => uptoBulk d + 1
 end
def uptoSmall : (H : Type) → List (DataW H) → Bool := fun _ ds => decide (uptoBulkAll ds ≤ 1048576)
def OpenSpec.upto (s : _root_.Go.ChangeSpec) : _root_.Go.OpenSpec := { _root_.Go.OpenSpec.ofChange s with cond := some uptoSmall }

/-- 'astrolabelaw7.RotKnown', WHERE WHAT IT READS IS OF BULK AT MOST 1048576: true; the input reads as it did. -/
def rotKnownUptoRow : OpenClaim := { program := "ytplojnnjkpeifaa", sum := "05c72b7ab1dcd9e20927b418923f12507451a15bb42e2b2c7c4a0b8fb929ad1a", func := "astrolabe/astrolabelaw7.RotKnown", spec := "rotKnown", inPlace := ["math/bits.Add64", "math/bits.Sub64"], named := ["math/bits.divideError", "math/bits.overflowError"], apart := false, narrowed := true }
def RotKnownUptoSaid : Prop := rotKnownUptoRow.holds Try.pinned (OpenSpec.upto rotKnownSpec)

/-- 'astrolabelaw7.RotSays', WHERE WHAT IT READS IS OF BULK AT MOST 1048576: true; the input reads as it did. -/
def rotSaysUptoRow : OpenClaim := { program := "ytplojnnjkpeifaa", sum := "05c72b7ab1dcd9e20927b418923f12507451a15bb42e2b2c7c4a0b8fb929ad1a", func := "astrolabe/astrolabelaw7.RotSays", spec := "rotSays", inPlace := ["math/bits.Add64", "math/bits.Sub64"], named := ["math/bits.divideError", "math/bits.overflowError"], apart := false, narrowed := true }
def RotSaysUptoSaid : Prop := rotSaysUptoRow.holds Try.pinned (OpenSpec.upto rotSaysSpec)

/-- 'astrolabelaw7.RotTurns', WHERE WHAT IT READS IS OF BULK AT MOST 1048576: true; the input reads as it did. -/
def rotTurnsUptoRow : OpenClaim := { program := "ytplojnnjkpeifaa", sum := "05c72b7ab1dcd9e20927b418923f12507451a15bb42e2b2c7c4a0b8fb929ad1a", func := "astrolabe/astrolabelaw7.RotTurns", spec := "rotTurns", inPlace := ["math/bits.Add64", "math/bits.Sub64"], named := ["math/bits.divideError", "math/bits.overflowError"], apart := false, narrowed := true }
def RotTurnsUptoSaid : Prop := rotTurnsUptoRow.holds Try.pinned (OpenSpec.upto rotTurnsSpec)

/-- 'astrolabelaw7.RotYaws', WHERE WHAT IT READS IS OF BULK AT MOST 1048576: true; the input reads as it did. -/
def rotYawsUptoRow : OpenClaim := { program := "ytplojnnjkpeifaa", sum := "05c72b7ab1dcd9e20927b418923f12507451a15bb42e2b2c7c4a0b8fb929ad1a", func := "astrolabe/astrolabelaw7.RotYaws", spec := "rotYaws", inPlace := ["math/bits.Add64", "math/bits.Sub64"], named := ["math/bits.divideError", "math/bits.overflowError"], apart := false, narrowed := true }
def RotYawsUptoSaid : Prop := rotYawsUptoRow.holds Try.pinned (OpenSpec.upto rotYawsSpec)

/-- 'astrolabelaw7.RotTilts', WHERE WHAT IT READS IS OF BULK AT MOST 1048576: true; the input reads as it did. -/
def rotTiltsUptoRow : OpenClaim := { program := "ytplojnnjkpeifaa", sum := "05c72b7ab1dcd9e20927b418923f12507451a15bb42e2b2c7c4a0b8fb929ad1a", func := "astrolabe/astrolabelaw7.RotTilts", spec := "rotTilts", inPlace := ["math/bits.Add64", "math/bits.Sub64"], named := ["math/bits.divideError", "math/bits.overflowError"], apart := false, narrowed := true }
def RotTiltsUptoSaid : Prop := rotTiltsUptoRow.holds Try.pinned (OpenSpec.upto rotTiltsSpec)

/-- 'astrolabelaw7.RotSquares', WHERE WHAT IT READS IS OF BULK AT MOST 1048576: true; the input reads as it did. -/
def rotSquaresUptoRow : OpenClaim := { program := "ytplojnnjkpeifaa", sum := "05c72b7ab1dcd9e20927b418923f12507451a15bb42e2b2c7c4a0b8fb929ad1a", func := "astrolabe/astrolabelaw7.RotSquares", spec := "rotSquares", inPlace := ["math/bits.Add64", "math/bits.Sub64"], named := ["math/bits.divideError", "math/bits.overflowError"], apart := false, narrowed := true }
def RotSquaresUptoSaid : Prop := rotSquaresUptoRow.holds Try.pinned (OpenSpec.upto rotSquaresSpec)

/-- 'astrolabelaw7.RotSmall', WHERE WHAT IT READS IS OF BULK AT MOST 1048576: true; the input reads as it did. -/
def rotSmallUptoRow : OpenClaim := { program := "ytplojnnjkpeifaa", sum := "05c72b7ab1dcd9e20927b418923f12507451a15bb42e2b2c7c4a0b8fb929ad1a", func := "astrolabe/astrolabelaw7.RotSmall", spec := "rotSmall", inPlace := ["math/bits.Add64", "math/bits.Sub64"], named := ["math/bits.divideError", "math/bits.overflowError"], apart := false, narrowed := true }
def RotSmallUptoSaid : Prop := rotSmallUptoRow.holds Try.pinned (OpenSpec.upto rotSmallSpec)

/-- 'astrolabelaw7.RotTwice', WHERE WHAT IT READS IS OF BULK AT MOST 1048576: true; the input reads as it did. -/
def rotTwiceUptoRow : OpenClaim := { program := "ytplojnnjkpeifaa", sum := "05c72b7ab1dcd9e20927b418923f12507451a15bb42e2b2c7c4a0b8fb929ad1a", func := "astrolabe/astrolabelaw7.RotTwice", spec := "rotTwice", inPlace := ["math/bits.Add64", "math/bits.Sub64"], named := ["math/bits.divideError", "math/bits.overflowError"], apart := false, narrowed := true }
def RotTwiceUptoSaid : Prop := rotTwiceUptoRow.holds Try.pinned (OpenSpec.upto rotTwiceSpec)

/-- 'astrolabelaw2.FxOps', WHERE WHAT IT READS IS OF BULK AT MOST 1048576: true; the input reads as it did. -/
def fxOpsUptoRow : OpenClaim := { program := "ytplojnnjkpeifaa", sum := "05c72b7ab1dcd9e20927b418923f12507451a15bb42e2b2c7c4a0b8fb929ad1a", func := "astrolabe/astrolabelaw2.FxOps", spec := "fxOps", inPlace := ["math/bits.Sub64", "math/bits.Add64"], named := ["math/bits.divideError", "math/bits.overflowError"], apart := false, narrowed := true }
def FxOpsUptoSaid : Prop := fxOpsUptoRow.holds Try.pinned (OpenSpec.upto fxOpsSpec)

/-- 'astrolabelaw1.WideRounds', WHERE WHAT IT READS IS OF BULK AT MOST 1048576: true; the input reads as it did. -/
def wideRoundsUptoRow : OpenClaim := { program := "ytplojnnjkpeifaa", sum := "05c72b7ab1dcd9e20927b418923f12507451a15bb42e2b2c7c4a0b8fb929ad1a", func := "astrolabe/astrolabelaw1.WideRounds", spec := "wideRounds", inPlace := ["math/bits.Sub64", "math/bits.Add64"], named := ["math/bits.divideError", "math/bits.overflowError"], apart := false, narrowed := true }
def WideRoundsUptoSaid : Prop := wideRoundsUptoRow.holds Try.pinned (OpenSpec.upto wideRoundsSpec)

/-- 'astrolabelaw4.TrigSays', WHERE WHAT IT READS IS OF BULK AT MOST 1048576: true; the input reads as it did. -/
def trigSaysUptoRow : OpenClaim := { program := "ytplojnnjkpeifaa", sum := "05c72b7ab1dcd9e20927b418923f12507451a15bb42e2b2c7c4a0b8fb929ad1a", func := "astrolabe/astrolabelaw4.TrigSays", spec := "trigSays", inPlace := ["math/bits.Sub64", "math/bits.Add64"], named := ["math/bits.divideError", "math/bits.overflowError"], apart := false, narrowed := true }
def TrigSaysUptoSaid : Prop := trigSaysUptoRow.holds Try.pinned (OpenSpec.upto trigSaysSpec)

/-- 'astrolabelaw6.QuatUnits', WHERE WHAT IT READS IS OF BULK AT MOST 1048576: true; the input reads as it did. -/
def quatUnitsUptoRow : OpenClaim := { program := "ytplojnnjkpeifaa", sum := "05c72b7ab1dcd9e20927b418923f12507451a15bb42e2b2c7c4a0b8fb929ad1a", func := "astrolabe/astrolabelaw6.QuatUnits", spec := "quatUnits", inPlace := ["math/bits.Add64", "math/bits.Sub64"], named := ["math/bits.divideError", "math/bits.overflowError"], apart := false, narrowed := true }
def QuatUnitsUptoSaid : Prop := quatUnitsUptoRow.holds Try.pinned (OpenSpec.upto quatUnitsSpec)

end Rows
end Go.Proofs.Ytplojnnjkpeifaa
