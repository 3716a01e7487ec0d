/-
  No cell of these rows narrows 'for every input' (looked for: loops, veiled, ifaces, maps, wideKeys, modest, calm, conditions, laid).
  DERIVED. THE GIVEN ROWS OF THIS SEAT. 14 by the template 'for every input the law returns true; each argument reads behind the call as it read before'; 0 by the template 'total and deterministic' (their statements: YtfofhambacmpbaaTotals.lean).
  GIVEN WITH THE SEED: the statements are not yours to turn. If you find one false, say at which input.
  Laid BY PROGRAM, IN A SANDBOX (cutbox-rows.mjs): the forced cells as the released guide's own fill.sh prints them over the translation 01b6e8222f6f1132… (all of the seat's roots in one cut). By AI agents, Wed Nov 11 2026. No macro, syntax, notation, axiom, sorry.
-/
import Derived.Test.YtfofhambacmpbaaChecked
import GoSem.Claim
import GoSem.ClaimJoined
import GoSem.ClaimMapViews
import Derived.JoinedTies
import Derived.KernelRfl
namespace Go.Proofs.Ytfofhambacmpbaa
/- THE CELL 'sum', in the pinned program and in every row, IS THE sha256 OF THE DUMP (.gsa) THAT YtfofhambacmpbaaProg.lean LOADS. Nothing in Lean hashes anything: it is a label: what it is worth is what the hold of that sum in a sandbox is worth. -/
noncomputable def Try.pinned : Pinned := { name := "ytfofhambacmpbaa", sum := "01b6e8222f6f11328a6937b527e4f3fd81f943402a0c2829c3cf6a0ece4a47df", checked := Try.checked }
namespace Rows
def none {H : Type} : Left H := { results := [], args := [] }

/-- 'astrolabelaw1.WideKnown': WHATEVER THE INPUT: true; the input reads as it did. -/
def wideKnownSpec : ChangeSpec := { name := "wideKnown", fn := fun _ => fun
  | [] => { results := [.lit (.bool true)], args := [] }
  | _ => none }
def wideKnownRow : OpenClaim := { program := "ytfofhambacmpbaa", sum := "01b6e8222f6f11328a6937b527e4f3fd81f943402a0c2829c3cf6a0ece4a47df", func := "astrolabe/astrolabelaw1.WideKnown", spec := "wideKnown", inPlace := ["math/bits.Sub64", "math/bits.Add64"], named := ["math/bits.divideError", "math/bits.overflowError"], apart := false }
def WideKnownSaid : Prop := wideKnownRow.holds Try.pinned (OpenSpec.ofChange wideKnownSpec)

/-- ITS FALSE NEIGHBOUR: 'it returns false'. Refute it at one input. -/
def wideKnownWrong : ChangeSpec := { name := "wideKnown", fn := fun _ => fun
  | [] => { results := [.lit (.bool false)], args := [] }
  | _ => none }
def WideKnownWrongFalsely : Prop := wideKnownRow.holds Try.pinned (OpenSpec.ofChange wideKnownWrong)

/-- 'astrolabelaw1.WideReckons': WHATEVER THE INPUT: true; the input reads as it did. -/
def wideReckonsSpec : ChangeSpec := { name := "wideReckons", fn := fun _ => fun
  | [d1, d2, d3, d4] => { results := [.lit (.bool true)], args := [d1, d2, d3, d4] }
  | _ => none }
def wideReckonsRow : OpenClaim := { program := "ytfofhambacmpbaa", sum := "01b6e8222f6f11328a6937b527e4f3fd81f943402a0c2829c3cf6a0ece4a47df", func := "astrolabe/astrolabelaw1.WideReckons", spec := "wideReckons", inPlace := ["math/bits.Sub64", "math/bits.Add64"], named := ["math/bits.divideError", "math/bits.overflowError"], apart := false }
def WideReckonsSaid : Prop := wideReckonsRow.holds Try.pinned (OpenSpec.ofChange wideReckonsSpec)

/-- ITS FALSE NEIGHBOUR: 'it returns false'. Refute it at one input. -/
def wideReckonsWrong : ChangeSpec := { name := "wideReckons", fn := fun _ => fun
  | [d1, d2, d3, d4] => { results := [.lit (.bool false)], args := [d1, d2, d3, d4] }
  | _ => none }
def WideReckonsWrongFalsely : Prop := wideReckonsRow.holds Try.pinned (OpenSpec.ofChange wideReckonsWrong)

/-- 'astrolabelaw1.WideRounds': WHATEVER THE INPUT: true; the input reads as it did. -/
def wideRoundsSpec : ChangeSpec := { name := "wideRounds", fn := fun _ => fun
  | [d1, d2, d3] => { results := [.lit (.bool true)], args := [d1, d2, d3] }
  | _ => none }
def wideRoundsRow : OpenClaim := { program := "ytfofhambacmpbaa", sum := "01b6e8222f6f11328a6937b527e4f3fd81f943402a0c2829c3cf6a0ece4a47df", func := "astrolabe/astrolabelaw1.WideRounds", spec := "wideRounds", inPlace := ["math/bits.Sub64", "math/bits.Add64"], named := ["math/bits.divideError", "math/bits.overflowError"], apart := false }
def WideRoundsSaid : Prop := wideRoundsRow.holds Try.pinned (OpenSpec.ofChange wideRoundsSpec)

/-- ITS FALSE NEIGHBOUR: 'it returns false'. Refute it at one input. -/
def wideRoundsWrong : ChangeSpec := { name := "wideRounds", fn := fun _ => fun
  | [d1, d2, d3] => { results := [.lit (.bool false)], args := [d1, d2, d3] }
  | _ => none }
def WideRoundsWrongFalsely : Prop := wideRoundsRow.holds Try.pinned (OpenSpec.ofChange wideRoundsWrong)

/-- 'astrolabelaw1.WideRoots': WHATEVER THE INPUT: true; the input reads as it did. -/
def wideRootsSpec : ChangeSpec := { name := "wideRoots", fn := fun _ => fun
  | [d] => { results := [.lit (.bool true)], args := [d] }
  | _ => none }
def wideRootsRow : OpenClaim := { program := "ytfofhambacmpbaa", sum := "01b6e8222f6f11328a6937b527e4f3fd81f943402a0c2829c3cf6a0ece4a47df", func := "astrolabe/astrolabelaw1.WideRoots", spec := "wideRoots", inPlace := ["math/bits.Sub64", "math/bits.Add64"], named := ["math/bits.divideError", "math/bits.overflowError"], apart := false }
def WideRootsSaid : Prop := wideRootsRow.holds Try.pinned (OpenSpec.ofChange wideRootsSpec)

/-- ITS FALSE NEIGHBOUR: 'it returns false'. Refute it at one input. -/
def wideRootsWrong : ChangeSpec := { name := "wideRoots", fn := fun _ => fun
  | [d] => { results := [.lit (.bool false)], args := [d] }
  | _ => none }
def WideRootsWrongFalsely : Prop := wideRootsRow.holds Try.pinned (OpenSpec.ofChange wideRootsWrong)

/-- 'astrolabelaw1.WideRing': WHATEVER THE INPUT: true; the input reads as it did. -/
def wideRingSpec : ChangeSpec := { name := "wideRing", fn := fun _ => fun
  | [d1, d2, d3, d4, d5] => { results := [.lit (.bool true)], args := [d1, d2, d3, d4, d5] }
  | _ => none }
def wideRingRow : OpenClaim := { program := "ytfofhambacmpbaa", sum := "01b6e8222f6f11328a6937b527e4f3fd81f943402a0c2829c3cf6a0ece4a47df", func := "astrolabe/astrolabelaw1.WideRing", spec := "wideRing", inPlace := ["math/bits.Sub64", "math/bits.Add64"], named := ["math/bits.divideError", "math/bits.overflowError"], apart := false }
def WideRingSaid : Prop := wideRingRow.holds Try.pinned (OpenSpec.ofChange wideRingSpec)

/-- ITS FALSE NEIGHBOUR: 'it returns false'. Refute it at one input. -/
def wideRingWrong : ChangeSpec := { name := "wideRing", fn := fun _ => fun
  | [d1, d2, d3, d4, d5] => { results := [.lit (.bool false)], args := [d1, d2, d3, d4, d5] }
  | _ => none }
def WideRingWrongFalsely : Prop := wideRingRow.holds Try.pinned (OpenSpec.ofChange wideRingWrong)

/-- 'astrolabelaw1.WideShifts': WHATEVER THE INPUT: true; the input reads as it did. -/
def wideShiftsSpec : ChangeSpec := { name := "wideShifts", fn := fun _ => fun
  | [d1, d2, d3] => { results := [.lit (.bool true)], args := [d1, d2, d3] }
  | _ => none }
def wideShiftsRow : OpenClaim := { program := "ytfofhambacmpbaa", sum := "01b6e8222f6f11328a6937b527e4f3fd81f943402a0c2829c3cf6a0ece4a47df", func := "astrolabe/astrolabelaw1.WideShifts", spec := "wideShifts", inPlace := ["math/bits.Sub64", "math/bits.Add64"], named := ["math/bits.divideError", "math/bits.overflowError"], apart := false }
def WideShiftsSaid : Prop := wideShiftsRow.holds Try.pinned (OpenSpec.ofChange wideShiftsSpec)

/-- ITS FALSE NEIGHBOUR: 'it returns false'. Refute it at one input. -/
def wideShiftsWrong : ChangeSpec := { name := "wideShifts", fn := fun _ => fun
  | [d1, d2, d3] => { results := [.lit (.bool false)], args := [d1, d2, d3] }
  | _ => none }
def WideShiftsWrongFalsely : Prop := wideShiftsRow.holds Try.pinned (OpenSpec.ofChange wideShiftsWrong)

/-- 'astrolabelaw2.FxKnown': WHATEVER THE INPUT: true; the input reads as it did. -/
def fxKnownSpec : ChangeSpec := { name := "fxKnown", fn := fun _ => fun
  | [] => { results := [.lit (.bool true)], args := [] }
  | _ => none }
def fxKnownRow : OpenClaim := { program := "ytfofhambacmpbaa", sum := "01b6e8222f6f11328a6937b527e4f3fd81f943402a0c2829c3cf6a0ece4a47df", func := "astrolabe/astrolabelaw2.FxKnown", spec := "fxKnown", inPlace := ["math/bits.Sub64", "math/bits.Add64"], named := ["math/bits.divideError", "math/bits.overflowError"], apart := false }
def FxKnownSaid : Prop := fxKnownRow.holds Try.pinned (OpenSpec.ofChange fxKnownSpec)

/-- ITS FALSE NEIGHBOUR: 'it returns false'. Refute it at one input. -/
def fxKnownWrong : ChangeSpec := { name := "fxKnown", fn := fun _ => fun
  | [] => { results := [.lit (.bool false)], args := [] }
  | _ => none }
def FxKnownWrongFalsely : Prop := fxKnownRow.holds Try.pinned (OpenSpec.ofChange fxKnownWrong)

/-- 'astrolabelaw2.FxOps': WHATEVER THE INPUT: true; the input reads as it did. -/
def fxOpsSpec : ChangeSpec := { name := "fxOps", fn := fun _ => fun
  | [d1, d2, d3, d4] => { results := [.lit (.bool true)], args := [d1, d2, d3, d4] }
  | _ => none }
def fxOpsRow : OpenClaim := { program := "ytfofhambacmpbaa", sum := "01b6e8222f6f11328a6937b527e4f3fd81f943402a0c2829c3cf6a0ece4a47df", func := "astrolabe/astrolabelaw2.FxOps", spec := "fxOps", inPlace := ["math/bits.Sub64", "math/bits.Add64"], named := ["math/bits.divideError", "math/bits.overflowError"], apart := false }
def FxOpsSaid : Prop := fxOpsRow.holds Try.pinned (OpenSpec.ofChange fxOpsSpec)

/-- ITS FALSE NEIGHBOUR: 'it returns false'. Refute it at one input. -/
def fxOpsWrong : ChangeSpec := { name := "fxOps", fn := fun _ => fun
  | [d1, d2, d3, d4] => { results := [.lit (.bool false)], args := [d1, d2, d3, d4] }
  | _ => none }
def FxOpsWrongFalsely : Prop := fxOpsRow.holds Try.pinned (OpenSpec.ofChange fxOpsWrong)

/-- 'astrolabelaw2.FxDots': WHATEVER THE INPUT: true; the input reads as it did. -/
def fxDotsSpec : ChangeSpec := { name := "fxDots", fn := fun _ => fun
  | [d1, d2, d3] => { results := [.lit (.bool true)], args := [d1, d2, d3] }
  | _ => none }
def fxDotsRow : OpenClaim := { program := "ytfofhambacmpbaa", sum := "01b6e8222f6f11328a6937b527e4f3fd81f943402a0c2829c3cf6a0ece4a47df", func := "astrolabe/astrolabelaw2.FxDots", spec := "fxDots", inPlace := ["math/bits.Sub64", "math/bits.Add64"], named := ["math/bits.divideError", "math/bits.overflowError"], apart := false }
def FxDotsSaid : Prop := fxDotsRow.holds Try.pinned (OpenSpec.ofChange fxDotsSpec)

/-- ITS FALSE NEIGHBOUR: 'it returns false'. Refute it at one input. -/
def fxDotsWrong : ChangeSpec := { name := "fxDots", fn := fun _ => fun
  | [d1, d2, d3] => { results := [.lit (.bool false)], args := [d1, d2, d3] }
  | _ => none }
def FxDotsWrongFalsely : Prop := fxDotsRow.holds Try.pinned (OpenSpec.ofChange fxDotsWrong)

/-- 'astrolabelaw2.FxFlags': WHATEVER THE INPUT: true; the input reads as it did. -/
def fxFlagsSpec : ChangeSpec := { name := "fxFlags", fn := fun _ => fun
  | [d1, d2, d3] => { results := [.lit (.bool true)], args := [d1, d2, d3] }
  | _ => none }
def fxFlagsRow : OpenClaim := { program := "ytfofhambacmpbaa", sum := "01b6e8222f6f11328a6937b527e4f3fd81f943402a0c2829c3cf6a0ece4a47df", func := "astrolabe/astrolabelaw2.FxFlags", spec := "fxFlags", inPlace := ["math/bits.Sub64", "math/bits.Add64"], named := ["math/bits.divideError", "math/bits.overflowError"], apart := false }
def FxFlagsSaid : Prop := fxFlagsRow.holds Try.pinned (OpenSpec.ofChange fxFlagsSpec)

/-- ITS FALSE NEIGHBOUR: 'it returns false'. Refute it at one input. -/
def fxFlagsWrong : ChangeSpec := { name := "fxFlags", fn := fun _ => fun
  | [d1, d2, d3] => { results := [.lit (.bool false)], args := [d1, d2, d3] }
  | _ => none }
def FxFlagsWrongFalsely : Prop := fxFlagsRow.holds Try.pinned (OpenSpec.ofChange fxFlagsWrong)

/-- 'astrolabelaw2.FxLaws': WHATEVER THE INPUT: true; the input reads as it did. -/
def fxLawsSpec : ChangeSpec := { name := "fxLaws", fn := fun _ => fun
  | [d1, d2, d3] => { results := [.lit (.bool true)], args := [d1, d2, d3] }
  | _ => none }
def fxLawsRow : OpenClaim := { program := "ytfofhambacmpbaa", sum := "01b6e8222f6f11328a6937b527e4f3fd81f943402a0c2829c3cf6a0ece4a47df", func := "astrolabe/astrolabelaw2.FxLaws", spec := "fxLaws", inPlace := ["math/bits.Sub64", "math/bits.Add64"], named := ["math/bits.divideError", "math/bits.overflowError"], apart := false }
def FxLawsSaid : Prop := fxLawsRow.holds Try.pinned (OpenSpec.ofChange fxLawsSpec)

/-- ITS FALSE NEIGHBOUR: 'it returns false'. Refute it at one input. -/
def fxLawsWrong : ChangeSpec := { name := "fxLaws", fn := fun _ => fun
  | [d1, d2, d3] => { results := [.lit (.bool false)], args := [d1, d2, d3] }
  | _ => none }
def FxLawsWrongFalsely : Prop := fxLawsRow.holds Try.pinned (OpenSpec.ofChange fxLawsWrong)

/-- 'astrolabelaw2.FxClamps': WHATEVER THE INPUT: true; the input reads as it did. -/
def fxClampsSpec : ChangeSpec := { name := "fxClamps", fn := fun _ => fun
  | [d1, d2, d3, d4] => { results := [.lit (.bool true)], args := [d1, d2, d3, d4] }
  | _ => none }
def fxClampsRow : OpenClaim := { program := "ytfofhambacmpbaa", sum := "01b6e8222f6f11328a6937b527e4f3fd81f943402a0c2829c3cf6a0ece4a47df", func := "astrolabe/astrolabelaw2.FxClamps", spec := "fxClamps", inPlace := ["math/bits.Sub64", "math/bits.Add64"], named := ["math/bits.divideError", "math/bits.overflowError"], apart := false }
def FxClampsSaid : Prop := fxClampsRow.holds Try.pinned (OpenSpec.ofChange fxClampsSpec)

/-- ITS FALSE NEIGHBOUR: 'it returns false'. Refute it at one input. -/
def fxClampsWrong : ChangeSpec := { name := "fxClamps", fn := fun _ => fun
  | [d1, d2, d3, d4] => { results := [.lit (.bool false)], args := [d1, d2, d3, d4] }
  | _ => none }
def FxClampsWrongFalsely : Prop := fxClampsRow.holds Try.pinned (OpenSpec.ofChange fxClampsWrong)

/-- 'astrolabelaw2.FxJoins': WHATEVER THE INPUT: true; the input reads as it did. -/
def fxJoinsSpec : ChangeSpec := { name := "fxJoins", fn := fun _ => fun
  | [d1, d2, d3, d4] => { results := [.lit (.bool true)], args := [d1, d2, d3, d4] }
  | _ => none }
def fxJoinsRow : OpenClaim := { program := "ytfofhambacmpbaa", sum := "01b6e8222f6f11328a6937b527e4f3fd81f943402a0c2829c3cf6a0ece4a47df", func := "astrolabe/astrolabelaw2.FxJoins", spec := "fxJoins", inPlace := ["math/bits.Sub64", "math/bits.Add64"], named := ["math/bits.divideError", "math/bits.overflowError"], apart := false }
def FxJoinsSaid : Prop := fxJoinsRow.holds Try.pinned (OpenSpec.ofChange fxJoinsSpec)

/-- ITS FALSE NEIGHBOUR: 'it returns false'. Refute it at one input. -/
def fxJoinsWrong : ChangeSpec := { name := "fxJoins", fn := fun _ => fun
  | [d1, d2, d3, d4] => { results := [.lit (.bool false)], args := [d1, d2, d3, d4] }
  | _ => none }
def FxJoinsWrongFalsely : Prop := fxJoinsRow.holds Try.pinned (OpenSpec.ofChange fxJoinsWrong)

/-- 'astrolabelaw2.FxHalves': WHATEVER THE INPUT: true; the input reads as it did. -/
def fxHalvesSpec : ChangeSpec := { name := "fxHalves", fn := fun _ => fun
  | [d1, d2] => { results := [.lit (.bool true)], args := [d1, d2] }
  | _ => none }
def fxHalvesRow : OpenClaim := { program := "ytfofhambacmpbaa", sum := "01b6e8222f6f11328a6937b527e4f3fd81f943402a0c2829c3cf6a0ece4a47df", func := "astrolabe/astrolabelaw2.FxHalves", spec := "fxHalves", inPlace := ["math/bits.Sub64", "math/bits.Add64"], named := ["math/bits.divideError", "math/bits.overflowError"], apart := false }
def FxHalvesSaid : Prop := fxHalvesRow.holds Try.pinned (OpenSpec.ofChange fxHalvesSpec)

/-- ITS FALSE NEIGHBOUR: 'it returns false'. Refute it at one input. -/
def fxHalvesWrong : ChangeSpec := { name := "fxHalves", fn := fun _ => fun
  | [d1, d2] => { results := [.lit (.bool false)], args := [d1, d2] }
  | _ => none }
def FxHalvesWrongFalsely : Prop := fxHalvesRow.holds Try.pinned (OpenSpec.ofChange fxHalvesWrong)

/- THE SECOND FORM. 'bulk': how many values and letters a reading holds, each counted each time it is reached (what is shared counts as often as it is met; a slice's spare places count too). A statement '..UptoSaid' is the law's where the arguments, and the package variables that the reading takes, are together of bulk at most 1048576: NARROWER than '..Said'. Prove '..Said' where nothing that the law and all that it calls make is longer than what came in: it says more and counts as full. Else prove '..UptoSaid'. A law counts once. -/
mutual
def uptoBulk {H : Type} : DataW H → Nat
  | .lit (.string bytes) => bytes.length + 1
  | .lit _ => 1
  | .nil => 1
  | .ptr d => uptoBulk d + 1
  | .slice elems spare => uptoBulkAll elems + uptoBulkAll spare + 1
  | .agg parts => uptoBulkAll parts + 1
  | .iface _ d => uptoBulk d + 1
  | .map entries => uptoBulkEntries entries + 1
  | .held _ => 1
def uptoBulkAll {H : Type} : List (DataW H) → Nat
  | [] => 0
  | d :: r => uptoBulk d + uptoBulkAll r
def uptoBulkEntries {H : Type} : List (Lit × DataW H) → Nat
  | [] => 0
  | x :: r => uptoBulkEntry x + uptoBulkEntries r
def uptoBulkEntry {H : Type} : Lit × DataW H → Nat
  | (.string bytes, d) => bytes.length + uptoBulk d + 1
  | (_, d) => uptoBulk d + 1
 end
def uptoSmall : (H : Type) → List (DataW H) → Bool := fun _ ds => decide (uptoBulkAll ds ≤ 1048576)
def OpenSpec.upto (s : _root_.Go.ChangeSpec) : _root_.Go.OpenSpec := { _root_.Go.OpenSpec.ofChange s with cond := some uptoSmall }

/-- 'astrolabelaw1.WideKnown', WHERE WHAT IT READS IS OF BULK AT MOST 1048576: true; the input reads as it did. -/
def wideKnownUptoRow : OpenClaim := { program := "ytfofhambacmpbaa", sum := "01b6e8222f6f11328a6937b527e4f3fd81f943402a0c2829c3cf6a0ece4a47df", func := "astrolabe/astrolabelaw1.WideKnown", spec := "wideKnown", inPlace := ["math/bits.Sub64", "math/bits.Add64"], named := ["math/bits.divideError", "math/bits.overflowError"], apart := false, narrowed := true }
def WideKnownUptoSaid : Prop := wideKnownUptoRow.holds Try.pinned (OpenSpec.upto wideKnownSpec)

/-- 'astrolabelaw1.WideReckons', WHERE WHAT IT READS IS OF BULK AT MOST 1048576: true; the input reads as it did. -/
def wideReckonsUptoRow : OpenClaim := { program := "ytfofhambacmpbaa", sum := "01b6e8222f6f11328a6937b527e4f3fd81f943402a0c2829c3cf6a0ece4a47df", func := "astrolabe/astrolabelaw1.WideReckons", spec := "wideReckons", inPlace := ["math/bits.Sub64", "math/bits.Add64"], named := ["math/bits.divideError", "math/bits.overflowError"], apart := false, narrowed := true }
def WideReckonsUptoSaid : Prop := wideReckonsUptoRow.holds Try.pinned (OpenSpec.upto wideReckonsSpec)

/-- 'astrolabelaw1.WideRounds', WHERE WHAT IT READS IS OF BULK AT MOST 1048576: true; the input reads as it did. -/
def wideRoundsUptoRow : OpenClaim := { program := "ytfofhambacmpbaa", sum := "01b6e8222f6f11328a6937b527e4f3fd81f943402a0c2829c3cf6a0ece4a47df", func := "astrolabe/astrolabelaw1.WideRounds", spec := "wideRounds", inPlace := ["math/bits.Sub64", "math/bits.Add64"], named := ["math/bits.divideError", "math/bits.overflowError"], apart := false, narrowed := true }
def WideRoundsUptoSaid : Prop := wideRoundsUptoRow.holds Try.pinned (OpenSpec.upto wideRoundsSpec)

/-- 'astrolabelaw1.WideRoots', WHERE WHAT IT READS IS OF BULK AT MOST 1048576: true; the input reads as it did. -/
def wideRootsUptoRow : OpenClaim := { program := "ytfofhambacmpbaa", sum := "01b6e8222f6f11328a6937b527e4f3fd81f943402a0c2829c3cf6a0ece4a47df", func := "astrolabe/astrolabelaw1.WideRoots", spec := "wideRoots", inPlace := ["math/bits.Sub64", "math/bits.Add64"], named := ["math/bits.divideError", "math/bits.overflowError"], apart := false, narrowed := true }
def WideRootsUptoSaid : Prop := wideRootsUptoRow.holds Try.pinned (OpenSpec.upto wideRootsSpec)

/-- 'astrolabelaw1.WideRing', WHERE WHAT IT READS IS OF BULK AT MOST 1048576: true; the input reads as it did. -/
def wideRingUptoRow : OpenClaim := { program := "ytfofhambacmpbaa", sum := "01b6e8222f6f11328a6937b527e4f3fd81f943402a0c2829c3cf6a0ece4a47df", func := "astrolabe/astrolabelaw1.WideRing", spec := "wideRing", inPlace := ["math/bits.Sub64", "math/bits.Add64"], named := ["math/bits.divideError", "math/bits.overflowError"], apart := false, narrowed := true }
def WideRingUptoSaid : Prop := wideRingUptoRow.holds Try.pinned (OpenSpec.upto wideRingSpec)

/-- 'astrolabelaw1.WideShifts', WHERE WHAT IT READS IS OF BULK AT MOST 1048576: true; the input reads as it did. -/
def wideShiftsUptoRow : OpenClaim := { program := "ytfofhambacmpbaa", sum := "01b6e8222f6f11328a6937b527e4f3fd81f943402a0c2829c3cf6a0ece4a47df", func := "astrolabe/astrolabelaw1.WideShifts", spec := "wideShifts", inPlace := ["math/bits.Sub64", "math/bits.Add64"], named := ["math/bits.divideError", "math/bits.overflowError"], apart := false, narrowed := true }
def WideShiftsUptoSaid : Prop := wideShiftsUptoRow.holds Try.pinned (OpenSpec.upto wideShiftsSpec)

/-- 'astrolabelaw2.FxKnown', WHERE WHAT IT READS IS OF BULK AT MOST 1048576: true; the input reads as it did. -/
def fxKnownUptoRow : OpenClaim := { program := "ytfofhambacmpbaa", sum := "01b6e8222f6f11328a6937b527e4f3fd81f943402a0c2829c3cf6a0ece4a47df", func := "astrolabe/astrolabelaw2.FxKnown", spec := "fxKnown", inPlace := ["math/bits.Sub64", "math/bits.Add64"], named := ["math/bits.divideError", "math/bits.overflowError"], apart := false, narrowed := true }
def FxKnownUptoSaid : Prop := fxKnownUptoRow.holds Try.pinned (OpenSpec.upto fxKnownSpec)

/-- 'astrolabelaw2.FxOps', WHERE WHAT IT READS IS OF BULK AT MOST 1048576: true; the input reads as it did. -/
def fxOpsUptoRow : OpenClaim := { program := "ytfofhambacmpbaa", sum := "01b6e8222f6f11328a6937b527e4f3fd81f943402a0c2829c3cf6a0ece4a47df", func := "astrolabe/astrolabelaw2.FxOps", spec := "fxOps", inPlace := ["math/bits.Sub64", "math/bits.Add64"], named := ["math/bits.divideError", "math/bits.overflowError"], apart := false, narrowed := true }
def FxOpsUptoSaid : Prop := fxOpsUptoRow.holds Try.pinned (OpenSpec.upto fxOpsSpec)

/-- 'astrolabelaw2.FxDots', WHERE WHAT IT READS IS OF BULK AT MOST 1048576: true; the input reads as it did. -/
def fxDotsUptoRow : OpenClaim := { program := "ytfofhambacmpbaa", sum := "01b6e8222f6f11328a6937b527e4f3fd81f943402a0c2829c3cf6a0ece4a47df", func := "astrolabe/astrolabelaw2.FxDots", spec := "fxDots", inPlace := ["math/bits.Sub64", "math/bits.Add64"], named := ["math/bits.divideError", "math/bits.overflowError"], apart := false, narrowed := true }
def FxDotsUptoSaid : Prop := fxDotsUptoRow.holds Try.pinned (OpenSpec.upto fxDotsSpec)

/-- 'astrolabelaw2.FxFlags', WHERE WHAT IT READS IS OF BULK AT MOST 1048576: true; the input reads as it did. -/
def fxFlagsUptoRow : OpenClaim := { program := "ytfofhambacmpbaa", sum := "01b6e8222f6f11328a6937b527e4f3fd81f943402a0c2829c3cf6a0ece4a47df", func := "astrolabe/astrolabelaw2.FxFlags", spec := "fxFlags", inPlace := ["math/bits.Sub64", "math/bits.Add64"], named := ["math/bits.divideError", "math/bits.overflowError"], apart := false, narrowed := true }
def FxFlagsUptoSaid : Prop := fxFlagsUptoRow.holds Try.pinned (OpenSpec.upto fxFlagsSpec)

/-- 'astrolabelaw2.FxLaws', WHERE WHAT IT READS IS OF BULK AT MOST 1048576: true; the input reads as it did. -/
def fxLawsUptoRow : OpenClaim := { program := "ytfofhambacmpbaa", sum := "01b6e8222f6f11328a6937b527e4f3fd81f943402a0c2829c3cf6a0ece4a47df", func := "astrolabe/astrolabelaw2.FxLaws", spec := "fxLaws", inPlace := ["math/bits.Sub64", "math/bits.Add64"], named := ["math/bits.divideError", "math/bits.overflowError"], apart := false, narrowed := true }
def FxLawsUptoSaid : Prop := fxLawsUptoRow.holds Try.pinned (OpenSpec.upto fxLawsSpec)

/-- 'astrolabelaw2.FxClamps', WHERE WHAT IT READS IS OF BULK AT MOST 1048576: true; the input reads as it did. -/
def fxClampsUptoRow : OpenClaim := { program := "ytfofhambacmpbaa", sum := "01b6e8222f6f11328a6937b527e4f3fd81f943402a0c2829c3cf6a0ece4a47df", func := "astrolabe/astrolabelaw2.FxClamps", spec := "fxClamps", inPlace := ["math/bits.Sub64", "math/bits.Add64"], named := ["math/bits.divideError", "math/bits.overflowError"], apart := false, narrowed := true }
def FxClampsUptoSaid : Prop := fxClampsUptoRow.holds Try.pinned (OpenSpec.upto fxClampsSpec)

/-- 'astrolabelaw2.FxJoins', WHERE WHAT IT READS IS OF BULK AT MOST 1048576: true; the input reads as it did. -/
def fxJoinsUptoRow : OpenClaim := { program := "ytfofhambacmpbaa", sum := "01b6e8222f6f11328a6937b527e4f3fd81f943402a0c2829c3cf6a0ece4a47df", func := "astrolabe/astrolabelaw2.FxJoins", spec := "fxJoins", inPlace := ["math/bits.Sub64", "math/bits.Add64"], named := ["math/bits.divideError", "math/bits.overflowError"], apart := false, narrowed := true }
def FxJoinsUptoSaid : Prop := fxJoinsUptoRow.holds Try.pinned (OpenSpec.upto fxJoinsSpec)

/-- 'astrolabelaw2.FxHalves', WHERE WHAT IT READS IS OF BULK AT MOST 1048576: true; the input reads as it did. -/
def fxHalvesUptoRow : OpenClaim := { program := "ytfofhambacmpbaa", sum := "01b6e8222f6f11328a6937b527e4f3fd81f943402a0c2829c3cf6a0ece4a47df", func := "astrolabe/astrolabelaw2.FxHalves", spec := "fxHalves", inPlace := ["math/bits.Sub64", "math/bits.Add64"], named := ["math/bits.divideError", "math/bits.overflowError"], apart := false, narrowed := true }
def FxHalvesUptoSaid : Prop := fxHalvesUptoRow.holds Try.pinned (OpenSpec.upto fxHalvesSpec)

end Rows
end Go.Proofs.Ytfofhambacmpbaa
