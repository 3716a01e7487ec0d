/-
  No cell of these rows narrows 'for every input' (looked for: loops, veiled, ifaces, maps, wideKeys, modest, calm, conditions, laid).
  DERIVED. THE GIVEN ROWS OF THIS SEAT. 14 by the template 'for every input the law returns true; each argument reads behind the call as it read before'; 0 by the template 'total and deterministic' (their statements: YtplffehgjdinnaaTotals.lean).
  GIVEN WITH THE SEED: the statements are not yours to turn. If you find one false, say at which input.
  Laid BY PROGRAM, IN A SANDBOX (cutbox-rows.mjs): the forced cells as the released guide's own fill.sh prints them over the translation ce77abf367e44846… (all of the seat's roots in one cut). By AI agents, Wed Nov 11 2026. No macro, syntax, notation, axiom, sorry.
-/
import Derived.Test.YtplffehgjdinnaaChecked
import GoSem.Claim
import GoSem.ClaimJoined
import GoSem.ClaimMapViews
import Derived.JoinedTies
import Derived.KernelRfl
namespace Go.Proofs.Ytplffehgjdinnaa
/- THE CELL 'sum', in the pinned program and in every row, IS THE sha256 OF THE DUMP (.gsa) THAT YtplffehgjdinnaaProg.lean LOADS. Nothing in Lean hashes anything: it is a label: what it is worth is what the hold of that sum in a sandbox is worth. -/
noncomputable def Try.pinned : Pinned := { name := "ytplffehgjdinnaa", sum := "ce77abf367e4484664a29c563534aabd9940e0ddc20b4211b255d70991a248b2", checked := Try.checked }
namespace Rows
def none {H : Type} : Left H := { results := [], args := [] }

/-- 'astrolabelaw1.WideRounds': WHATEVER THE INPUT: true; the input reads as it did. -/
def wideRoundsSpec : ChangeSpec := { name := "wideRounds", fn := fun _ => fun
  | [d1, d2, d3] => { results := [.lit (.bool true)], args := [d1, d2, d3] }
  | _ => none }
def wideRoundsRow : OpenClaim := { program := "ytplffehgjdinnaa", sum := "ce77abf367e4484664a29c563534aabd9940e0ddc20b4211b255d70991a248b2", func := "astrolabe/astrolabelaw1.WideRounds", spec := "wideRounds", inPlace := ["math/bits.Sub64", "math/bits.Add64"], named := ["math/bits.divideError", "math/bits.overflowError"], apart := false }
def WideRoundsSaid : Prop := wideRoundsRow.holds Try.pinned (OpenSpec.ofChange wideRoundsSpec)

/-- ITS FALSE NEIGHBOUR: 'it returns false'. Refute it at one input. -/
def wideRoundsWrong : ChangeSpec := { name := "wideRounds", fn := fun _ => fun
  | [d1, d2, d3] => { results := [.lit (.bool false)], args := [d1, d2, d3] }
  | _ => none }
def WideRoundsWrongFalsely : Prop := wideRoundsRow.holds Try.pinned (OpenSpec.ofChange wideRoundsWrong)

/-- 'astrolabelaw2.FxOps': WHATEVER THE INPUT: true; the input reads as it did. -/
def fxOpsSpec : ChangeSpec := { name := "fxOps", fn := fun _ => fun
  | [d1, d2, d3, d4] => { results := [.lit (.bool true)], args := [d1, d2, d3, d4] }
  | _ => none }
def fxOpsRow : OpenClaim := { program := "ytplffehgjdinnaa", sum := "ce77abf367e4484664a29c563534aabd9940e0ddc20b4211b255d70991a248b2", func := "astrolabe/astrolabelaw2.FxOps", spec := "fxOps", inPlace := ["math/bits.Sub64", "math/bits.Add64"], named := ["math/bits.divideError", "math/bits.overflowError"], apart := false }
def FxOpsSaid : Prop := fxOpsRow.holds Try.pinned (OpenSpec.ofChange fxOpsSpec)

/-- ITS FALSE NEIGHBOUR: 'it returns false'. Refute it at one input. -/
def fxOpsWrong : ChangeSpec := { name := "fxOps", fn := fun _ => fun
  | [d1, d2, d3, d4] => { results := [.lit (.bool false)], args := [d1, d2, d3, d4] }
  | _ => none }
def FxOpsWrongFalsely : Prop := fxOpsRow.holds Try.pinned (OpenSpec.ofChange fxOpsWrong)

/-- 'astrolabelaw4.TrigSays': WHATEVER THE INPUT: true; the input reads as it did. -/
def trigSaysSpec : ChangeSpec := { name := "trigSays", fn := fun _ => fun
  | [d1, d2, d3] => { results := [.lit (.bool true)], args := [d1, d2, d3] }
  | _ => none }
def trigSaysRow : OpenClaim := { program := "ytplffehgjdinnaa", sum := "ce77abf367e4484664a29c563534aabd9940e0ddc20b4211b255d70991a248b2", func := "astrolabe/astrolabelaw4.TrigSays", spec := "trigSays", inPlace := ["math/bits.Sub64", "math/bits.Add64"], named := ["math/bits.divideError", "math/bits.overflowError"], apart := false }
def TrigSaysSaid : Prop := trigSaysRow.holds Try.pinned (OpenSpec.ofChange trigSaysSpec)

/-- ITS FALSE NEIGHBOUR: 'it returns false'. Refute it at one input. -/
def trigSaysWrong : ChangeSpec := { name := "trigSays", fn := fun _ => fun
  | [d1, d2, d3] => { results := [.lit (.bool false)], args := [d1, d2, d3] }
  | _ => none }
def TrigSaysWrongFalsely : Prop := trigSaysRow.holds Try.pinned (OpenSpec.ofChange trigSaysWrong)

/-- 'astrolabelaw5.VecSays': WHATEVER THE INPUT: true; the input reads as it did. -/
def vecSaysSpec : ChangeSpec := { name := "vecSays", fn := fun _ => fun
  | [d1, d2, d3] => { results := [.lit (.bool true)], args := [d1, d2, d3] }
  | _ => none }
def vecSaysRow : OpenClaim := { program := "ytplffehgjdinnaa", sum := "ce77abf367e4484664a29c563534aabd9940e0ddc20b4211b255d70991a248b2", func := "astrolabe/astrolabelaw5.VecSays", spec := "vecSays", inPlace := ["math/bits.Add64", "math/bits.Sub64"], named := ["math/bits.divideError", "math/bits.overflowError"], apart := false }
def VecSaysSaid : Prop := vecSaysRow.holds Try.pinned (OpenSpec.ofChange vecSaysSpec)

/-- ITS FALSE NEIGHBOUR: 'it returns false'. Refute it at one input. -/
def vecSaysWrong : ChangeSpec := { name := "vecSays", fn := fun _ => fun
  | [d1, d2, d3] => { results := [.lit (.bool false)], args := [d1, d2, d3] }
  | _ => none }
def VecSaysWrongFalsely : Prop := vecSaysRow.holds Try.pinned (OpenSpec.ofChange vecSaysWrong)

/-- 'astrolabelaw9.TriSays': WHATEVER THE INPUT: true; the input reads as it did. -/
def triSaysSpec : ChangeSpec := { name := "triSays", fn := fun _ => fun
  | [d1, d2, d3, d4, d5] => { results := [.lit (.bool true)], args := [d1, d2, d3, d4, d5] }
  | _ => none }
def triSaysRow : OpenClaim := { program := "ytplffehgjdinnaa", sum := "ce77abf367e4484664a29c563534aabd9940e0ddc20b4211b255d70991a248b2", func := "astrolabe/astrolabelaw9.TriSays", spec := "triSays", inPlace := ["math/bits.Sub64", "math/bits.Add64"], apart := false }
def TriSaysSaid : Prop := triSaysRow.holds Try.pinned (OpenSpec.ofChange triSaysSpec)

/-- ITS FALSE NEIGHBOUR: 'it returns false'. Refute it at one input. -/
def triSaysWrong : ChangeSpec := { name := "triSays", fn := fun _ => fun
  | [d1, d2, d3, d4, d5] => { results := [.lit (.bool false)], args := [d1, d2, d3, d4, d5] }
  | _ => none }
def TriSaysWrongFalsely : Prop := triSaysRow.holds Try.pinned (OpenSpec.ofChange triSaysWrong)

/-- 'astrolabelaw9.TriSets': WHATEVER THE INPUT: true; the input reads as it did. -/
def triSetsSpec : ChangeSpec := { name := "triSets", fn := fun _ => fun
  | [d1, d2, d3, d4, d5, d6] => { results := [.lit (.bool true)], args := [d1, d2, d3, d4, d5, d6] }
  | _ => none }
def triSetsRow : OpenClaim := { program := "ytplffehgjdinnaa", sum := "ce77abf367e4484664a29c563534aabd9940e0ddc20b4211b255d70991a248b2", func := "astrolabe/astrolabelaw9.TriSets", spec := "triSets", inPlace := ["math/bits.Sub64", "math/bits.Add64"], apart := false }
def TriSetsSaid : Prop := triSetsRow.holds Try.pinned (OpenSpec.ofChange triSetsSpec)

/-- ITS FALSE NEIGHBOUR: 'it returns false'. Refute it at one input. -/
def triSetsWrong : ChangeSpec := { name := "triSets", fn := fun _ => fun
  | [d1, d2, d3, d4, d5, d6] => { results := [.lit (.bool false)], args := [d1, d2, d3, d4, d5, d6] }
  | _ => none }
def TriSetsWrongFalsely : Prop := triSetsRow.holds Try.pinned (OpenSpec.ofChange triSetsWrong)

/-- 'astrolabelaw10.ThorntonMoves': WHATEVER THE INPUT: true; the input reads as it did. -/
def thorntonMovesSpec : ChangeSpec := { name := "thorntonMoves", fn := fun _ => fun
  | [d1, d2, d3] => { results := [.lit (.bool true)], args := [d1, d2, d3] }
  | _ => none }
def thorntonMovesRow : OpenClaim := { program := "ytplffehgjdinnaa", sum := "ce77abf367e4484664a29c563534aabd9940e0ddc20b4211b255d70991a248b2", func := "astrolabe/astrolabelaw10.ThorntonMoves", spec := "thorntonMoves", inPlace := ["math/bits.Add64", "math/bits.Sub64"], named := ["math/bits.divideError", "math/bits.overflowError"], apart := false }
def ThorntonMovesSaid : Prop := thorntonMovesRow.holds Try.pinned (OpenSpec.ofChange thorntonMovesSpec)

/-- ITS FALSE NEIGHBOUR: 'it returns false'. Refute it at one input. -/
def thorntonMovesWrong : ChangeSpec := { name := "thorntonMoves", fn := fun _ => fun
  | [d1, d2, d3] => { results := [.lit (.bool false)], args := [d1, d2, d3] }
  | _ => none }
def ThorntonMovesWrongFalsely : Prop := thorntonMovesRow.holds Try.pinned (OpenSpec.ofChange thorntonMovesWrong)

/-- 'astrolabelaw11.BiermanKnown': WHATEVER THE INPUT: true; the input reads as it did. -/
def biermanKnownSpec : ChangeSpec := { name := "biermanKnown", fn := fun _ => fun
  | [] => { results := [.lit (.bool true)], args := [] }
  | _ => none }
def biermanKnownRow : OpenClaim := { program := "ytplffehgjdinnaa", sum := "ce77abf367e4484664a29c563534aabd9940e0ddc20b4211b255d70991a248b2", func := "astrolabe/astrolabelaw11.BiermanKnown", spec := "biermanKnown", inPlace := ["math/bits.Add64", "math/bits.Sub64"], named := ["math/bits.divideError", "math/bits.overflowError"], apart := false }
def BiermanKnownSaid : Prop := biermanKnownRow.holds Try.pinned (OpenSpec.ofChange biermanKnownSpec)

/-- ITS FALSE NEIGHBOUR: 'it returns false'. Refute it at one input. -/
def biermanKnownWrong : ChangeSpec := { name := "biermanKnown", fn := fun _ => fun
  | [] => { results := [.lit (.bool false)], args := [] }
  | _ => none }
def BiermanKnownWrongFalsely : Prop := biermanKnownRow.holds Try.pinned (OpenSpec.ofChange biermanKnownWrong)

/-- 'astrolabelaw11.BiermanSays': WHATEVER THE INPUT: true; the input reads as it did. -/
def biermanSaysSpec : ChangeSpec := { name := "biermanSays", fn := fun _ => fun
  | [d1, d2, d3, d4, d5] => { results := [.lit (.bool true)], args := [d1, d2, d3, d4, d5] }
  | _ => none }
def biermanSaysRow : OpenClaim := { program := "ytplffehgjdinnaa", sum := "ce77abf367e4484664a29c563534aabd9940e0ddc20b4211b255d70991a248b2", func := "astrolabe/astrolabelaw11.BiermanSays", spec := "biermanSays", inPlace := ["math/bits.Add64", "math/bits.Sub64"], named := ["math/bits.divideError", "math/bits.overflowError"], apart := false }
def BiermanSaysSaid : Prop := biermanSaysRow.holds Try.pinned (OpenSpec.ofChange biermanSaysSpec)

/-- ITS FALSE NEIGHBOUR: 'it returns false'. Refute it at one input. -/
def biermanSaysWrong : ChangeSpec := { name := "biermanSays", fn := fun _ => fun
  | [d1, d2, d3, d4, d5] => { results := [.lit (.bool false)], args := [d1, d2, d3, d4, d5] }
  | _ => none }
def BiermanSaysWrongFalsely : Prop := biermanSaysRow.holds Try.pinned (OpenSpec.ofChange biermanSaysWrong)

/-- 'astrolabelaw11.BiermanLearns': WHATEVER THE INPUT: true; the input reads as it did. -/
def biermanLearnsSpec : ChangeSpec := { name := "biermanLearns", fn := fun _ => fun
  | [d1, d2, d3] => { results := [.lit (.bool true)], args := [d1, d2, d3] }
  | _ => none }
def biermanLearnsRow : OpenClaim := { program := "ytplffehgjdinnaa", sum := "ce77abf367e4484664a29c563534aabd9940e0ddc20b4211b255d70991a248b2", func := "astrolabe/astrolabelaw11.BiermanLearns", spec := "biermanLearns", inPlace := ["math/bits.Add64", "math/bits.Sub64"], named := ["math/bits.divideError", "math/bits.overflowError"], apart := false }
def BiermanLearnsSaid : Prop := biermanLearnsRow.holds Try.pinned (OpenSpec.ofChange biermanLearnsSpec)

/-- ITS FALSE NEIGHBOUR: 'it returns false'. Refute it at one input. -/
def biermanLearnsWrong : ChangeSpec := { name := "biermanLearns", fn := fun _ => fun
  | [d1, d2, d3] => { results := [.lit (.bool false)], args := [d1, d2, d3] }
  | _ => none }
def BiermanLearnsWrongFalsely : Prop := biermanLearnsRow.holds Try.pinned (OpenSpec.ofChange biermanLearnsWrong)

/-- 'astrolabelaw11.BiermanClose': WHATEVER THE INPUT: true; the input reads as it did. -/
def biermanCloseSpec : ChangeSpec := { name := "biermanClose", fn := fun _ => fun
  | [d1, d2, d3, d4, d5] => { results := [.lit (.bool true)], args := [d1, d2, d3, d4, d5] }
  | _ => none }
def biermanCloseRow : OpenClaim := { program := "ytplffehgjdinnaa", sum := "ce77abf367e4484664a29c563534aabd9940e0ddc20b4211b255d70991a248b2", func := "astrolabe/astrolabelaw11.BiermanClose", spec := "biermanClose", inPlace := ["math/bits.Add64", "math/bits.Sub64"], named := ["math/bits.divideError", "math/bits.overflowError"], apart := false }
def BiermanCloseSaid : Prop := biermanCloseRow.holds Try.pinned (OpenSpec.ofChange biermanCloseSpec)

/-- ITS FALSE NEIGHBOUR: 'it returns false'. Refute it at one input. -/
def biermanCloseWrong : ChangeSpec := { name := "biermanClose", fn := fun _ => fun
  | [d1, d2, d3, d4, d5] => { results := [.lit (.bool false)], args := [d1, d2, d3, d4, d5] }
  | _ => none }
def BiermanCloseWrongFalsely : Prop := biermanCloseRow.holds Try.pinned (OpenSpec.ofChange biermanCloseWrong)

/-- 'astrolabelaw11.BiermanOne': WHATEVER THE INPUT: true; the input reads as it did. -/
def biermanOneSpec : ChangeSpec := { name := "biermanOne", fn := fun _ => fun
  | [d1, d2, d3] => { results := [.lit (.bool true)], args := [d1, d2, d3] }
  | _ => none }
def biermanOneRow : OpenClaim := { program := "ytplffehgjdinnaa", sum := "ce77abf367e4484664a29c563534aabd9940e0ddc20b4211b255d70991a248b2", func := "astrolabe/astrolabelaw11.BiermanOne", spec := "biermanOne", inPlace := ["math/bits.Add64", "math/bits.Sub64"], named := ["math/bits.divideError", "math/bits.overflowError"], apart := false }
def BiermanOneSaid : Prop := biermanOneRow.holds Try.pinned (OpenSpec.ofChange biermanOneSpec)

/-- ITS FALSE NEIGHBOUR: 'it returns false'. Refute it at one input. -/
def biermanOneWrong : ChangeSpec := { name := "biermanOne", fn := fun _ => fun
  | [d1, d2, d3] => { results := [.lit (.bool false)], args := [d1, d2, d3] }
  | _ => none }
def BiermanOneWrongFalsely : Prop := biermanOneRow.holds Try.pinned (OpenSpec.ofChange biermanOneWrong)

/-- 'astrolabelaw11.BiermanNothing': WHATEVER THE INPUT: true; the input reads as it did. -/
def biermanNothingSpec : ChangeSpec := { name := "biermanNothing", fn := fun _ => fun
  | [d1, d2] => { results := [.lit (.bool true)], args := [d1, d2] }
  | _ => none }
def biermanNothingRow : OpenClaim := { program := "ytplffehgjdinnaa", sum := "ce77abf367e4484664a29c563534aabd9940e0ddc20b4211b255d70991a248b2", func := "astrolabe/astrolabelaw11.BiermanNothing", spec := "biermanNothing", inPlace := ["math/bits.Add64", "math/bits.Sub64"], named := ["math/bits.divideError", "math/bits.overflowError"], apart := false }
def BiermanNothingSaid : Prop := biermanNothingRow.holds Try.pinned (OpenSpec.ofChange biermanNothingSpec)

/-- ITS FALSE NEIGHBOUR: 'it returns false'. Refute it at one input. -/
def biermanNothingWrong : ChangeSpec := { name := "biermanNothing", fn := fun _ => fun
  | [d1, d2] => { results := [.lit (.bool false)], args := [d1, d2] }
  | _ => none }
def BiermanNothingWrongFalsely : Prop := biermanNothingRow.holds Try.pinned (OpenSpec.ofChange biermanNothingWrong)

/-- 'astrolabelaw11.BiermanSign': WHATEVER THE INPUT: true; the input reads as it did. -/
def biermanSignSpec : ChangeSpec := { name := "biermanSign", fn := fun _ => fun
  | [d1, d2, d3] => { results := [.lit (.bool true)], args := [d1, d2, d3] }
  | _ => none }
def biermanSignRow : OpenClaim := { program := "ytplffehgjdinnaa", sum := "ce77abf367e4484664a29c563534aabd9940e0ddc20b4211b255d70991a248b2", func := "astrolabe/astrolabelaw11.BiermanSign", spec := "biermanSign", inPlace := ["math/bits.Add64", "math/bits.Sub64"], named := ["math/bits.divideError", "math/bits.overflowError"], apart := false }
def BiermanSignSaid : Prop := biermanSignRow.holds Try.pinned (OpenSpec.ofChange biermanSignSpec)

/-- ITS FALSE NEIGHBOUR: 'it returns false'. Refute it at one input. -/
def biermanSignWrong : ChangeSpec := { name := "biermanSign", fn := fun _ => fun
  | [d1, d2, d3] => { results := [.lit (.bool false)], args := [d1, d2, d3] }
  | _ => none }
def BiermanSignWrongFalsely : Prop := biermanSignRow.holds Try.pinned (OpenSpec.ofChange biermanSignWrong)

/- THE SECOND FORM. 'bulk': how many values and letters a reading holds, each counted each time it is reached (what is shared counts as often as it is met; a slice's spare places count too). A statement '..UptoSaid' is the law's where the arguments, and the package variables that the reading takes, are together of bulk at most 1048576: NARROWER than '..Said'. Prove '..Said' where nothing that the law and all that it calls make is longer than what came in: it says more and counts as full. Else prove '..UptoSaid'. A law counts once. -/
mutual
def uptoBulk {H : Type} : DataW H → Nat
  | .lit (.string bytes) => bytes.length + 1
  | .lit _ => 1
  | .nil => 1
  | .ptr d => uptoBulk d + 1
  | .slice elems spare => uptoBulkAll elems + uptoBulkAll spare + 1
  | .agg parts => uptoBulkAll parts + 1
  | .iface _ d => uptoBulk d + 1
  | .map entries => uptoBulkEntries entries + 1
  | .held _ => 1
def uptoBulkAll {H : Type} : List (DataW H) → Nat
  | [] => 0
  | d :: r => uptoBulk d + uptoBulkAll r
def uptoBulkEntries {H : Type} : List (Lit × DataW H) → Nat
  | [] => 0
  | x :: r => uptoBulkEntry x + uptoBulkEntries r
def uptoBulkEntry {H : Type} : Lit × DataW H → Nat
  | (.string bytes, d) => bytes.length + uptoBulk d + 1
  | (_, d) => uptoBulk d + 1
 end
def uptoSmall : (H : Type) → List (DataW H) → Bool := fun _ ds => decide (uptoBulkAll ds ≤ 1048576)
def OpenSpec.upto (s : _root_.Go.ChangeSpec) : _root_.Go.OpenSpec := { _root_.Go.OpenSpec.ofChange s with cond := some uptoSmall }

/-- 'astrolabelaw1.WideRounds', WHERE WHAT IT READS IS OF BULK AT MOST 1048576: true; the input reads as it did. -/
def wideRoundsUptoRow : OpenClaim := { program := "ytplffehgjdinnaa", sum := "ce77abf367e4484664a29c563534aabd9940e0ddc20b4211b255d70991a248b2", func := "astrolabe/astrolabelaw1.WideRounds", spec := "wideRounds", inPlace := ["math/bits.Sub64", "math/bits.Add64"], named := ["math/bits.divideError", "math/bits.overflowError"], apart := false, narrowed := true }
def WideRoundsUptoSaid : Prop := wideRoundsUptoRow.holds Try.pinned (OpenSpec.upto wideRoundsSpec)

/-- 'astrolabelaw2.FxOps', WHERE WHAT IT READS IS OF BULK AT MOST 1048576: true; the input reads as it did. -/
def fxOpsUptoRow : OpenClaim := { program := "ytplffehgjdinnaa", sum := "ce77abf367e4484664a29c563534aabd9940e0ddc20b4211b255d70991a248b2", func := "astrolabe/astrolabelaw2.FxOps", spec := "fxOps", inPlace := ["math/bits.Sub64", "math/bits.Add64"], named := ["math/bits.divideError", "math/bits.overflowError"], apart := false, narrowed := true }
def FxOpsUptoSaid : Prop := fxOpsUptoRow.holds Try.pinned (OpenSpec.upto fxOpsSpec)

/-- 'astrolabelaw4.TrigSays', WHERE WHAT IT READS IS OF BULK AT MOST 1048576: true; the input reads as it did. -/
def trigSaysUptoRow : OpenClaim := { program := "ytplffehgjdinnaa", sum := "ce77abf367e4484664a29c563534aabd9940e0ddc20b4211b255d70991a248b2", func := "astrolabe/astrolabelaw4.TrigSays", spec := "trigSays", inPlace := ["math/bits.Sub64", "math/bits.Add64"], named := ["math/bits.divideError", "math/bits.overflowError"], apart := false, narrowed := true }
def TrigSaysUptoSaid : Prop := trigSaysUptoRow.holds Try.pinned (OpenSpec.upto trigSaysSpec)

/-- 'astrolabelaw5.VecSays', WHERE WHAT IT READS IS OF BULK AT MOST 1048576: true; the input reads as it did. -/
def vecSaysUptoRow : OpenClaim := { program := "ytplffehgjdinnaa", sum := "ce77abf367e4484664a29c563534aabd9940e0ddc20b4211b255d70991a248b2", func := "astrolabe/astrolabelaw5.VecSays", spec := "vecSays", inPlace := ["math/bits.Add64", "math/bits.Sub64"], named := ["math/bits.divideError", "math/bits.overflowError"], apart := false, narrowed := true }
def VecSaysUptoSaid : Prop := vecSaysUptoRow.holds Try.pinned (OpenSpec.upto vecSaysSpec)

/-- 'astrolabelaw9.TriSays', WHERE WHAT IT READS IS OF BULK AT MOST 1048576: true; the input reads as it did. -/
def triSaysUptoRow : OpenClaim := { program := "ytplffehgjdinnaa", sum := "ce77abf367e4484664a29c563534aabd9940e0ddc20b4211b255d70991a248b2", func := "astrolabe/astrolabelaw9.TriSays", spec := "triSays", inPlace := ["math/bits.Sub64", "math/bits.Add64"], apart := false, narrowed := true }
def TriSaysUptoSaid : Prop := triSaysUptoRow.holds Try.pinned (OpenSpec.upto triSaysSpec)

/-- 'astrolabelaw9.TriSets', WHERE WHAT IT READS IS OF BULK AT MOST 1048576: true; the input reads as it did. -/
def triSetsUptoRow : OpenClaim := { program := "ytplffehgjdinnaa", sum := "ce77abf367e4484664a29c563534aabd9940e0ddc20b4211b255d70991a248b2", func := "astrolabe/astrolabelaw9.TriSets", spec := "triSets", inPlace := ["math/bits.Sub64", "math/bits.Add64"], apart := false, narrowed := true }
def TriSetsUptoSaid : Prop := triSetsUptoRow.holds Try.pinned (OpenSpec.upto triSetsSpec)

/-- 'astrolabelaw10.ThorntonMoves', WHERE WHAT IT READS IS OF BULK AT MOST 1048576: true; the input reads as it did. -/
def thorntonMovesUptoRow : OpenClaim := { program := "ytplffehgjdinnaa", sum := "ce77abf367e4484664a29c563534aabd9940e0ddc20b4211b255d70991a248b2", func := "astrolabe/astrolabelaw10.ThorntonMoves", spec := "thorntonMoves", inPlace := ["math/bits.Add64", "math/bits.Sub64"], named := ["math/bits.divideError", "math/bits.overflowError"], apart := false, narrowed := true }
def ThorntonMovesUptoSaid : Prop := thorntonMovesUptoRow.holds Try.pinned (OpenSpec.upto thorntonMovesSpec)

/-- 'astrolabelaw11.BiermanKnown', WHERE WHAT IT READS IS OF BULK AT MOST 1048576: true; the input reads as it did. -/
def biermanKnownUptoRow : OpenClaim := { program := "ytplffehgjdinnaa", sum := "ce77abf367e4484664a29c563534aabd9940e0ddc20b4211b255d70991a248b2", func := "astrolabe/astrolabelaw11.BiermanKnown", spec := "biermanKnown", inPlace := ["math/bits.Add64", "math/bits.Sub64"], named := ["math/bits.divideError", "math/bits.overflowError"], apart := false, narrowed := true }
def BiermanKnownUptoSaid : Prop := biermanKnownUptoRow.holds Try.pinned (OpenSpec.upto biermanKnownSpec)

/-- 'astrolabelaw11.BiermanSays', WHERE WHAT IT READS IS OF BULK AT MOST 1048576: true; the input reads as it did. -/
def biermanSaysUptoRow : OpenClaim := { program := "ytplffehgjdinnaa", sum := "ce77abf367e4484664a29c563534aabd9940e0ddc20b4211b255d70991a248b2", func := "astrolabe/astrolabelaw11.BiermanSays", spec := "biermanSays", inPlace := ["math/bits.Add64", "math/bits.Sub64"], named := ["math/bits.divideError", "math/bits.overflowError"], apart := false, narrowed := true }
def BiermanSaysUptoSaid : Prop := biermanSaysUptoRow.holds Try.pinned (OpenSpec.upto biermanSaysSpec)

/-- 'astrolabelaw11.BiermanLearns', WHERE WHAT IT READS IS OF BULK AT MOST 1048576: true; the input reads as it did. -/
def biermanLearnsUptoRow : OpenClaim := { program := "ytplffehgjdinnaa", sum := "ce77abf367e4484664a29c563534aabd9940e0ddc20b4211b255d70991a248b2", func := "astrolabe/astrolabelaw11.BiermanLearns", spec := "biermanLearns", inPlace := ["math/bits.Add64", "math/bits.Sub64"], named := ["math/bits.divideError", "math/bits.overflowError"], apart := false, narrowed := true }
def BiermanLearnsUptoSaid : Prop := biermanLearnsUptoRow.holds Try.pinned (OpenSpec.upto biermanLearnsSpec)

/-- 'astrolabelaw11.BiermanClose', WHERE WHAT IT READS IS OF BULK AT MOST 1048576: true; the input reads as it did. -/
def biermanCloseUptoRow : OpenClaim := { program := "ytplffehgjdinnaa", sum := "ce77abf367e4484664a29c563534aabd9940e0ddc20b4211b255d70991a248b2", func := "astrolabe/astrolabelaw11.BiermanClose", spec := "biermanClose", inPlace := ["math/bits.Add64", "math/bits.Sub64"], named := ["math/bits.divideError", "math/bits.overflowError"], apart := false, narrowed := true }
def BiermanCloseUptoSaid : Prop := biermanCloseUptoRow.holds Try.pinned (OpenSpec.upto biermanCloseSpec)

/-- 'astrolabelaw11.BiermanOne', WHERE WHAT IT READS IS OF BULK AT MOST 1048576: true; the input reads as it did. -/
def biermanOneUptoRow : OpenClaim := { program := "ytplffehgjdinnaa", sum := "ce77abf367e4484664a29c563534aabd9940e0ddc20b4211b255d70991a248b2", func := "astrolabe/astrolabelaw11.BiermanOne", spec := "biermanOne", inPlace := ["math/bits.Add64", "math/bits.Sub64"], named := ["math/bits.divideError", "math/bits.overflowError"], apart := false, narrowed := true }
def BiermanOneUptoSaid : Prop := biermanOneUptoRow.holds Try.pinned (OpenSpec.upto biermanOneSpec)

/-- 'astrolabelaw11.BiermanNothing', WHERE WHAT IT READS IS OF BULK AT MOST 1048576: true; the input reads as it did. -/
def biermanNothingUptoRow : OpenClaim := { program := "ytplffehgjdinnaa", sum := "ce77abf367e4484664a29c563534aabd9940e0ddc20b4211b255d70991a248b2", func := "astrolabe/astrolabelaw11.BiermanNothing", spec := "biermanNothing", inPlace := ["math/bits.Add64", "math/bits.Sub64"], named := ["math/bits.divideError", "math/bits.overflowError"], apart := false, narrowed := true }
def BiermanNothingUptoSaid : Prop := biermanNothingUptoRow.holds Try.pinned (OpenSpec.upto biermanNothingSpec)

/-- 'astrolabelaw11.BiermanSign', WHERE WHAT IT READS IS OF BULK AT MOST 1048576: true; the input reads as it did. -/
def biermanSignUptoRow : OpenClaim := { program := "ytplffehgjdinnaa", sum := "ce77abf367e4484664a29c563534aabd9940e0ddc20b4211b255d70991a248b2", func := "astrolabe/astrolabelaw11.BiermanSign", spec := "biermanSign", inPlace := ["math/bits.Add64", "math/bits.Sub64"], named := ["math/bits.divideError", "math/bits.overflowError"], apart := false, narrowed := true }
def BiermanSignUptoSaid : Prop := biermanSignUptoRow.holds Try.pinned (OpenSpec.upto biermanSignSpec)

end Rows
end Go.Proofs.Ytplffehgjdinnaa
