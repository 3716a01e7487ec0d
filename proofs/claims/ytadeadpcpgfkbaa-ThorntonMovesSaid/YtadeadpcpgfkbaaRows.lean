/-
  No cell of these rows narrows 'for every input' (looked for: loops, veiled, ifaces, maps, wideKeys, modest, calm, conditions, laid).
  DERIVED. THE GIVEN ROWS OF THIS SEAT. 14 by the template 'for every input the law returns true; each argument reads behind the call as it read before'; 0 by the template 'total and deterministic' (their statements: YtadeadpcpgfkbaaTotals.lean).
  GIVEN WITH THE SEED: the statements are not yours to turn. If you find one false, say at which input.
  Laid BY PROGRAM, IN A SANDBOX (cutbox-rows.mjs): the forced cells as the released guide's own fill.sh prints them over the translation 51e1da4e60f50b47… (all of the seat's roots in one cut). By AI agents, Wed Nov 11 2026. No macro, syntax, notation, axiom, sorry.
-/
import Derived.Test.YtadeadpcpgfkbaaChecked
import GoSem.Claim
import GoSem.ClaimJoined
import GoSem.ClaimMapViews
import Derived.JoinedTies
import Derived.KernelRfl
namespace Go.Proofs.Ytadeadpcpgfkbaa
/- THE CELL 'sum', in the pinned program and in every row, IS THE sha256 OF THE DUMP (.gsa) THAT YtadeadpcpgfkbaaProg.lean LOADS. Nothing in Lean hashes anything: it is a label: what it is worth is what the hold of that sum in a sandbox is worth. -/
noncomputable def Try.pinned : Pinned := { name := "ytadeadpcpgfkbaa", sum := "51e1da4e60f50b47953cdb2c67bb6c70ff943612fc5da4a823d0b0fd2ba76102", checked := Try.checked }
namespace Rows
def none {H : Type} : Left H := { results := [], args := [] }

/-- 'astrolabelaw12.BlockKnown': WHATEVER THE INPUT: true; the input reads as it did. -/
def blockKnownSpec : ChangeSpec := { name := "blockKnown", fn := fun _ => fun
  | [] => { results := [.lit (.bool true)], args := [] }
  | _ => none }
def blockKnownRow : OpenClaim := { program := "ytadeadpcpgfkbaa", sum := "51e1da4e60f50b47953cdb2c67bb6c70ff943612fc5da4a823d0b0fd2ba76102", func := "astrolabe/astrolabelaw12.BlockKnown", spec := "blockKnown", inPlace := ["math/bits.Add64", "math/bits.Sub64"], named := ["math/bits.divideError", "math/bits.overflowError"], apart := false }
def BlockKnownSaid : Prop := blockKnownRow.holds Try.pinned (OpenSpec.ofChange blockKnownSpec)

/-- ITS FALSE NEIGHBOUR: 'it returns false'. Refute it at one input. -/
def blockKnownWrong : ChangeSpec := { name := "blockKnown", fn := fun _ => fun
  | [] => { results := [.lit (.bool false)], args := [] }
  | _ => none }
def BlockKnownWrongFalsely : Prop := blockKnownRow.holds Try.pinned (OpenSpec.ofChange blockKnownWrong)

/-- 'astrolabelaw12.BlockSays': WHATEVER THE INPUT: true; the input reads as it did. -/
def blockSaysSpec : ChangeSpec := { name := "blockSays", fn := fun _ => fun
  | [d1, d2, d3, d4] => { results := [.lit (.bool true)], args := [d1, d2, d3, d4] }
  | _ => none }
def blockSaysRow : OpenClaim := { program := "ytadeadpcpgfkbaa", sum := "51e1da4e60f50b47953cdb2c67bb6c70ff943612fc5da4a823d0b0fd2ba76102", func := "astrolabe/astrolabelaw12.BlockSays", spec := "blockSays", inPlace := ["math/bits.Add64", "math/bits.Sub64"], named := ["math/bits.divideError", "math/bits.overflowError"], apart := false }
def BlockSaysSaid : Prop := blockSaysRow.holds Try.pinned (OpenSpec.ofChange blockSaysSpec)

/-- ITS FALSE NEIGHBOUR: 'it returns false'. Refute it at one input. -/
def blockSaysWrong : ChangeSpec := { name := "blockSays", fn := fun _ => fun
  | [d1, d2, d3, d4] => { results := [.lit (.bool false)], args := [d1, d2, d3, d4] }
  | _ => none }
def BlockSaysWrongFalsely : Prop := blockSaysRow.holds Try.pinned (OpenSpec.ofChange blockSaysWrong)

/-- 'astrolabelaw12.BlockApart': WHATEVER THE INPUT: true; the input reads as it did. -/
def blockApartSpec : ChangeSpec := { name := "blockApart", fn := fun _ => fun
  | [d1, d2, d3] => { results := [.lit (.bool true)], args := [d1, d2, d3] }
  | _ => none }
def blockApartRow : OpenClaim := { program := "ytadeadpcpgfkbaa", sum := "51e1da4e60f50b47953cdb2c67bb6c70ff943612fc5da4a823d0b0fd2ba76102", func := "astrolabe/astrolabelaw12.BlockApart", spec := "blockApart", inPlace := ["math/bits.Add64", "math/bits.Sub64"], named := ["math/bits.divideError", "math/bits.overflowError"], apart := false }
def BlockApartSaid : Prop := blockApartRow.holds Try.pinned (OpenSpec.ofChange blockApartSpec)

/-- ITS FALSE NEIGHBOUR: 'it returns false'. Refute it at one input. -/
def blockApartWrong : ChangeSpec := { name := "blockApart", fn := fun _ => fun
  | [d1, d2, d3] => { results := [.lit (.bool false)], args := [d1, d2, d3] }
  | _ => none }
def BlockApartWrongFalsely : Prop := blockApartRow.holds Try.pinned (OpenSpec.ofChange blockApartWrong)

/-- 'astrolabelaw12.BlockOthers': WHATEVER THE INPUT: true; the input reads as it did. -/
def blockOthersSpec : ChangeSpec := { name := "blockOthers", fn := fun _ => fun
  | [d1, d2, d3, d4, d5] => { results := [.lit (.bool true)], args := [d1, d2, d3, d4, d5] }
  | _ => none }
def blockOthersRow : OpenClaim := { program := "ytadeadpcpgfkbaa", sum := "51e1da4e60f50b47953cdb2c67bb6c70ff943612fc5da4a823d0b0fd2ba76102", func := "astrolabe/astrolabelaw12.BlockOthers", spec := "blockOthers", inPlace := ["math/bits.Add64", "math/bits.Sub64"], named := ["math/bits.divideError", "math/bits.overflowError"], apart := false }
def BlockOthersSaid : Prop := blockOthersRow.holds Try.pinned (OpenSpec.ofChange blockOthersSpec)

/-- ITS FALSE NEIGHBOUR: 'it returns false'. Refute it at one input. -/
def blockOthersWrong : ChangeSpec := { name := "blockOthers", fn := fun _ => fun
  | [d1, d2, d3, d4, d5] => { results := [.lit (.bool false)], args := [d1, d2, d3, d4, d5] }
  | _ => none }
def BlockOthersWrongFalsely : Prop := blockOthersRow.holds Try.pinned (OpenSpec.ofChange blockOthersWrong)

/-- 'astrolabelaw12.BlockGrows': WHATEVER THE INPUT: true; the input reads as it did. -/
def blockGrowsSpec : ChangeSpec := { name := "blockGrows", fn := fun _ => fun
  | [d1, d2, d3] => { results := [.lit (.bool true)], args := [d1, d2, d3] }
  | _ => none }
def blockGrowsRow : OpenClaim := { program := "ytadeadpcpgfkbaa", sum := "51e1da4e60f50b47953cdb2c67bb6c70ff943612fc5da4a823d0b0fd2ba76102", func := "astrolabe/astrolabelaw12.BlockGrows", spec := "blockGrows", inPlace := ["math/bits.Add64", "math/bits.Sub64"], named := ["math/bits.divideError", "math/bits.overflowError"], apart := false }
def BlockGrowsSaid : Prop := blockGrowsRow.holds Try.pinned (OpenSpec.ofChange blockGrowsSpec)

/-- ITS FALSE NEIGHBOUR: 'it returns false'. Refute it at one input. -/
def blockGrowsWrong : ChangeSpec := { name := "blockGrows", fn := fun _ => fun
  | [d1, d2, d3] => { results := [.lit (.bool false)], args := [d1, d2, d3] }
  | _ => none }
def BlockGrowsWrongFalsely : Prop := blockGrowsRow.holds Try.pinned (OpenSpec.ofChange blockGrowsWrong)

/-- 'astrolabelaw11.BiermanSays': WHATEVER THE INPUT: true; the input reads as it did. -/
def biermanSaysSpec : ChangeSpec := { name := "biermanSays", fn := fun _ => fun
  | [d1, d2, d3, d4, d5] => { results := [.lit (.bool true)], args := [d1, d2, d3, d4, d5] }
  | _ => none }
def biermanSaysRow : OpenClaim := { program := "ytadeadpcpgfkbaa", sum := "51e1da4e60f50b47953cdb2c67bb6c70ff943612fc5da4a823d0b0fd2ba76102", func := "astrolabe/astrolabelaw11.BiermanSays", spec := "biermanSays", inPlace := ["math/bits.Add64", "math/bits.Sub64"], named := ["math/bits.divideError", "math/bits.overflowError"], apart := false }
def BiermanSaysSaid : Prop := biermanSaysRow.holds Try.pinned (OpenSpec.ofChange biermanSaysSpec)

/-- ITS FALSE NEIGHBOUR: 'it returns false'. Refute it at one input. -/
def biermanSaysWrong : ChangeSpec := { name := "biermanSays", fn := fun _ => fun
  | [d1, d2, d3, d4, d5] => { results := [.lit (.bool false)], args := [d1, d2, d3, d4, d5] }
  | _ => none }
def BiermanSaysWrongFalsely : Prop := biermanSaysRow.holds Try.pinned (OpenSpec.ofChange biermanSaysWrong)

/-- 'astrolabelaw10.ThorntonMoves': WHATEVER THE INPUT: true; the input reads as it did. -/
def thorntonMovesSpec : ChangeSpec := { name := "thorntonMoves", fn := fun _ => fun
  | [d1, d2, d3] => { results := [.lit (.bool true)], args := [d1, d2, d3] }
  | _ => none }
def thorntonMovesRow : OpenClaim := { program := "ytadeadpcpgfkbaa", sum := "51e1da4e60f50b47953cdb2c67bb6c70ff943612fc5da4a823d0b0fd2ba76102", func := "astrolabe/astrolabelaw10.ThorntonMoves", spec := "thorntonMoves", inPlace := ["math/bits.Add64", "math/bits.Sub64"], named := ["math/bits.divideError", "math/bits.overflowError"], apart := false }
def ThorntonMovesSaid : Prop := thorntonMovesRow.holds Try.pinned (OpenSpec.ofChange thorntonMovesSpec)

/-- ITS FALSE NEIGHBOUR: 'it returns false'. Refute it at one input. -/
def thorntonMovesWrong : ChangeSpec := { name := "thorntonMoves", fn := fun _ => fun
  | [d1, d2, d3] => { results := [.lit (.bool false)], args := [d1, d2, d3] }
  | _ => none }
def ThorntonMovesWrongFalsely : Prop := thorntonMovesRow.holds Try.pinned (OpenSpec.ofChange thorntonMovesWrong)

/-- 'astrolabelaw10.ThorntonKeeps': WHATEVER THE INPUT: true; the input reads as it did. -/
def thorntonKeepsSpec : ChangeSpec := { name := "thorntonKeeps", fn := fun _ => fun
  | [d1, d2, d3] => { results := [.lit (.bool true)], args := [d1, d2, d3] }
  | _ => none }
def thorntonKeepsRow : OpenClaim := { program := "ytadeadpcpgfkbaa", sum := "51e1da4e60f50b47953cdb2c67bb6c70ff943612fc5da4a823d0b0fd2ba76102", func := "astrolabe/astrolabelaw10.ThorntonKeeps", spec := "thorntonKeeps", inPlace := ["math/bits.Add64", "math/bits.Sub64"], named := ["math/bits.divideError", "math/bits.overflowError"], apart := false }
def ThorntonKeepsSaid : Prop := thorntonKeepsRow.holds Try.pinned (OpenSpec.ofChange thorntonKeepsSpec)

/-- ITS FALSE NEIGHBOUR: 'it returns false'. Refute it at one input. -/
def thorntonKeepsWrong : ChangeSpec := { name := "thorntonKeeps", fn := fun _ => fun
  | [d1, d2, d3] => { results := [.lit (.bool false)], args := [d1, d2, d3] }
  | _ => none }
def ThorntonKeepsWrongFalsely : Prop := thorntonKeepsRow.holds Try.pinned (OpenSpec.ofChange thorntonKeepsWrong)

/-- 'astrolabelaw9.TriSays': WHATEVER THE INPUT: true; the input reads as it did. -/
def triSaysSpec : ChangeSpec := { name := "triSays", fn := fun _ => fun
  | [d1, d2, d3, d4, d5] => { results := [.lit (.bool true)], args := [d1, d2, d3, d4, d5] }
  | _ => none }
def triSaysRow : OpenClaim := { program := "ytadeadpcpgfkbaa", sum := "51e1da4e60f50b47953cdb2c67bb6c70ff943612fc5da4a823d0b0fd2ba76102", func := "astrolabe/astrolabelaw9.TriSays", spec := "triSays", inPlace := ["math/bits.Sub64", "math/bits.Add64"], apart := false }
def TriSaysSaid : Prop := triSaysRow.holds Try.pinned (OpenSpec.ofChange triSaysSpec)

/-- ITS FALSE NEIGHBOUR: 'it returns false'. Refute it at one input. -/
def triSaysWrong : ChangeSpec := { name := "triSays", fn := fun _ => fun
  | [d1, d2, d3, d4, d5] => { results := [.lit (.bool false)], args := [d1, d2, d3, d4, d5] }
  | _ => none }
def TriSaysWrongFalsely : Prop := triSaysRow.holds Try.pinned (OpenSpec.ofChange triSaysWrong)

/-- 'astrolabelaw9.TriSets': WHATEVER THE INPUT: true; the input reads as it did. -/
def triSetsSpec : ChangeSpec := { name := "triSets", fn := fun _ => fun
  | [d1, d2, d3, d4, d5, d6] => { results := [.lit (.bool true)], args := [d1, d2, d3, d4, d5, d6] }
  | _ => none }
def triSetsRow : OpenClaim := { program := "ytadeadpcpgfkbaa", sum := "51e1da4e60f50b47953cdb2c67bb6c70ff943612fc5da4a823d0b0fd2ba76102", func := "astrolabe/astrolabelaw9.TriSets", spec := "triSets", inPlace := ["math/bits.Sub64", "math/bits.Add64"], apart := false }
def TriSetsSaid : Prop := triSetsRow.holds Try.pinned (OpenSpec.ofChange triSetsSpec)

/-- ITS FALSE NEIGHBOUR: 'it returns false'. Refute it at one input. -/
def triSetsWrong : ChangeSpec := { name := "triSets", fn := fun _ => fun
  | [d1, d2, d3, d4, d5, d6] => { results := [.lit (.bool false)], args := [d1, d2, d3, d4, d5, d6] }
  | _ => none }
def TriSetsWrongFalsely : Prop := triSetsRow.holds Try.pinned (OpenSpec.ofChange triSetsWrong)

/-- 'astrolabelaw2.FxOps': WHATEVER THE INPUT: true; the input reads as it did. -/
def fxOpsSpec : ChangeSpec := { name := "fxOps", fn := fun _ => fun
  | [d1, d2, d3, d4] => { results := [.lit (.bool true)], args := [d1, d2, d3, d4] }
  | _ => none }
def fxOpsRow : OpenClaim := { program := "ytadeadpcpgfkbaa", sum := "51e1da4e60f50b47953cdb2c67bb6c70ff943612fc5da4a823d0b0fd2ba76102", func := "astrolabe/astrolabelaw2.FxOps", spec := "fxOps", inPlace := ["math/bits.Sub64", "math/bits.Add64"], named := ["math/bits.divideError", "math/bits.overflowError"], apart := false }
def FxOpsSaid : Prop := fxOpsRow.holds Try.pinned (OpenSpec.ofChange fxOpsSpec)

/-- ITS FALSE NEIGHBOUR: 'it returns false'. Refute it at one input. -/
def fxOpsWrong : ChangeSpec := { name := "fxOps", fn := fun _ => fun
  | [d1, d2, d3, d4] => { results := [.lit (.bool false)], args := [d1, d2, d3, d4] }
  | _ => none }
def FxOpsWrongFalsely : Prop := fxOpsRow.holds Try.pinned (OpenSpec.ofChange fxOpsWrong)

/-- 'astrolabelaw1.WideRounds': WHATEVER THE INPUT: true; the input reads as it did. -/
def wideRoundsSpec : ChangeSpec := { name := "wideRounds", fn := fun _ => fun
  | [d1, d2, d3] => { results := [.lit (.bool true)], args := [d1, d2, d3] }
  | _ => none }
def wideRoundsRow : OpenClaim := { program := "ytadeadpcpgfkbaa", sum := "51e1da4e60f50b47953cdb2c67bb6c70ff943612fc5da4a823d0b0fd2ba76102", func := "astrolabe/astrolabelaw1.WideRounds", spec := "wideRounds", inPlace := ["math/bits.Sub64", "math/bits.Add64"], named := ["math/bits.divideError", "math/bits.overflowError"], apart := false }
def WideRoundsSaid : Prop := wideRoundsRow.holds Try.pinned (OpenSpec.ofChange wideRoundsSpec)

/-- ITS FALSE NEIGHBOUR: 'it returns false'. Refute it at one input. -/
def wideRoundsWrong : ChangeSpec := { name := "wideRounds", fn := fun _ => fun
  | [d1, d2, d3] => { results := [.lit (.bool false)], args := [d1, d2, d3] }
  | _ => none }
def WideRoundsWrongFalsely : Prop := wideRoundsRow.holds Try.pinned (OpenSpec.ofChange wideRoundsWrong)

/-- 'astrolabelaw4.TrigSays': WHATEVER THE INPUT: true; the input reads as it did. -/
def trigSaysSpec : ChangeSpec := { name := "trigSays", fn := fun _ => fun
  | [d1, d2, d3] => { results := [.lit (.bool true)], args := [d1, d2, d3] }
  | _ => none }
def trigSaysRow : OpenClaim := { program := "ytadeadpcpgfkbaa", sum := "51e1da4e60f50b47953cdb2c67bb6c70ff943612fc5da4a823d0b0fd2ba76102", func := "astrolabe/astrolabelaw4.TrigSays", spec := "trigSays", inPlace := ["math/bits.Sub64", "math/bits.Add64"], named := ["math/bits.divideError", "math/bits.overflowError"], apart := false }
def TrigSaysSaid : Prop := trigSaysRow.holds Try.pinned (OpenSpec.ofChange trigSaysSpec)

/-- ITS FALSE NEIGHBOUR: 'it returns false'. Refute it at one input. -/
def trigSaysWrong : ChangeSpec := { name := "trigSays", fn := fun _ => fun
  | [d1, d2, d3] => { results := [.lit (.bool false)], args := [d1, d2, d3] }
  | _ => none }
def TrigSaysWrongFalsely : Prop := trigSaysRow.holds Try.pinned (OpenSpec.ofChange trigSaysWrong)

/-- 'astrolabelaw5.VecSays': WHATEVER THE INPUT: true; the input reads as it did. -/
def vecSaysSpec : ChangeSpec := { name := "vecSays", fn := fun _ => fun
  | [d1, d2, d3] => { results := [.lit (.bool true)], args := [d1, d2, d3] }
  | _ => none }
def vecSaysRow : OpenClaim := { program := "ytadeadpcpgfkbaa", sum := "51e1da4e60f50b47953cdb2c67bb6c70ff943612fc5da4a823d0b0fd2ba76102", func := "astrolabe/astrolabelaw5.VecSays", spec := "vecSays", inPlace := ["math/bits.Add64", "math/bits.Sub64"], named := ["math/bits.divideError", "math/bits.overflowError"], apart := false }
def VecSaysSaid : Prop := vecSaysRow.holds Try.pinned (OpenSpec.ofChange vecSaysSpec)

/-- ITS FALSE NEIGHBOUR: 'it returns false'. Refute it at one input. -/
def vecSaysWrong : ChangeSpec := { name := "vecSays", fn := fun _ => fun
  | [d1, d2, d3] => { results := [.lit (.bool false)], args := [d1, d2, d3] }
  | _ => none }
def VecSaysWrongFalsely : Prop := vecSaysRow.holds Try.pinned (OpenSpec.ofChange vecSaysWrong)

/- THE SECOND FORM. 'bulk': how many values and letters a reading holds, each counted each time it is reached (what is shared counts as often as it is met; a slice's spare places count too). A statement '..UptoSaid' is the law's where the arguments, and the package variables that the reading takes, are together of bulk at most 1048576: NARROWER than '..Said'. Prove '..Said' where nothing that the law and all that it calls make is longer than what came in: it says more and counts as full. Else prove '..UptoSaid'. A law counts once. -/
mutual
def uptoBulk {H : Type} : DataW H → Nat
  | .lit (.string bytes) => bytes.length + 1
  | .lit _ => 1
  | .nil => 1
  | .ptr d => uptoBulk d + 1
  | .slice elems spare => uptoBulkAll elems + uptoBulkAll spare + 1
  | .agg parts => uptoBulkAll parts + 1
  | .iface _ d => uptoBulk d + 1
  | .map entries => uptoBulkEntries entries + 1
  | .held _ => 1
def uptoBulkAll {H : Type} : List (DataW H) → Nat
  | [] => 0
  | d :: r => uptoBulk d + uptoBulkAll r
def uptoBulkEntries {H : Type} : List (Lit × DataW H) → Nat
  | [] => 0
  | x :: r => uptoBulkEntry x + uptoBulkEntries r
def uptoBulkEntry {H : Type} : Lit × DataW H → Nat
  | (.string bytes, d) => bytes.length + uptoBulk d + 1
  | (_, d) => uptoBulk d + 1
 end
def uptoSmall : (H : Type) → List (DataW H) → Bool := fun _ ds => decide (uptoBulkAll ds ≤ 1048576)
def OpenSpec.upto (s : _root_.Go.ChangeSpec) : _root_.Go.OpenSpec := { _root_.Go.OpenSpec.ofChange s with cond := some uptoSmall }

/-- 'astrolabelaw12.BlockKnown', WHERE WHAT IT READS IS OF BULK AT MOST 1048576: true; the input reads as it did. -/
def blockKnownUptoRow : OpenClaim := { program := "ytadeadpcpgfkbaa", sum := "51e1da4e60f50b47953cdb2c67bb6c70ff943612fc5da4a823d0b0fd2ba76102", func := "astrolabe/astrolabelaw12.BlockKnown", spec := "blockKnown", inPlace := ["math/bits.Add64", "math/bits.Sub64"], named := ["math/bits.divideError", "math/bits.overflowError"], apart := false, narrowed := true }
def BlockKnownUptoSaid : Prop := blockKnownUptoRow.holds Try.pinned (OpenSpec.upto blockKnownSpec)

/-- 'astrolabelaw12.BlockSays', WHERE WHAT IT READS IS OF BULK AT MOST 1048576: true; the input reads as it did. -/
def blockSaysUptoRow : OpenClaim := { program := "ytadeadpcpgfkbaa", sum := "51e1da4e60f50b47953cdb2c67bb6c70ff943612fc5da4a823d0b0fd2ba76102", func := "astrolabe/astrolabelaw12.BlockSays", spec := "blockSays", inPlace := ["math/bits.Add64", "math/bits.Sub64"], named := ["math/bits.divideError", "math/bits.overflowError"], apart := false, narrowed := true }
def BlockSaysUptoSaid : Prop := blockSaysUptoRow.holds Try.pinned (OpenSpec.upto blockSaysSpec)

/-- 'astrolabelaw12.BlockApart', WHERE WHAT IT READS IS OF BULK AT MOST 1048576: true; the input reads as it did. -/
def blockApartUptoRow : OpenClaim := { program := "ytadeadpcpgfkbaa", sum := "51e1da4e60f50b47953cdb2c67bb6c70ff943612fc5da4a823d0b0fd2ba76102", func := "astrolabe/astrolabelaw12.BlockApart", spec := "blockApart", inPlace := ["math/bits.Add64", "math/bits.Sub64"], named := ["math/bits.divideError", "math/bits.overflowError"], apart := false, narrowed := true }
def BlockApartUptoSaid : Prop := blockApartUptoRow.holds Try.pinned (OpenSpec.upto blockApartSpec)

/-- 'astrolabelaw12.BlockOthers', WHERE WHAT IT READS IS OF BULK AT MOST 1048576: true; the input reads as it did. -/
def blockOthersUptoRow : OpenClaim := { program := "ytadeadpcpgfkbaa", sum := "51e1da4e60f50b47953cdb2c67bb6c70ff943612fc5da4a823d0b0fd2ba76102", func := "astrolabe/astrolabelaw12.BlockOthers", spec := "blockOthers", inPlace := ["math/bits.Add64", "math/bits.Sub64"], named := ["math/bits.divideError", "math/bits.overflowError"], apart := false, narrowed := true }
def BlockOthersUptoSaid : Prop := blockOthersUptoRow.holds Try.pinned (OpenSpec.upto blockOthersSpec)

/-- 'astrolabelaw12.BlockGrows', WHERE WHAT IT READS IS OF BULK AT MOST 1048576: true; the input reads as it did. -/
def blockGrowsUptoRow : OpenClaim := { program := "ytadeadpcpgfkbaa", sum := "51e1da4e60f50b47953cdb2c67bb6c70ff943612fc5da4a823d0b0fd2ba76102", func := "astrolabe/astrolabelaw12.BlockGrows", spec := "blockGrows", inPlace := ["math/bits.Add64", "math/bits.Sub64"], named := ["math/bits.divideError", "math/bits.overflowError"], apart := false, narrowed := true }
def BlockGrowsUptoSaid : Prop := blockGrowsUptoRow.holds Try.pinned (OpenSpec.upto blockGrowsSpec)

/-- 'astrolabelaw11.BiermanSays', WHERE WHAT IT READS IS OF BULK AT MOST 1048576: true; the input reads as it did. -/
def biermanSaysUptoRow : OpenClaim := { program := "ytadeadpcpgfkbaa", sum := "51e1da4e60f50b47953cdb2c67bb6c70ff943612fc5da4a823d0b0fd2ba76102", func := "astrolabe/astrolabelaw11.BiermanSays", spec := "biermanSays", inPlace := ["math/bits.Add64", "math/bits.Sub64"], named := ["math/bits.divideError", "math/bits.overflowError"], apart := false, narrowed := true }
def BiermanSaysUptoSaid : Prop := biermanSaysUptoRow.holds Try.pinned (OpenSpec.upto biermanSaysSpec)

/-- 'astrolabelaw10.ThorntonMoves', WHERE WHAT IT READS IS OF BULK AT MOST 1048576: true; the input reads as it did. -/
def thorntonMovesUptoRow : OpenClaim := { program := "ytadeadpcpgfkbaa", sum := "51e1da4e60f50b47953cdb2c67bb6c70ff943612fc5da4a823d0b0fd2ba76102", func := "astrolabe/astrolabelaw10.ThorntonMoves", spec := "thorntonMoves", inPlace := ["math/bits.Add64", "math/bits.Sub64"], named := ["math/bits.divideError", "math/bits.overflowError"], apart := false, narrowed := true }
def ThorntonMovesUptoSaid : Prop := thorntonMovesUptoRow.holds Try.pinned (OpenSpec.upto thorntonMovesSpec)

/-- 'astrolabelaw10.ThorntonKeeps', WHERE WHAT IT READS IS OF BULK AT MOST 1048576: true; the input reads as it did. -/
def thorntonKeepsUptoRow : OpenClaim := { program := "ytadeadpcpgfkbaa", sum := "51e1da4e60f50b47953cdb2c67bb6c70ff943612fc5da4a823d0b0fd2ba76102", func := "astrolabe/astrolabelaw10.ThorntonKeeps", spec := "thorntonKeeps", inPlace := ["math/bits.Add64", "math/bits.Sub64"], named := ["math/bits.divideError", "math/bits.overflowError"], apart := false, narrowed := true }
def ThorntonKeepsUptoSaid : Prop := thorntonKeepsUptoRow.holds Try.pinned (OpenSpec.upto thorntonKeepsSpec)

/-- 'astrolabelaw9.TriSays', WHERE WHAT IT READS IS OF BULK AT MOST 1048576: true; the input reads as it did. -/
def triSaysUptoRow : OpenClaim := { program := "ytadeadpcpgfkbaa", sum := "51e1da4e60f50b47953cdb2c67bb6c70ff943612fc5da4a823d0b0fd2ba76102", func := "astrolabe/astrolabelaw9.TriSays", spec := "triSays", inPlace := ["math/bits.Sub64", "math/bits.Add64"], apart := false, narrowed := true }
def TriSaysUptoSaid : Prop := triSaysUptoRow.holds Try.pinned (OpenSpec.upto triSaysSpec)

/-- 'astrolabelaw9.TriSets', WHERE WHAT IT READS IS OF BULK AT MOST 1048576: true; the input reads as it did. -/
def triSetsUptoRow : OpenClaim := { program := "ytadeadpcpgfkbaa", sum := "51e1da4e60f50b47953cdb2c67bb6c70ff943612fc5da4a823d0b0fd2ba76102", func := "astrolabe/astrolabelaw9.TriSets", spec := "triSets", inPlace := ["math/bits.Sub64", "math/bits.Add64"], apart := false, narrowed := true }
def TriSetsUptoSaid : Prop := triSetsUptoRow.holds Try.pinned (OpenSpec.upto triSetsSpec)

/-- 'astrolabelaw2.FxOps', WHERE WHAT IT READS IS OF BULK AT MOST 1048576: true; the input reads as it did. -/
def fxOpsUptoRow : OpenClaim := { program := "ytadeadpcpgfkbaa", sum := "51e1da4e60f50b47953cdb2c67bb6c70ff943612fc5da4a823d0b0fd2ba76102", func := "astrolabe/astrolabelaw2.FxOps", spec := "fxOps", inPlace := ["math/bits.Sub64", "math/bits.Add64"], named := ["math/bits.divideError", "math/bits.overflowError"], apart := false, narrowed := true }
def FxOpsUptoSaid : Prop := fxOpsUptoRow.holds Try.pinned (OpenSpec.upto fxOpsSpec)

/-- 'astrolabelaw1.WideRounds', WHERE WHAT IT READS IS OF BULK AT MOST 1048576: true; the input reads as it did. -/
def wideRoundsUptoRow : OpenClaim := { program := "ytadeadpcpgfkbaa", sum := "51e1da4e60f50b47953cdb2c67bb6c70ff943612fc5da4a823d0b0fd2ba76102", func := "astrolabe/astrolabelaw1.WideRounds", spec := "wideRounds", inPlace := ["math/bits.Sub64", "math/bits.Add64"], named := ["math/bits.divideError", "math/bits.overflowError"], apart := false, narrowed := true }
def WideRoundsUptoSaid : Prop := wideRoundsUptoRow.holds Try.pinned (OpenSpec.upto wideRoundsSpec)

/-- 'astrolabelaw4.TrigSays', WHERE WHAT IT READS IS OF BULK AT MOST 1048576: true; the input reads as it did. -/
def trigSaysUptoRow : OpenClaim := { program := "ytadeadpcpgfkbaa", sum := "51e1da4e60f50b47953cdb2c67bb6c70ff943612fc5da4a823d0b0fd2ba76102", func := "astrolabe/astrolabelaw4.TrigSays", spec := "trigSays", inPlace := ["math/bits.Sub64", "math/bits.Add64"], named := ["math/bits.divideError", "math/bits.overflowError"], apart := false, narrowed := true }
def TrigSaysUptoSaid : Prop := trigSaysUptoRow.holds Try.pinned (OpenSpec.upto trigSaysSpec)

/-- 'astrolabelaw5.VecSays', WHERE WHAT IT READS IS OF BULK AT MOST 1048576: true; the input reads as it did. -/
def vecSaysUptoRow : OpenClaim := { program := "ytadeadpcpgfkbaa", sum := "51e1da4e60f50b47953cdb2c67bb6c70ff943612fc5da4a823d0b0fd2ba76102", func := "astrolabe/astrolabelaw5.VecSays", spec := "vecSays", inPlace := ["math/bits.Add64", "math/bits.Sub64"], named := ["math/bits.divideError", "math/bits.overflowError"], apart := false, narrowed := true }
def VecSaysUptoSaid : Prop := vecSaysUptoRow.holds Try.pinned (OpenSpec.upto vecSaysSpec)

end Rows
end Go.Proofs.Ytadeadpcpgfkbaa
