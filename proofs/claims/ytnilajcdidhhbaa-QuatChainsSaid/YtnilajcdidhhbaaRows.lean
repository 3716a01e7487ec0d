/-
  No cell of these rows narrows 'for every input' (looked for: loops, veiled, ifaces, maps, wideKeys, modest, calm, conditions, laid).
  DERIVED. THE GIVEN ROWS OF THIS SEAT. 11 by the template 'for every input the law returns true; each argument reads behind the call as it read before'; 0 by the template 'total and deterministic' (their statements: YtnilajcdidhhbaaTotals.lean).
  GIVEN WITH THE SEED: the statements are not yours to turn. If you find one false, say at which input.
  Laid BY PROGRAM, IN A SANDBOX (cutbox-rows.mjs): the forced cells as the released guide's own fill.sh prints them over the translation d5cf3b43aa73bb4a… (all of the seat's roots in one cut). By AI agents, Wed Nov 11 2026. No macro, syntax, notation, axiom, sorry.
-/
import Derived.Test.YtnilajcdidhhbaaChecked
import GoSem.Claim
import GoSem.ClaimJoined
import GoSem.ClaimMapViews
import Derived.JoinedTies
import Derived.KernelRfl
namespace Go.Proofs.Ytnilajcdidhhbaa
/- THE CELL 'sum', in the pinned program and in every row, IS THE sha256 OF THE DUMP (.gsa) THAT YtnilajcdidhhbaaProg.lean LOADS. Nothing in Lean hashes anything: it is a label: what it is worth is what the hold of that sum in a sandbox is worth. -/
noncomputable def Try.pinned : Pinned := { name := "ytnilajcdidhhbaa", sum := "d5cf3b43aa73bb4a62aa98bd66a57edd7b585f8b37d9407e081883c5a6afa438", checked := Try.checked }
namespace Rows
def none {H : Type} : Left H := { results := [], args := [] }

/-- 'astrolabelaw1.WideRounds': WHATEVER THE INPUT: true; the input reads as it did. -/
def wideRoundsSpec : ChangeSpec := { name := "wideRounds", fn := fun _ => fun
  | [d1, d2, d3] => { results := [.lit (.bool true)], args := [d1, d2, d3] }
  | _ => none }
def wideRoundsRow : OpenClaim := { program := "ytnilajcdidhhbaa", sum := "d5cf3b43aa73bb4a62aa98bd66a57edd7b585f8b37d9407e081883c5a6afa438", func := "astrolabe/astrolabelaw1.WideRounds", spec := "wideRounds", inPlace := ["math/bits.Sub64", "math/bits.Add64"], named := ["math/bits.divideError", "math/bits.overflowError"], apart := false }
def WideRoundsSaid : Prop := wideRoundsRow.holds Try.pinned (OpenSpec.ofChange wideRoundsSpec)

/-- ITS FALSE NEIGHBOUR: 'it returns false'. Refute it at one input. -/
def wideRoundsWrong : ChangeSpec := { name := "wideRounds", fn := fun _ => fun
  | [d1, d2, d3] => { results := [.lit (.bool false)], args := [d1, d2, d3] }
  | _ => none }
def WideRoundsWrongFalsely : Prop := wideRoundsRow.holds Try.pinned (OpenSpec.ofChange wideRoundsWrong)

/-- 'astrolabelaw2.FxOps': WHATEVER THE INPUT: true; the input reads as it did. -/
def fxOpsSpec : ChangeSpec := { name := "fxOps", fn := fun _ => fun
  | [d1, d2, d3, d4] => { results := [.lit (.bool true)], args := [d1, d2, d3, d4] }
  | _ => none }
def fxOpsRow : OpenClaim := { program := "ytnilajcdidhhbaa", sum := "d5cf3b43aa73bb4a62aa98bd66a57edd7b585f8b37d9407e081883c5a6afa438", func := "astrolabe/astrolabelaw2.FxOps", spec := "fxOps", inPlace := ["math/bits.Sub64", "math/bits.Add64"], named := ["math/bits.divideError", "math/bits.overflowError"], apart := false }
def FxOpsSaid : Prop := fxOpsRow.holds Try.pinned (OpenSpec.ofChange fxOpsSpec)

/-- ITS FALSE NEIGHBOUR: 'it returns false'. Refute it at one input. -/
def fxOpsWrong : ChangeSpec := { name := "fxOps", fn := fun _ => fun
  | [d1, d2, d3, d4] => { results := [.lit (.bool false)], args := [d1, d2, d3, d4] }
  | _ => none }
def FxOpsWrongFalsely : Prop := fxOpsRow.holds Try.pinned (OpenSpec.ofChange fxOpsWrong)

/-- 'astrolabelaw4.TrigSays': WHATEVER THE INPUT: true; the input reads as it did. -/
def trigSaysSpec : ChangeSpec := { name := "trigSays", fn := fun _ => fun
  | [d1, d2, d3] => { results := [.lit (.bool true)], args := [d1, d2, d3] }
  | _ => none }
def trigSaysRow : OpenClaim := { program := "ytnilajcdidhhbaa", sum := "d5cf3b43aa73bb4a62aa98bd66a57edd7b585f8b37d9407e081883c5a6afa438", func := "astrolabe/astrolabelaw4.TrigSays", spec := "trigSays", inPlace := ["math/bits.Sub64", "math/bits.Add64"], named := ["math/bits.divideError", "math/bits.overflowError"], apart := false }
def TrigSaysSaid : Prop := trigSaysRow.holds Try.pinned (OpenSpec.ofChange trigSaysSpec)

/-- ITS FALSE NEIGHBOUR: 'it returns false'. Refute it at one input. -/
def trigSaysWrong : ChangeSpec := { name := "trigSays", fn := fun _ => fun
  | [d1, d2, d3] => { results := [.lit (.bool false)], args := [d1, d2, d3] }
  | _ => none }
def TrigSaysWrongFalsely : Prop := trigSaysRow.holds Try.pinned (OpenSpec.ofChange trigSaysWrong)

/-- 'astrolabelaw4.TrigCircle': WHATEVER THE INPUT: true; the input reads as it did. -/
def trigCircleSpec : ChangeSpec := { name := "trigCircle", fn := fun _ => fun
  | [d] => { results := [.lit (.bool true)], args := [d] }
  | _ => none }
def trigCircleRow : OpenClaim := { program := "ytnilajcdidhhbaa", sum := "d5cf3b43aa73bb4a62aa98bd66a57edd7b585f8b37d9407e081883c5a6afa438", func := "astrolabe/astrolabelaw4.TrigCircle", spec := "trigCircle", inPlace := ["math/bits.Sub64", "math/bits.Add64"], named := ["math/bits.divideError", "math/bits.overflowError"], apart := false }
def TrigCircleSaid : Prop := trigCircleRow.holds Try.pinned (OpenSpec.ofChange trigCircleSpec)

/-- ITS FALSE NEIGHBOUR: 'it returns false'. Refute it at one input. -/
def trigCircleWrong : ChangeSpec := { name := "trigCircle", fn := fun _ => fun
  | [d] => { results := [.lit (.bool false)], args := [d] }
  | _ => none }
def TrigCircleWrongFalsely : Prop := trigCircleRow.holds Try.pinned (OpenSpec.ofChange trigCircleWrong)

/-- 'astrolabelaw5.VecSays': WHATEVER THE INPUT: true; the input reads as it did. -/
def vecSaysSpec : ChangeSpec := { name := "vecSays", fn := fun _ => fun
  | [d1, d2, d3] => { results := [.lit (.bool true)], args := [d1, d2, d3] }
  | _ => none }
def vecSaysRow : OpenClaim := { program := "ytnilajcdidhhbaa", sum := "d5cf3b43aa73bb4a62aa98bd66a57edd7b585f8b37d9407e081883c5a6afa438", func := "astrolabe/astrolabelaw5.VecSays", spec := "vecSays", inPlace := ["math/bits.Add64", "math/bits.Sub64"], named := ["math/bits.divideError", "math/bits.overflowError"], apart := false }
def VecSaysSaid : Prop := vecSaysRow.holds Try.pinned (OpenSpec.ofChange vecSaysSpec)

/-- ITS FALSE NEIGHBOUR: 'it returns false'. Refute it at one input. -/
def vecSaysWrong : ChangeSpec := { name := "vecSays", fn := fun _ => fun
  | [d1, d2, d3] => { results := [.lit (.bool false)], args := [d1, d2, d3] }
  | _ => none }
def VecSaysWrongFalsely : Prop := vecSaysRow.holds Try.pinned (OpenSpec.ofChange vecSaysWrong)

/-- 'astrolabelaw6.QuatKnown': WHATEVER THE INPUT: true; the input reads as it did. -/
def quatKnownSpec : ChangeSpec := { name := "quatKnown", fn := fun _ => fun
  | [] => { results := [.lit (.bool true)], args := [] }
  | _ => none }
def quatKnownRow : OpenClaim := { program := "ytnilajcdidhhbaa", sum := "d5cf3b43aa73bb4a62aa98bd66a57edd7b585f8b37d9407e081883c5a6afa438", func := "astrolabe/astrolabelaw6.QuatKnown", spec := "quatKnown", inPlace := ["math/bits.Add64", "math/bits.Sub64"], named := ["math/bits.divideError", "math/bits.overflowError"], apart := false }
def QuatKnownSaid : Prop := quatKnownRow.holds Try.pinned (OpenSpec.ofChange quatKnownSpec)

/-- ITS FALSE NEIGHBOUR: 'it returns false'. Refute it at one input. -/
def quatKnownWrong : ChangeSpec := { name := "quatKnown", fn := fun _ => fun
  | [] => { results := [.lit (.bool false)], args := [] }
  | _ => none }
def QuatKnownWrongFalsely : Prop := quatKnownRow.holds Try.pinned (OpenSpec.ofChange quatKnownWrong)

/-- 'astrolabelaw6.QuatSays': WHATEVER THE INPUT: true; the input reads as it did. -/
def quatSaysSpec : ChangeSpec := { name := "quatSays", fn := fun _ => fun
  | [d1, d2] => { results := [.lit (.bool true)], args := [d1, d2] }
  | _ => none }
def quatSaysRow : OpenClaim := { program := "ytnilajcdidhhbaa", sum := "d5cf3b43aa73bb4a62aa98bd66a57edd7b585f8b37d9407e081883c5a6afa438", func := "astrolabe/astrolabelaw6.QuatSays", spec := "quatSays", inPlace := ["math/bits.Add64", "math/bits.Sub64"], named := ["math/bits.divideError", "math/bits.overflowError"], apart := false }
def QuatSaysSaid : Prop := quatSaysRow.holds Try.pinned (OpenSpec.ofChange quatSaysSpec)

/-- ITS FALSE NEIGHBOUR: 'it returns false'. Refute it at one input. -/
def quatSaysWrong : ChangeSpec := { name := "quatSays", fn := fun _ => fun
  | [d1, d2] => { results := [.lit (.bool false)], args := [d1, d2] }
  | _ => none }
def QuatSaysWrongFalsely : Prop := quatSaysRow.holds Try.pinned (OpenSpec.ofChange quatSaysWrong)

/-- 'astrolabelaw6.QuatUnits': WHATEVER THE INPUT: true; the input reads as it did. -/
def quatUnitsSpec : ChangeSpec := { name := "quatUnits", fn := fun _ => fun
  | [d1, d2] => { results := [.lit (.bool true)], args := [d1, d2] }
  | _ => none }
def quatUnitsRow : OpenClaim := { program := "ytnilajcdidhhbaa", sum := "d5cf3b43aa73bb4a62aa98bd66a57edd7b585f8b37d9407e081883c5a6afa438", func := "astrolabe/astrolabelaw6.QuatUnits", spec := "quatUnits", inPlace := ["math/bits.Add64", "math/bits.Sub64"], named := ["math/bits.divideError", "math/bits.overflowError"], apart := false }
def QuatUnitsSaid : Prop := quatUnitsRow.holds Try.pinned (OpenSpec.ofChange quatUnitsSpec)

/-- ITS FALSE NEIGHBOUR: 'it returns false'. Refute it at one input. -/
def quatUnitsWrong : ChangeSpec := { name := "quatUnits", fn := fun _ => fun
  | [d1, d2] => { results := [.lit (.bool false)], args := [d1, d2] }
  | _ => none }
def QuatUnitsWrongFalsely : Prop := quatUnitsRow.holds Try.pinned (OpenSpec.ofChange quatUnitsWrong)

/-- 'astrolabelaw6.QuatChains': WHATEVER THE INPUT: true; the input reads as it did. -/
def quatChainsSpec : ChangeSpec := { name := "quatChains", fn := fun _ => fun
  | [d] => { results := [.lit (.bool true)], args := [d] }
  | _ => none }
def quatChainsRow : OpenClaim := { program := "ytnilajcdidhhbaa", sum := "d5cf3b43aa73bb4a62aa98bd66a57edd7b585f8b37d9407e081883c5a6afa438", func := "astrolabe/astrolabelaw6.QuatChains", spec := "quatChains", inPlace := ["math/bits.Add64", "math/bits.Sub64"], named := ["math/bits.divideError", "math/bits.overflowError"], apart := false }
def QuatChainsSaid : Prop := quatChainsRow.holds Try.pinned (OpenSpec.ofChange quatChainsSpec)

/-- ITS FALSE NEIGHBOUR: 'it returns false'. Refute it at one input. -/
def quatChainsWrong : ChangeSpec := { name := "quatChains", fn := fun _ => fun
  | [d] => { results := [.lit (.bool false)], args := [d] }
  | _ => none }
def QuatChainsWrongFalsely : Prop := quatChainsRow.holds Try.pinned (OpenSpec.ofChange quatChainsWrong)

/-- 'astrolabelaw6.QuatSigns': WHATEVER THE INPUT: true; the input reads as it did. -/
def quatSignsSpec : ChangeSpec := { name := "quatSigns", fn := fun _ => fun
  | [d1, d2] => { results := [.lit (.bool true)], args := [d1, d2] }
  | _ => none }
def quatSignsRow : OpenClaim := { program := "ytnilajcdidhhbaa", sum := "d5cf3b43aa73bb4a62aa98bd66a57edd7b585f8b37d9407e081883c5a6afa438", func := "astrolabe/astrolabelaw6.QuatSigns", spec := "quatSigns", inPlace := ["math/bits.Add64", "math/bits.Sub64"], named := ["math/bits.divideError", "math/bits.overflowError"], apart := false }
def QuatSignsSaid : Prop := quatSignsRow.holds Try.pinned (OpenSpec.ofChange quatSignsSpec)

/-- ITS FALSE NEIGHBOUR: 'it returns false'. Refute it at one input. -/
def quatSignsWrong : ChangeSpec := { name := "quatSigns", fn := fun _ => fun
  | [d1, d2] => { results := [.lit (.bool false)], args := [d1, d2] }
  | _ => none }
def QuatSignsWrongFalsely : Prop := quatSignsRow.holds Try.pinned (OpenSpec.ofChange quatSignsWrong)

/-- 'astrolabelaw6.QuatGroups': WHATEVER THE INPUT: true; the input reads as it did. -/
def quatGroupsSpec : ChangeSpec := { name := "quatGroups", fn := fun _ => fun
  | [d1, d2, d3] => { results := [.lit (.bool true)], args := [d1, d2, d3] }
  | _ => none }
def quatGroupsRow : OpenClaim := { program := "ytnilajcdidhhbaa", sum := "d5cf3b43aa73bb4a62aa98bd66a57edd7b585f8b37d9407e081883c5a6afa438", func := "astrolabe/astrolabelaw6.QuatGroups", spec := "quatGroups", inPlace := ["math/bits.Add64", "math/bits.Sub64"], named := ["math/bits.divideError", "math/bits.overflowError"], apart := false }
def QuatGroupsSaid : Prop := quatGroupsRow.holds Try.pinned (OpenSpec.ofChange quatGroupsSpec)

/-- ITS FALSE NEIGHBOUR: 'it returns false'. Refute it at one input. -/
def quatGroupsWrong : ChangeSpec := { name := "quatGroups", fn := fun _ => fun
  | [d1, d2, d3] => { results := [.lit (.bool false)], args := [d1, d2, d3] }
  | _ => none }
def QuatGroupsWrongFalsely : Prop := quatGroupsRow.holds Try.pinned (OpenSpec.ofChange quatGroupsWrong)

/- THE SECOND FORM. 'bulk': how many values and letters a reading holds, each counted each time it is reached (what is shared counts as often as it is met; a slice's spare places count too). A statement '..UptoSaid' is the law's where the arguments, and the package variables that the reading takes, are together of bulk at most 1048576: NARROWER than '..Said'. Prove '..Said' where nothing that the law and all that it calls make is longer than what came in: it says more and counts as full. Else prove '..UptoSaid'. A law counts once. -/
mutual
def uptoBulk {H : Type} : DataW H → Nat
  | .lit (.string bytes) => bytes.length + 1
  | .lit _ => 1
  | .nil => 1
  | .ptr d => uptoBulk d + 1
  | .slice elems spare => uptoBulkAll elems + uptoBulkAll spare + 1
  | .agg parts => uptoBulkAll parts + 1
  | .iface _ d => uptoBulk d + 1
  | .map entries => uptoBulkEntries entries + 1
  | .held _ => 1
def uptoBulkAll {H : Type} : List (DataW H) → Nat
  | [] => 0
  | d :: r => uptoBulk d + uptoBulkAll r
def uptoBulkEntries {H : Type} : List (Lit × DataW H) → Nat
  | [] => 0
  | x :: r => uptoBulkEntry x + uptoBulkEntries r
def uptoBulkEntry {H : Type} : Lit × DataW H → Nat
  | (.string bytes, d) => bytes.length + uptoBulk d + 1
  | (_, d) => uptoBulk d + 1
 end
def uptoSmall : (H : Type) → List (DataW H) → Bool := fun _ ds => decide (uptoBulkAll ds ≤ 1048576)
def OpenSpec.upto (s : _root_.Go.ChangeSpec) : _root_.Go.OpenSpec := { _root_.Go.OpenSpec.ofChange s with cond := some uptoSmall }

/-- 'astrolabelaw1.WideRounds', WHERE WHAT IT READS IS OF BULK AT MOST 1048576: true; the input reads as it did. -/
def wideRoundsUptoRow : OpenClaim := { program := "ytnilajcdidhhbaa", sum := "d5cf3b43aa73bb4a62aa98bd66a57edd7b585f8b37d9407e081883c5a6afa438", func := "astrolabe/astrolabelaw1.WideRounds", spec := "wideRounds", inPlace := ["math/bits.Sub64", "math/bits.Add64"], named := ["math/bits.divideError", "math/bits.overflowError"], apart := false, narrowed := true }
def WideRoundsUptoSaid : Prop := wideRoundsUptoRow.holds Try.pinned (OpenSpec.upto wideRoundsSpec)

/-- 'astrolabelaw2.FxOps', WHERE WHAT IT READS IS OF BULK AT MOST 1048576: true; the input reads as it did. -/
def fxOpsUptoRow : OpenClaim := { program := "ytnilajcdidhhbaa", sum := "d5cf3b43aa73bb4a62aa98bd66a57edd7b585f8b37d9407e081883c5a6afa438", func := "astrolabe/astrolabelaw2.FxOps", spec := "fxOps", inPlace := ["math/bits.Sub64", "math/bits.Add64"], named := ["math/bits.divideError", "math/bits.overflowError"], apart := false, narrowed := true }
def FxOpsUptoSaid : Prop := fxOpsUptoRow.holds Try.pinned (OpenSpec.upto fxOpsSpec)

/-- 'astrolabelaw4.TrigSays', WHERE WHAT IT READS IS OF BULK AT MOST 1048576: true; the input reads as it did. -/
def trigSaysUptoRow : OpenClaim := { program := "ytnilajcdidhhbaa", sum := "d5cf3b43aa73bb4a62aa98bd66a57edd7b585f8b37d9407e081883c5a6afa438", func := "astrolabe/astrolabelaw4.TrigSays", spec := "trigSays", inPlace := ["math/bits.Sub64", "math/bits.Add64"], named := ["math/bits.divideError", "math/bits.overflowError"], apart := false, narrowed := true }
def TrigSaysUptoSaid : Prop := trigSaysUptoRow.holds Try.pinned (OpenSpec.upto trigSaysSpec)

/-- 'astrolabelaw4.TrigCircle', WHERE WHAT IT READS IS OF BULK AT MOST 1048576: true; the input reads as it did. -/
def trigCircleUptoRow : OpenClaim := { program := "ytnilajcdidhhbaa", sum := "d5cf3b43aa73bb4a62aa98bd66a57edd7b585f8b37d9407e081883c5a6afa438", func := "astrolabe/astrolabelaw4.TrigCircle", spec := "trigCircle", inPlace := ["math/bits.Sub64", "math/bits.Add64"], named := ["math/bits.divideError", "math/bits.overflowError"], apart := false, narrowed := true }
def TrigCircleUptoSaid : Prop := trigCircleUptoRow.holds Try.pinned (OpenSpec.upto trigCircleSpec)

/-- 'astrolabelaw5.VecSays', WHERE WHAT IT READS IS OF BULK AT MOST 1048576: true; the input reads as it did. -/
def vecSaysUptoRow : OpenClaim := { program := "ytnilajcdidhhbaa", sum := "d5cf3b43aa73bb4a62aa98bd66a57edd7b585f8b37d9407e081883c5a6afa438", func := "astrolabe/astrolabelaw5.VecSays", spec := "vecSays", inPlace := ["math/bits.Add64", "math/bits.Sub64"], named := ["math/bits.divideError", "math/bits.overflowError"], apart := false, narrowed := true }
def VecSaysUptoSaid : Prop := vecSaysUptoRow.holds Try.pinned (OpenSpec.upto vecSaysSpec)

/-- 'astrolabelaw6.QuatKnown', WHERE WHAT IT READS IS OF BULK AT MOST 1048576: true; the input reads as it did. -/
def quatKnownUptoRow : OpenClaim := { program := "ytnilajcdidhhbaa", sum := "d5cf3b43aa73bb4a62aa98bd66a57edd7b585f8b37d9407e081883c5a6afa438", func := "astrolabe/astrolabelaw6.QuatKnown", spec := "quatKnown", inPlace := ["math/bits.Add64", "math/bits.Sub64"], named := ["math/bits.divideError", "math/bits.overflowError"], apart := false, narrowed := true }
def QuatKnownUptoSaid : Prop := quatKnownUptoRow.holds Try.pinned (OpenSpec.upto quatKnownSpec)

/-- 'astrolabelaw6.QuatSays', WHERE WHAT IT READS IS OF BULK AT MOST 1048576: true; the input reads as it did. -/
def quatSaysUptoRow : OpenClaim := { program := "ytnilajcdidhhbaa", sum := "d5cf3b43aa73bb4a62aa98bd66a57edd7b585f8b37d9407e081883c5a6afa438", func := "astrolabe/astrolabelaw6.QuatSays", spec := "quatSays", inPlace := ["math/bits.Add64", "math/bits.Sub64"], named := ["math/bits.divideError", "math/bits.overflowError"], apart := false, narrowed := true }
def QuatSaysUptoSaid : Prop := quatSaysUptoRow.holds Try.pinned (OpenSpec.upto quatSaysSpec)

/-- 'astrolabelaw6.QuatUnits', WHERE WHAT IT READS IS OF BULK AT MOST 1048576: true; the input reads as it did. -/
def quatUnitsUptoRow : OpenClaim := { program := "ytnilajcdidhhbaa", sum := "d5cf3b43aa73bb4a62aa98bd66a57edd7b585f8b37d9407e081883c5a6afa438", func := "astrolabe/astrolabelaw6.QuatUnits", spec := "quatUnits", inPlace := ["math/bits.Add64", "math/bits.Sub64"], named := ["math/bits.divideError", "math/bits.overflowError"], apart := false, narrowed := true }
def QuatUnitsUptoSaid : Prop := quatUnitsUptoRow.holds Try.pinned (OpenSpec.upto quatUnitsSpec)

/-- 'astrolabelaw6.QuatChains', WHERE WHAT IT READS IS OF BULK AT MOST 1048576: true; the input reads as it did. -/
def quatChainsUptoRow : OpenClaim := { program := "ytnilajcdidhhbaa", sum := "d5cf3b43aa73bb4a62aa98bd66a57edd7b585f8b37d9407e081883c5a6afa438", func := "astrolabe/astrolabelaw6.QuatChains", spec := "quatChains", inPlace := ["math/bits.Add64", "math/bits.Sub64"], named := ["math/bits.divideError", "math/bits.overflowError"], apart := false, narrowed := true }
def QuatChainsUptoSaid : Prop := quatChainsUptoRow.holds Try.pinned (OpenSpec.upto quatChainsSpec)

/-- 'astrolabelaw6.QuatSigns', WHERE WHAT IT READS IS OF BULK AT MOST 1048576: true; the input reads as it did. -/
def quatSignsUptoRow : OpenClaim := { program := "ytnilajcdidhhbaa", sum := "d5cf3b43aa73bb4a62aa98bd66a57edd7b585f8b37d9407e081883c5a6afa438", func := "astrolabe/astrolabelaw6.QuatSigns", spec := "quatSigns", inPlace := ["math/bits.Add64", "math/bits.Sub64"], named := ["math/bits.divideError", "math/bits.overflowError"], apart := false, narrowed := true }
def QuatSignsUptoSaid : Prop := quatSignsUptoRow.holds Try.pinned (OpenSpec.upto quatSignsSpec)

/-- 'astrolabelaw6.QuatGroups', WHERE WHAT IT READS IS OF BULK AT MOST 1048576: true; the input reads as it did. -/
def quatGroupsUptoRow : OpenClaim := { program := "ytnilajcdidhhbaa", sum := "d5cf3b43aa73bb4a62aa98bd66a57edd7b585f8b37d9407e081883c5a6afa438", func := "astrolabe/astrolabelaw6.QuatGroups", spec := "quatGroups", inPlace := ["math/bits.Add64", "math/bits.Sub64"], named := ["math/bits.divideError", "math/bits.overflowError"], apart := false, narrowed := true }
def QuatGroupsUptoSaid : Prop := quatGroupsUptoRow.holds Try.pinned (OpenSpec.upto quatGroupsSpec)

end Rows
end Go.Proofs.Ytnilajcdidhhbaa
