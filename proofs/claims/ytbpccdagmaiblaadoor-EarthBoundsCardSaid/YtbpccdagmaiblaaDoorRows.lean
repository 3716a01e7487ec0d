/-
  NARROWER THAN 'FOR EVERY INPUT', by the rows' own cells (each row's printed sentence says how): EarthKnown: laid · EarthSays: laid · EarthPlane: laid · EarthRound: laid · EarthBounds: laid.
  DERIVED. THE GIVEN ROWS OF THIS SEAT. 5 by the template 'for every input the law returns true; each argument reads behind the call as it read before'; 0 by the template 'total and deterministic' (their statements: YtbpccdagmaiblaaDoorTotals.lean).
  GIVEN WITH THE SEED: the statements are not yours to turn. If you find one false, say at which input.
  Laid BY PROGRAM, IN A SANDBOX (cutbox-rows.mjs): the forced cells as the released guide's own fill.sh prints them over the translation c940efb5fcb9dea5… (all of the seat's roots in one cut). By AI agents, Wed Nov 11 2026. No macro, syntax, notation, axiom, sorry.
-/
import Derived.Test.YtbpccdagmaiblaaDoorChecked
import GoSem.Claim
import GoSem.ClaimJoined
import GoSem.ClaimMapViews
import Derived.JoinedTies
import Derived.KernelRfl
namespace Go.Proofs.YtbpccdagmaiblaaDoor
/- THE CELL 'sum', in the pinned program and in every row, IS THE sha256 OF THE DUMP (.gsa) THAT YtbpccdagmaiblaaDoorProg.lean LOADS. Nothing in Lean hashes anything: it is a label: what it is worth is what the hold of that sum in a sandbox is worth. -/
noncomputable def Tryd.pinned : Pinned := { name := "ytbpccdagmaiblaadoor", sum := "c940efb5fcb9dea553d313cfe37ded240af10dc62ef25bd753bc50d4127114fc", checked := Tryd.checked }
namespace Rows
def none {H : Type} : Left H := { results := [], args := [] }

/- WHAT THE LISTED PACKAGE-LEVEL VARIABLES READ AS WHEN THE CALL BEGINS. Each datum BY PROGRAM (the guide's laid-datum.mjs) off the statement by which the dump's own 'gosem.cut.vars' lays the variable. In a bare row this is a premise. The card (YtbpccdagmaiblaaDoorCards.lean) ties it to the program's text. -/
def laid_astrolabe_earth_declinations {H : Type} : DataW H := .agg [.agg [.lit (.int .i64 3000), .lit (.int .i64 6000), .lit (.int .i64 (-2000)), .lit (.int .i64 (-1500)), .lit (.int .i64 (-6000)), .lit (.int .i64 (-9000)), .lit (.int .i64 3000)], .agg [.lit (.int .i64 2200), .lit (.int .i64 2500), .lit (.int .i64 500), .lit (.int .i64 (-2200)), .lit (.int .i64 (-3800)), .lit (.int .i64 0), .lit (.int .i64 2200)], .agg [.lit (.int .i64 950), .lit (.int .i64 900), .lit (.int .i64 (-1400)), .lit (.int .i64 (-500)), .lit (.int .i64 (-300)), .lit (.int .i64 100), .lit (.int .i64 950)], .agg [.lit (.int .i64 500), .lit (.int .i64 1500), .lit (.int .i64 (-1700)), .lit (.int .i64 100), .lit (.int .i64 700), .lit (.int .i64 (-800)), .lit (.int .i64 500)], .agg [.lit (.int .i64 1000), .lit (.int .i64 4000), .lit (.int .i64 (-3000)), .lit (.int .i64 500), .lit (.int .i64 3500), .lit (.int .i64 (-1200)), .lit (.int .i64 1000)]]

/-- 'astrolabelaw8.EarthKnown': WHATEVER THE INPUT: true; the input reads as it did. -/
def earthKnownSpec : ChangeSpec := { name := "earthKnown", fn := fun _ => fun
  | [] => { results := [.lit (.bool true)], args := [] }
  | _ => none }
def earthKnownRow : OpenClaim := { program := "ytbpccdagmaiblaadoor", sum := "c940efb5fcb9dea553d313cfe37ded240af10dc62ef25bd753bc50d4127114fc", func := "astrolabe/astrolabelaw8.EarthKnown", spec := "earthKnown", inPlace := ["math/bits.Sub64", "math/bits.Add64"], named := ["math/bits.divideError", "math/bits.overflowError", "astrolabe/earth.declinations"], apart := false, laid := [("astrolabe/earth.declinations", laid_astrolabe_earth_declinations)] }
def EarthKnownSaid : Prop := earthKnownRow.holds Tryd.pinned (OpenSpec.ofChange earthKnownSpec)

/-- ITS FALSE NEIGHBOUR: 'it returns false'. Refute it at one input. -/
def earthKnownWrong : ChangeSpec := { name := "earthKnown", fn := fun _ => fun
  | [] => { results := [.lit (.bool false)], args := [] }
  | _ => none }
def EarthKnownWrongFalsely : Prop := earthKnownRow.holds Tryd.pinned (OpenSpec.ofChange earthKnownWrong)

/-- 'astrolabelaw8.EarthSays': WHATEVER THE INPUT: true; the input reads as it did. -/
def earthSaysSpec : ChangeSpec := { name := "earthSays", fn := fun _ => fun
  | [d1, d2] => { results := [.lit (.bool true)], args := [d1, d2] }
  | _ => none }
def earthSaysRow : OpenClaim := { program := "ytbpccdagmaiblaadoor", sum := "c940efb5fcb9dea553d313cfe37ded240af10dc62ef25bd753bc50d4127114fc", func := "astrolabe/astrolabelaw8.EarthSays", spec := "earthSays", inPlace := ["math/bits.Sub64", "math/bits.Add64"], named := ["math/bits.divideError", "math/bits.overflowError", "astrolabe/earth.declinations"], apart := false, laid := [("astrolabe/earth.declinations", laid_astrolabe_earth_declinations)] }
def EarthSaysSaid : Prop := earthSaysRow.holds Tryd.pinned (OpenSpec.ofChange earthSaysSpec)

/-- ITS FALSE NEIGHBOUR: 'it returns false'. Refute it at one input. -/
def earthSaysWrong : ChangeSpec := { name := "earthSays", fn := fun _ => fun
  | [d1, d2] => { results := [.lit (.bool false)], args := [d1, d2] }
  | _ => none }
def EarthSaysWrongFalsely : Prop := earthSaysRow.holds Tryd.pinned (OpenSpec.ofChange earthSaysWrong)

/-- 'astrolabelaw8.EarthPlane': WHATEVER THE INPUT: true; the input reads as it did. -/
def earthPlaneSpec : ChangeSpec := { name := "earthPlane", fn := fun _ => fun
  | [d1, d2, d3, d4] => { results := [.lit (.bool true)], args := [d1, d2, d3, d4] }
  | _ => none }
def earthPlaneRow : OpenClaim := { program := "ytbpccdagmaiblaadoor", sum := "c940efb5fcb9dea553d313cfe37ded240af10dc62ef25bd753bc50d4127114fc", func := "astrolabe/astrolabelaw8.EarthPlane", spec := "earthPlane", inPlace := ["math/bits.Sub64", "math/bits.Add64"], named := ["math/bits.divideError", "math/bits.overflowError", "astrolabe/earth.declinations"], apart := false, laid := [("astrolabe/earth.declinations", laid_astrolabe_earth_declinations)] }
def EarthPlaneSaid : Prop := earthPlaneRow.holds Tryd.pinned (OpenSpec.ofChange earthPlaneSpec)

/-- ITS FALSE NEIGHBOUR: 'it returns false'. Refute it at one input. -/
def earthPlaneWrong : ChangeSpec := { name := "earthPlane", fn := fun _ => fun
  | [d1, d2, d3, d4] => { results := [.lit (.bool false)], args := [d1, d2, d3, d4] }
  | _ => none }
def EarthPlaneWrongFalsely : Prop := earthPlaneRow.holds Tryd.pinned (OpenSpec.ofChange earthPlaneWrong)

/-- 'astrolabelaw8.EarthRound': WHATEVER THE INPUT: true; the input reads as it did. -/
def earthRoundSpec : ChangeSpec := { name := "earthRound", fn := fun _ => fun
  | [d1, d2, d3] => { results := [.lit (.bool true)], args := [d1, d2, d3] }
  | _ => none }
def earthRoundRow : OpenClaim := { program := "ytbpccdagmaiblaadoor", sum := "c940efb5fcb9dea553d313cfe37ded240af10dc62ef25bd753bc50d4127114fc", func := "astrolabe/astrolabelaw8.EarthRound", spec := "earthRound", inPlace := ["math/bits.Sub64", "math/bits.Add64"], named := ["math/bits.divideError", "math/bits.overflowError", "astrolabe/earth.declinations"], apart := false, laid := [("astrolabe/earth.declinations", laid_astrolabe_earth_declinations)] }
def EarthRoundSaid : Prop := earthRoundRow.holds Tryd.pinned (OpenSpec.ofChange earthRoundSpec)

/-- ITS FALSE NEIGHBOUR: 'it returns false'. Refute it at one input. -/
def earthRoundWrong : ChangeSpec := { name := "earthRound", fn := fun _ => fun
  | [d1, d2, d3] => { results := [.lit (.bool false)], args := [d1, d2, d3] }
  | _ => none }
def EarthRoundWrongFalsely : Prop := earthRoundRow.holds Tryd.pinned (OpenSpec.ofChange earthRoundWrong)

/-- 'astrolabelaw8.EarthBounds': WHATEVER THE INPUT: true; the input reads as it did. -/
def earthBoundsSpec : ChangeSpec := { name := "earthBounds", fn := fun _ => fun
  | [d1, d2, d3] => { results := [.lit (.bool true)], args := [d1, d2, d3] }
  | _ => none }
def earthBoundsRow : OpenClaim := { program := "ytbpccdagmaiblaadoor", sum := "c940efb5fcb9dea553d313cfe37ded240af10dc62ef25bd753bc50d4127114fc", func := "astrolabe/astrolabelaw8.EarthBounds", spec := "earthBounds", inPlace := ["math/bits.Sub64", "math/bits.Add64"], named := ["math/bits.divideError", "math/bits.overflowError", "astrolabe/earth.declinations"], apart := false, laid := [("astrolabe/earth.declinations", laid_astrolabe_earth_declinations)] }
def EarthBoundsSaid : Prop := earthBoundsRow.holds Tryd.pinned (OpenSpec.ofChange earthBoundsSpec)

/-- ITS FALSE NEIGHBOUR: 'it returns false'. Refute it at one input. -/
def earthBoundsWrong : ChangeSpec := { name := "earthBounds", fn := fun _ => fun
  | [d1, d2, d3] => { results := [.lit (.bool false)], args := [d1, d2, d3] }
  | _ => none }
def EarthBoundsWrongFalsely : Prop := earthBoundsRow.holds Tryd.pinned (OpenSpec.ofChange earthBoundsWrong)

/- THE SECOND FORM. 'bulk': how many values and letters a reading holds, each counted each time it is reached (what is shared counts as often as it is met; a slice's spare places count too). A statement '..UptoSaid' is the law's where the arguments, and the package variables that the reading takes, are together of bulk at most 1048576: NARROWER than '..Said'. Prove '..Said' where nothing that the law and all that it calls make is longer than what came in: it says more and counts as full. Else prove '..UptoSaid'. A law counts once. -/
mutual
def uptoBulk {H : Type} : DataW H → Nat
  | .lit (.string bytes) => bytes.length + 1
  | .lit _ => 1
  | .nil => 1
  | .ptr d => uptoBulk d + 1
  | .slice elems spare => uptoBulkAll elems + uptoBulkAll spare + 1
  | .agg parts => uptoBulkAll parts + 1
  | .iface _ d => uptoBulk d + 1
  | .map entries => uptoBulkEntries entries + 1
  | .held _ => 1
def uptoBulkAll {H : Type} : List (DataW H) → Nat
  | [] => 0
  | d :: r => uptoBulk d + uptoBulkAll r
def uptoBulkEntries {H : Type} : List (Lit × DataW H) → Nat
  | [] => 0
  | x :: r => uptoBulkEntry x + uptoBulkEntries r
def uptoBulkEntry {H : Type} : Lit × DataW H → Nat
  | (.string bytes, d) => bytes.length + uptoBulk d + 1
  | (_, d) => uptoBulk d + 1
 end
def uptoSmall : (H : Type) → List (DataW H) → Bool := fun _ ds => decide (uptoBulkAll ds ≤ 1048576)
def OpenSpec.upto (s : _root_.Go.ChangeSpec) : _root_.Go.OpenSpec := { _root_.Go.OpenSpec.ofChange s with cond := some uptoSmall }

/-- 'astrolabelaw8.EarthKnown', WHERE WHAT IT READS IS OF BULK AT MOST 1048576: true; the input reads as it did. -/
def earthKnownUptoRow : OpenClaim := { program := "ytbpccdagmaiblaadoor", sum := "c940efb5fcb9dea553d313cfe37ded240af10dc62ef25bd753bc50d4127114fc", func := "astrolabe/astrolabelaw8.EarthKnown", spec := "earthKnown", inPlace := ["math/bits.Sub64", "math/bits.Add64"], named := ["math/bits.divideError", "math/bits.overflowError", "astrolabe/earth.declinations"], apart := false, laid := [("astrolabe/earth.declinations", laid_astrolabe_earth_declinations)], narrowed := true }
def EarthKnownUptoSaid : Prop := earthKnownUptoRow.holds Tryd.pinned (OpenSpec.upto earthKnownSpec)

/-- 'astrolabelaw8.EarthSays', WHERE WHAT IT READS IS OF BULK AT MOST 1048576: true; the input reads as it did. -/
def earthSaysUptoRow : OpenClaim := { program := "ytbpccdagmaiblaadoor", sum := "c940efb5fcb9dea553d313cfe37ded240af10dc62ef25bd753bc50d4127114fc", func := "astrolabe/astrolabelaw8.EarthSays", spec := "earthSays", inPlace := ["math/bits.Sub64", "math/bits.Add64"], named := ["math/bits.divideError", "math/bits.overflowError", "astrolabe/earth.declinations"], apart := false, laid := [("astrolabe/earth.declinations", laid_astrolabe_earth_declinations)], narrowed := true }
def EarthSaysUptoSaid : Prop := earthSaysUptoRow.holds Tryd.pinned (OpenSpec.upto earthSaysSpec)

/-- 'astrolabelaw8.EarthPlane', WHERE WHAT IT READS IS OF BULK AT MOST 1048576: true; the input reads as it did. -/
def earthPlaneUptoRow : OpenClaim := { program := "ytbpccdagmaiblaadoor", sum := "c940efb5fcb9dea553d313cfe37ded240af10dc62ef25bd753bc50d4127114fc", func := "astrolabe/astrolabelaw8.EarthPlane", spec := "earthPlane", inPlace := ["math/bits.Sub64", "math/bits.Add64"], named := ["math/bits.divideError", "math/bits.overflowError", "astrolabe/earth.declinations"], apart := false, laid := [("astrolabe/earth.declinations", laid_astrolabe_earth_declinations)], narrowed := true }
def EarthPlaneUptoSaid : Prop := earthPlaneUptoRow.holds Tryd.pinned (OpenSpec.upto earthPlaneSpec)

/-- 'astrolabelaw8.EarthRound', WHERE WHAT IT READS IS OF BULK AT MOST 1048576: true; the input reads as it did. -/
def earthRoundUptoRow : OpenClaim := { program := "ytbpccdagmaiblaadoor", sum := "c940efb5fcb9dea553d313cfe37ded240af10dc62ef25bd753bc50d4127114fc", func := "astrolabe/astrolabelaw8.EarthRound", spec := "earthRound", inPlace := ["math/bits.Sub64", "math/bits.Add64"], named := ["math/bits.divideError", "math/bits.overflowError", "astrolabe/earth.declinations"], apart := false, laid := [("astrolabe/earth.declinations", laid_astrolabe_earth_declinations)], narrowed := true }
def EarthRoundUptoSaid : Prop := earthRoundUptoRow.holds Tryd.pinned (OpenSpec.upto earthRoundSpec)

/-- 'astrolabelaw8.EarthBounds', WHERE WHAT IT READS IS OF BULK AT MOST 1048576: true; the input reads as it did. -/
def earthBoundsUptoRow : OpenClaim := { program := "ytbpccdagmaiblaadoor", sum := "c940efb5fcb9dea553d313cfe37ded240af10dc62ef25bd753bc50d4127114fc", func := "astrolabe/astrolabelaw8.EarthBounds", spec := "earthBounds", inPlace := ["math/bits.Sub64", "math/bits.Add64"], named := ["math/bits.divideError", "math/bits.overflowError", "astrolabe/earth.declinations"], apart := false, laid := [("astrolabe/earth.declinations", laid_astrolabe_earth_declinations)], narrowed := true }
def EarthBoundsUptoSaid : Prop := earthBoundsUptoRow.holds Tryd.pinned (OpenSpec.upto earthBoundsSpec)

end Rows
end Go.Proofs.YtbpccdagmaiblaaDoor
