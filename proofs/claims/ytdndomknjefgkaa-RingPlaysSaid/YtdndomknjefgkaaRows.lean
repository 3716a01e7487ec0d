/-
  No cell of these rows narrows 'for every input' (looked for: loops, veiled, ifaces, maps, wideKeys, modest, calm, conditions, laid).
  DERIVED. THE GIVEN ROWS OF THIS SEAT. 5 by the template 'for every input the law returns true; each argument reads behind the call as it read before'; 0 by the template 'total and deterministic' (their statements: YtdndomknjefgkaaTotals.lean).
  GIVEN WITH THE SEED: the statements are not yours to turn. If you find one false, say at which input.
  Laid BY PROGRAM, IN A SANDBOX (cutbox-rows.mjs): the forced cells as the released guide's own fill.sh prints them over the translation bd2a2d9012bd7369… (all of the seat's roots in one cut). By AI agents, Wed Nov 11 2026. No macro, syntax, notation, axiom, sorry.
-/
import Derived.Test.YtdndomknjefgkaaChecked
import GoSem.Claim
import GoSem.ClaimJoined
import GoSem.ClaimMapViews
import Derived.JoinedTies
import Derived.KernelRfl
namespace Go.Proofs.Ytdndomknjefgkaa
/- THE CELL 'sum', in the pinned program and in every row, IS THE sha256 OF THE DUMP (.gsa) THAT YtdndomknjefgkaaProg.lean LOADS. Nothing in Lean hashes anything: it is a label: what it is worth is what the hold of that sum in a sandbox is worth. -/
noncomputable def Try.pinned : Pinned := { name := "ytdndomknjefgkaa", sum := "bd2a2d9012bd7369e0642457d808a5d2a03a55ed3bd7b388b48eca2a11f4a8f2", checked := Try.checked }
namespace Rows
def none {H : Type} : Left H := { results := [], args := [] }

/-- 'astrolabelaw14.DownsKnown': WHATEVER THE INPUT: true; the input reads as it did. -/
def downsKnownSpec : ChangeSpec := { name := "downsKnown", fn := fun _ => fun
  | [] => { results := [.lit (.bool true)], args := [] }
  | _ => none }
def downsKnownRow : OpenClaim := { program := "ytdndomknjefgkaa", sum := "bd2a2d9012bd7369e0642457d808a5d2a03a55ed3bd7b388b48eca2a11f4a8f2", func := "astrolabe/astrolabelaw14.DownsKnown", spec := "downsKnown", inPlace := ["math/bits.Add64", "math/bits.Sub64"], apart := false }
def DownsKnownSaid : Prop := downsKnownRow.holds Try.pinned (OpenSpec.ofChange downsKnownSpec)

/-- ITS FALSE NEIGHBOUR: 'it returns false'. Refute it at one input. -/
def downsKnownWrong : ChangeSpec := { name := "downsKnown", fn := fun _ => fun
  | [] => { results := [.lit (.bool false)], args := [] }
  | _ => none }
def DownsKnownWrongFalsely : Prop := downsKnownRow.holds Try.pinned (OpenSpec.ofChange downsKnownWrong)

/-- 'astrolabelaw14.DownsPlays': WHATEVER THE INPUT: true; the input reads as it did. -/
def downsPlaysSpec : ChangeSpec := { name := "downsPlays", fn := fun _ => fun
  | [d1, d2] => { results := [.lit (.bool true)], args := [d1, d2] }
  | _ => none }
def downsPlaysRow : OpenClaim := { program := "ytdndomknjefgkaa", sum := "bd2a2d9012bd7369e0642457d808a5d2a03a55ed3bd7b388b48eca2a11f4a8f2", func := "astrolabe/astrolabelaw14.DownsPlays", spec := "downsPlays", inPlace := ["math/bits.Add64", "math/bits.Sub64"], apart := false }
def DownsPlaysSaid : Prop := downsPlaysRow.holds Try.pinned (OpenSpec.ofChange downsPlaysSpec)

/-- ITS FALSE NEIGHBOUR: 'it returns false'. Refute it at one input. -/
def downsPlaysWrong : ChangeSpec := { name := "downsPlays", fn := fun _ => fun
  | [d1, d2] => { results := [.lit (.bool false)], args := [d1, d2] }
  | _ => none }
def DownsPlaysWrongFalsely : Prop := downsPlaysRow.holds Try.pinned (OpenSpec.ofChange downsPlaysWrong)

/-- 'astrolabelaw14.DownsJoins': WHATEVER THE INPUT: true; the input reads as it did. -/
def downsJoinsSpec : ChangeSpec := { name := "downsJoins", fn := fun _ => fun
  | [d1, d2] => { results := [.lit (.bool true)], args := [d1, d2] }
  | _ => none }
def downsJoinsRow : OpenClaim := { program := "ytdndomknjefgkaa", sum := "bd2a2d9012bd7369e0642457d808a5d2a03a55ed3bd7b388b48eca2a11f4a8f2", func := "astrolabe/astrolabelaw14.DownsJoins", spec := "downsJoins", inPlace := ["math/bits.Add64", "math/bits.Sub64"], apart := false }
def DownsJoinsSaid : Prop := downsJoinsRow.holds Try.pinned (OpenSpec.ofChange downsJoinsSpec)

/-- ITS FALSE NEIGHBOUR: 'it returns false'. Refute it at one input. -/
def downsJoinsWrong : ChangeSpec := { name := "downsJoins", fn := fun _ => fun
  | [d1, d2] => { results := [.lit (.bool false)], args := [d1, d2] }
  | _ => none }
def DownsJoinsWrongFalsely : Prop := downsJoinsRow.holds Try.pinned (OpenSpec.ofChange downsJoinsWrong)

/-- 'astrolabelaw14.DownsSplits': WHATEVER THE INPUT: true; the input reads as it did. -/
def downsSplitsSpec : ChangeSpec := { name := "downsSplits", fn := fun _ => fun
  | [d1, d2, d3, d4] => { results := [.lit (.bool true)], args := [d1, d2, d3, d4] }
  | _ => none }
def downsSplitsRow : OpenClaim := { program := "ytdndomknjefgkaa", sum := "bd2a2d9012bd7369e0642457d808a5d2a03a55ed3bd7b388b48eca2a11f4a8f2", func := "astrolabe/astrolabelaw14.DownsSplits", spec := "downsSplits", inPlace := ["math/bits.Add64", "math/bits.Sub64"], apart := false }
def DownsSplitsSaid : Prop := downsSplitsRow.holds Try.pinned (OpenSpec.ofChange downsSplitsSpec)

/-- ITS FALSE NEIGHBOUR: 'it returns false'. Refute it at one input. -/
def downsSplitsWrong : ChangeSpec := { name := "downsSplits", fn := fun _ => fun
  | [d1, d2, d3, d4] => { results := [.lit (.bool false)], args := [d1, d2, d3, d4] }
  | _ => none }
def DownsSplitsWrongFalsely : Prop := downsSplitsRow.holds Try.pinned (OpenSpec.ofChange downsSplitsWrong)

/-- 'astrolabelaw13.RingPlays': WHATEVER THE INPUT: true; the input reads as it did. -/
def ringPlaysSpec : ChangeSpec := { name := "ringPlays", fn := fun _ => fun
  | [d1, d2] => { results := [.lit (.bool true)], args := [d1, d2] }
  | _ => none }
def ringPlaysRow : OpenClaim := { program := "ytdndomknjefgkaa", sum := "bd2a2d9012bd7369e0642457d808a5d2a03a55ed3bd7b388b48eca2a11f4a8f2", func := "astrolabe/astrolabelaw13.RingPlays", spec := "ringPlays", inPlace := ["slices.overlaps[astrolabe/api.Sample]"], unfollowed := true, recurses := true, apart := false }
def RingPlaysSaid : Prop := ringPlaysRow.holds Try.pinned (OpenSpec.ofChange ringPlaysSpec)

/-- ITS FALSE NEIGHBOUR: 'it returns false'. Refute it at one input. -/
def ringPlaysWrong : ChangeSpec := { name := "ringPlays", fn := fun _ => fun
  | [d1, d2] => { results := [.lit (.bool false)], args := [d1, d2] }
  | _ => none }
def RingPlaysWrongFalsely : Prop := ringPlaysRow.holds Try.pinned (OpenSpec.ofChange ringPlaysWrong)

/- THE SECOND FORM. 'bulk': how many values and letters a reading holds, each counted each time it is reached (what is shared counts as often as it is met; a slice's spare places count too). A statement '..UptoSaid' is the law's where the arguments, and the package variables that the reading takes, are together of bulk at most 1048576: NARROWER than '..Said'. Prove '..Said' where nothing that the law and all that it calls make is longer than what came in: it says more and counts as full. Else prove '..UptoSaid'. A law counts once. -/
mutual
def uptoBulk {H : Type} : DataW H → Nat
  | .lit (.string bytes) => bytes.length + 1
  | .lit _ => 1
  | .nil => 1
  | .ptr d => uptoBulk d + 1
  | .slice elems spare => uptoBulkAll elems + uptoBulkAll spare + 1
  | .agg parts => uptoBulkAll parts + 1
  | .iface _ d => uptoBulk d + 1
  | .map entries => uptoBulkEntries entries + 1
  | .held _ => 1
def uptoBulkAll {H : Type} : List (DataW H) → Nat
  | [] => 0
  | d :: r => uptoBulk d + uptoBulkAll r
def uptoBulkEntries {H : Type} : List (Lit × DataW H) → Nat
  | [] => 0
  | x :: r => uptoBulkEntry x + uptoBulkEntries r
def uptoBulkEntry {H : Type} : Lit × DataW H → Nat
  | (.string bytes, d) => bytes.length + uptoBulk d + 1
  | (_, d) => uptoBulk d + 1
 end
def uptoSmall : (H : Type) → List (DataW H) → Bool := fun _ ds => decide (uptoBulkAll ds ≤ 1048576)
def OpenSpec.upto (s : _root_.Go.ChangeSpec) : _root_.Go.OpenSpec := { _root_.Go.OpenSpec.ofChange s with cond := some uptoSmall }

/-- 'astrolabelaw14.DownsKnown', WHERE WHAT IT READS IS OF BULK AT MOST 1048576: true; the input reads as it did. -/
def downsKnownUptoRow : OpenClaim := { program := "ytdndomknjefgkaa", sum := "bd2a2d9012bd7369e0642457d808a5d2a03a55ed3bd7b388b48eca2a11f4a8f2", func := "astrolabe/astrolabelaw14.DownsKnown", spec := "downsKnown", inPlace := ["math/bits.Add64", "math/bits.Sub64"], apart := false, narrowed := true }
def DownsKnownUptoSaid : Prop := downsKnownUptoRow.holds Try.pinned (OpenSpec.upto downsKnownSpec)

/-- 'astrolabelaw14.DownsPlays', WHERE WHAT IT READS IS OF BULK AT MOST 1048576: true; the input reads as it did. -/
def downsPlaysUptoRow : OpenClaim := { program := "ytdndomknjefgkaa", sum := "bd2a2d9012bd7369e0642457d808a5d2a03a55ed3bd7b388b48eca2a11f4a8f2", func := "astrolabe/astrolabelaw14.DownsPlays", spec := "downsPlays", inPlace := ["math/bits.Add64", "math/bits.Sub64"], apart := false, narrowed := true }
def DownsPlaysUptoSaid : Prop := downsPlaysUptoRow.holds Try.pinned (OpenSpec.upto downsPlaysSpec)

/-- 'astrolabelaw14.DownsJoins', WHERE WHAT IT READS IS OF BULK AT MOST 1048576: true; the input reads as it did. -/
def downsJoinsUptoRow : OpenClaim := { program := "ytdndomknjefgkaa", sum := "bd2a2d9012bd7369e0642457d808a5d2a03a55ed3bd7b388b48eca2a11f4a8f2", func := "astrolabe/astrolabelaw14.DownsJoins", spec := "downsJoins", inPlace := ["math/bits.Add64", "math/bits.Sub64"], apart := false, narrowed := true }
def DownsJoinsUptoSaid : Prop := downsJoinsUptoRow.holds Try.pinned (OpenSpec.upto downsJoinsSpec)

/-- 'astrolabelaw14.DownsSplits', WHERE WHAT IT READS IS OF BULK AT MOST 1048576: true; the input reads as it did. -/
def downsSplitsUptoRow : OpenClaim := { program := "ytdndomknjefgkaa", sum := "bd2a2d9012bd7369e0642457d808a5d2a03a55ed3bd7b388b48eca2a11f4a8f2", func := "astrolabe/astrolabelaw14.DownsSplits", spec := "downsSplits", inPlace := ["math/bits.Add64", "math/bits.Sub64"], apart := false, narrowed := true }
def DownsSplitsUptoSaid : Prop := downsSplitsUptoRow.holds Try.pinned (OpenSpec.upto downsSplitsSpec)

/-- 'astrolabelaw13.RingPlays', WHERE WHAT IT READS IS OF BULK AT MOST 1048576: true; the input reads as it did. -/
def ringPlaysUptoRow : OpenClaim := { program := "ytdndomknjefgkaa", sum := "bd2a2d9012bd7369e0642457d808a5d2a03a55ed3bd7b388b48eca2a11f4a8f2", func := "astrolabe/astrolabelaw13.RingPlays", spec := "ringPlays", inPlace := ["slices.overlaps[astrolabe/api.Sample]"], unfollowed := true, recurses := true, apart := false, narrowed := true }
def RingPlaysUptoSaid : Prop := ringPlaysUptoRow.holds Try.pinned (OpenSpec.upto ringPlaysSpec)

end Rows
end Go.Proofs.Ytdndomknjefgkaa
