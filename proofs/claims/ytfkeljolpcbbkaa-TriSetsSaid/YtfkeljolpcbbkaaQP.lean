/- Package root: the root of a scalar. -/
import Derived.Test.YtfkeljolpcbbkaaPD
import Derived.Test.YtfkeljolpcbbkaaPC
namespace Go.Proofs.Ytfkeljolpcbbkaa
open Go.RowKit

def sqw (a : Int) : Int := if satv a < 0 then 0 else (rootN ((satv a).natAbs * 2 ^ 30) : Nat)
end Go.Proofs.Ytfkeljolpcbbkaa
