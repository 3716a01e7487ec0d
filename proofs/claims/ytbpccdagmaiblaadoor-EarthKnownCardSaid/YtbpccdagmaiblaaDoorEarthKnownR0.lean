/- astrolabelaw8.EarthKnown, run with facts told ahead. -/
import Derived.Test.YtbpccdagmaiblaaDoorSxHg
import Derived.Test.YtbpccdagmaiblaaDoorEarthT
namespace Go.Proofs.YtbpccdagmaiblaaDoor.earthKnown
open Go SX
def facts0 : List (Bool × A × A × Bool) := []
def ds0 : Defs := [
  ]
abbrev rv0 : A := .k 1
set_option maxRecDepth 1000000 in
theorem ran0 : lawG tbE [] facts0 ds0 rv0 (runPol lk U X sumsE never never0 100000 40 3 (startG tbE [] facts0).1 (startG tbE [] facts0).2) = true := by kernel_rfl
/-- What the names stand for. -/
theorem eqs0 {g : Sg} (h : EqsP g ds0) :
    True := h
theorem told0 {g : Sg} : FactsOk g facts0 := trivial
end Go.Proofs.YtbpccdagmaiblaaDoor.earthKnown
