/- astrolabelaw4.TrigArcs, run with facts told ahead. -/
import Derived.Test.YtbpccdagmaiblaaSxHa
import Derived.Test.YtbpccdagmaiblaaKB
namespace Go.Proofs.Ytbpccdagmaiblaa.trigArcs
open Go SX
def facts3 : List (Bool × A × A × Bool) := [(false, .k 1063004382, .x 1, true)]
def ds3 : Defs := [
  (1, .conv .i64, [.x 0])]
abbrev rv3 : A := .k 1
set_option maxRecDepth 1000000 in
theorem ran3 : lawH [.one (some .i64)] facts3 ds3 rv3 (runPol lk U X sumsR never never0 100000 40 5 (startF [.one (some .i64)] facts3).1 (startF [.one (some .i64)] facts3).2) = true := by kernel_rfl
/-- What the names stand for. -/
theorem eqs3 {g : Sg} (h : EqsP g ds3) :
    (g 1 = wrapF .i64 (g 0)) ∧ True := h
theorem told3 {g : Sg} (h0 : (1063004382 : Int) < g 1) : FactsOk g facts3 :=
  ⟨fact_lt (decide_eq_true h0), trivial⟩
end Go.Proofs.Ytbpccdagmaiblaa.trigArcs
