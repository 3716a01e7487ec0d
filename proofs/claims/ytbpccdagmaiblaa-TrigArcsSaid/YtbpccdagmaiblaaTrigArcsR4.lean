/- astrolabelaw4.TrigArcs, run with facts told ahead. -/
import Derived.Test.YtbpccdagmaiblaaSxHa
import Derived.Test.YtbpccdagmaiblaaKB
namespace Go.Proofs.Ytbpccdagmaiblaa.trigArcs
open Go SX
def facts4 : List (Bool × A × A × Bool) := [(false, .k 1063004382, .x 1, false), (false, .x 1, .k (-1063004382), true)]
def ds4 : Defs := [
  (1, .conv .i64, [.x 0])]
abbrev rv4 : A := .k 1
set_option maxRecDepth 1000000 in
theorem ran4 : lawH [.one (some .i64)] facts4 ds4 rv4 (runPol lk U X sumsR never never0 100000 40 5 (startF [.one (some .i64)] facts4).1 (startF [.one (some .i64)] facts4).2) = true := by kernel_rfl
/-- What the names stand for. -/
theorem eqs4 {g : Sg} (h : EqsP g ds4) :
    (g 1 = wrapF .i64 (g 0)) ∧ True := h
theorem told4 {g : Sg} (h0 : ¬ ((1063004382 : Int) < g 1)) (h1 : g 1 < (-1063004382 : Int)) : FactsOk g facts4 :=
  ⟨fact_lt (decide_eq_false h0), fact_lt (decide_eq_true h1), trivial⟩
end Go.Proofs.Ytbpccdagmaiblaa.trigArcs
