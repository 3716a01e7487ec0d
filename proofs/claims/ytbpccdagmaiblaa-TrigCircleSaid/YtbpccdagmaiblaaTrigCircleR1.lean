/- astrolabelaw4.TrigCircle, run with facts told ahead. -/
import Derived.Test.YtbpccdagmaiblaaSxHa
import Derived.Test.YtbpccdagmaiblaaKB
namespace Go.Proofs.Ytbpccdagmaiblaa.trigCircle
open Go SX
def facts1 : List (Bool × A × A × Bool) := [(false, .x 1, .k (-8589934592), true)]
def ds1 : Defs := [
  (1, .conv .i64, [.x 0])]
abbrev rv1 : A := .k 1
set_option maxRecDepth 1000000 in
theorem ran1 : lawH [.one (some .i64)] facts1 ds1 rv1 (runPol lk U X sumsR never never0 100000 40 3 (startF [.one (some .i64)] facts1).1 (startF [.one (some .i64)] facts1).2) = true := by kernel_rfl
/-- What the names stand for. -/
theorem eqs1 {g : Sg} (h : EqsP g ds1) :
    (g 1 = wrapF .i64 (g 0)) ∧ True := h
theorem told1 {g : Sg} (h0 : g 1 < (-8589934592 : Int)) : FactsOk g facts1 :=
  ⟨fact_lt (decide_eq_true h0), trivial⟩
end Go.Proofs.Ytbpccdagmaiblaa.trigCircle
