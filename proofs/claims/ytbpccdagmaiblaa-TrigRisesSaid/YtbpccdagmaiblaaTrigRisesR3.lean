/- astrolabelaw4.TrigRises, run with facts told ahead. -/
import Derived.Test.YtbpccdagmaiblaaSxHa
import Derived.Test.YtbpccdagmaiblaaTrigV
namespace Go.Proofs.Ytbpccdagmaiblaa.trigRises
open Go SX
def facts3 : List (Bool × A × A × Bool) := [(false, .x 2, .k (-1686629713), false), (false, .k 1686629713, .x 3, true)]
def ds3 : Defs := [
  (2, .conv .i64, [.x 0]),
  (3, .conv .i64, [.x 1])]
abbrev rv3 : A := .k 1
set_option maxRecDepth 1000000 in
theorem ran3 : lawH [.one (some .i64), .one (some .i64)] facts3 ds3 rv3 (runPol lk U X sumsS never never0 100000 40 6 (startF [.one (some .i64), .one (some .i64)] facts3).1 (startF [.one (some .i64), .one (some .i64)] facts3).2) = true := by kernel_rfl
/-- What the names stand for. -/
theorem eqs3 {g : Sg} (h : EqsP g ds3) :
    (g 2 = wrapF .i64 (g 0)) ∧
    (g 3 = wrapF .i64 (g 1)) ∧ True := h
theorem told3 {g : Sg} (h0 : ¬ (g 2 < (-1686629713 : Int))) (h1 : (1686629713 : Int) < g 3) : FactsOk g facts3 :=
  ⟨fact_lt (decide_eq_false h0), fact_lt (decide_eq_true h1), trivial⟩
end Go.Proofs.Ytbpccdagmaiblaa.trigRises
