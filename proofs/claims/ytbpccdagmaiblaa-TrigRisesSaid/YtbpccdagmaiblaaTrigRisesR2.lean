/- astrolabelaw4.TrigRises, run with facts told ahead. -/
import Derived.Test.YtbpccdagmaiblaaSxHa
import Derived.Test.YtbpccdagmaiblaaTrigV
namespace Go.Proofs.Ytbpccdagmaiblaa.trigRises
open Go SX
def facts2 : List (Bool × A × A × Bool) := [(false, .x 2, .k (-1686629713), true)]
def ds2 : Defs := [
  (2, .conv .i64, [.x 0])]
abbrev rv2 : A := .k 1
set_option maxRecDepth 1000000 in
theorem ran2 : lawH [.one (some .i64), .one (some .i64)] facts2 ds2 rv2 (runPol lk U X sumsS never never0 100000 40 6 (startF [.one (some .i64), .one (some .i64)] facts2).1 (startF [.one (some .i64), .one (some .i64)] facts2).2) = true := by kernel_rfl
/-- What the names stand for. -/
theorem eqs2 {g : Sg} (h : EqsP g ds2) :
    (g 2 = wrapF .i64 (g 0)) ∧ True := h
theorem told2 {g : Sg} (h0 : g 2 < (-1686629713 : Int)) : FactsOk g facts2 :=
  ⟨fact_lt (decide_eq_true h0), trivial⟩
end Go.Proofs.Ytbpccdagmaiblaa.trigRises
