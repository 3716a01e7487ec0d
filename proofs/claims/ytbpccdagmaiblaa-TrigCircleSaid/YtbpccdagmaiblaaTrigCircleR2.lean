/- astrolabelaw4.TrigCircle, run with facts told ahead. -/
import Derived.Test.YtbpccdagmaiblaaSxHa
import Derived.Test.YtbpccdagmaiblaaKB
namespace Go.Proofs.Ytbpccdagmaiblaa.trigCircle
open Go SX
def facts2 : List (Bool × A × A × Bool) := [(false, .x 1, .k (-8589934592), false), (false, .k 8589934592, .x 1, true)]
def ds2 : Defs := [
  (1, .conv .i64, [.x 0])]
abbrev rv2 : A := .k 1
set_option maxRecDepth 1000000 in
theorem ran2 : lawH [.one (some .i64)] facts2 ds2 rv2 (runPol lk U X sumsR never never0 100000 40 3 (startF [.one (some .i64)] facts2).1 (startF [.one (some .i64)] facts2).2) = true := by kernel_rfl
/-- What the names stand for. -/
theorem eqs2 {g : Sg} (h : EqsP g ds2) :
    (g 1 = wrapF .i64 (g 0)) ∧ True := h
theorem told2 {g : Sg} (h0 : ¬ (g 1 < (-8589934592 : Int))) (h1 : (8589934592 : Int) < g 1) : FactsOk g facts2 :=
  ⟨fact_lt (decide_eq_false h0), fact_lt (decide_eq_true h1), trivial⟩
end Go.Proofs.Ytbpccdagmaiblaa.trigCircle
