/- astrolabelaw4.TrigRises, run with facts told ahead. -/
import Derived.Test.YtbpccdagmaiblaaSxHa
import Derived.Test.YtbpccdagmaiblaaTrigV
namespace Go.Proofs.Ytbpccdagmaiblaa.trigRises
open Go SX
def facts5 : List (Bool × A × A × Bool) := [(false, .x 2, .k (-1686629713), false), (false, .k 1686629713, .x 3, false), (false, .x 3, .x 2, true), (false, .x 6, .k 65536, true)]
def ds5 : Defs := [
  (2, .conv .i64, [.x 0]),
  (3, .conv .i64, [.x 1]),
  (6, .iop .sub .i64, [.x 3, .x 2])]
abbrev rv5 : A := .k 1
set_option maxRecDepth 1000000 in
theorem ran5 : lawH [.one (some .i64), .one (some .i64)] facts5 ds5 rv5 (runPol lk U X sumsS never never0 100000 40 6 (startF [.one (some .i64), .one (some .i64)] facts5).1 (startF [.one (some .i64), .one (some .i64)] facts5).2) = true := by kernel_rfl
/-- What the names stand for. -/
theorem eqs5 {g : Sg} (h : EqsP g ds5) :
    (g 2 = wrapF .i64 (g 0)) ∧
    (g 3 = wrapF .i64 (g 1)) ∧
    (g 6 = mean U (.iop .sub .i64) [g 3, g 2]) ∧ True := h
theorem told5 {g : Sg} (h0 : ¬ (g 2 < (-1686629713 : Int))) (h1 : ¬ ((1686629713 : Int) < g 3)) (h2 : g 3 < g 2) (h3 : g 6 < (65536 : Int)) : FactsOk g facts5 :=
  ⟨fact_lt (decide_eq_false h0), fact_lt (decide_eq_false h1), fact_lt (decide_eq_true h2), fact_lt (decide_eq_true h3), trivial⟩
end Go.Proofs.Ytbpccdagmaiblaa.trigRises
