/- astrolabelaw4.TrigRises, run with facts told ahead. -/
import Derived.Test.YtbpccdagmaiblaaSxHa
import Derived.Test.YtbpccdagmaiblaaTrigV
namespace Go.Proofs.Ytbpccdagmaiblaa.trigRises
open Go SX
def facts0 : List (Bool × A × A × Bool) := [(false, .x 2, .k (-1686629713), false), (false, .k 1686629713, .x 3, false), (false, .x 3, .x 2, false), (false, .x 6, .k 65536, false), (false, .x 2, .k 0, true), (false, .x 11, .x 9, false)]
def ds0 : Defs := [
  (2, .conv .i64, [.x 0]),
  (3, .conv .i64, [.x 1]),
  (6, .lin (0) [(-1), (1)], [.x 2, .x 3]),
  (9, .u 36, [.x 2]),
  (10, .u 36, [.x 3]),
  (11, .lin (64) [(1)], [.x 10])]
abbrev rv0 : A := .k 1
set_option maxRecDepth 1000000 in
theorem ran0 : lawH [.one (some .i64), .one (some .i64)] facts0 ds0 rv0 (runPol lk U X sumsS never never0 100000 40 6 (startF [.one (some .i64), .one (some .i64)] facts0).1 (startF [.one (some .i64), .one (some .i64)] facts0).2) = true := by kernel_rfl
/-- What the names stand for. -/
theorem eqs0 {g : Sg} (h : EqsP g ds0) :
    (g 2 = wrapF .i64 (g 0)) ∧
    (g 3 = wrapF .i64 (g 1)) ∧
    (g 6 = (-1) * g 2 + ((1) * g 3 + (0))) ∧
    (g 9 = U 36 [g 2]) ∧
    (g 10 = U 36 [g 3]) ∧
    (g 11 = (1) * g 10 + (64)) ∧ True := h
theorem told0 {g : Sg} (h0 : ¬ (g 2 < (-1686629713 : Int))) (h1 : ¬ ((1686629713 : Int) < g 3)) (h2 : ¬ (g 3 < g 2)) (h3 : ¬ (g 6 < (65536 : Int))) (h4 : g 2 < (0 : Int)) (h5 : ¬ (g 11 < g 9)) : FactsOk g facts0 :=
  ⟨fact_lt (decide_eq_false h0), fact_lt (decide_eq_false h1), fact_lt (decide_eq_false h2), fact_lt (decide_eq_false h3), fact_lt (decide_eq_true h4), fact_lt (decide_eq_false h5), trivial⟩
end Go.Proofs.Ytbpccdagmaiblaa.trigRises
