/- astrolabelaw4.TrigArcs, run with facts told ahead. -/
import Derived.Test.YtbpccdagmaiblaaSxHa
import Derived.Test.YtbpccdagmaiblaaKB
namespace Go.Proofs.Ytbpccdagmaiblaa.trigArcs
open Go SX
def facts2 : List (Bool × A × A × Bool) := [(false, .k 1063004382, .x 1, false), (false, .x 1, .k (-1063004382), false), (false, .k 1024, .x 10, false), (false, .x 10, .k (-1024), false), (false, .k 3373259426, .x 7, false), (false, .x 7, .k (-3373259426), false), (false, .k 0, .x 1, false), (false, .x 1, .k 0, false), (false, .k 0, .x 7, false), (false, .x 7, .k 0, false)]
def ds2 : Defs := [
  (1, .conv .i64, [.x 0]),
  (4, .u 2, [.x 1, .x 1, .k 30]),
  (5, .lin (1073741824) [(-1)], [.x 4]),
  (6, .u 30, [.x 5]),
  (7, .u 38, [.x 1, .x 6]),
  (8, .u 39, [.x 1, .x 6]),
  (9, .u 36, [.x 7]),
  (10, .lin (0) [(-1), (1)], [.x 1, .x 9]),
  (17, .not, [.x 8])]
abbrev rv2 : A := .x 17
set_option maxRecDepth 1000000 in
theorem ran2 : lawH [.one (some .i64)] facts2 ds2 rv2 (runPol lk U X sumsR never never0 100000 40 5 (startF [.one (some .i64)] facts2).1 (startF [.one (some .i64)] facts2).2) = true := by kernel_rfl
/-- What the names stand for. -/
theorem eqs2 {g : Sg} (h : EqsP g ds2) :
    (g 1 = wrapF .i64 (g 0)) ∧
    (g 4 = U 2 [g 1, g 1, (30)]) ∧
    (g 5 = (-1) * g 4 + (1073741824)) ∧
    (g 6 = U 30 [g 5]) ∧
    (g 7 = U 38 [g 1, g 6]) ∧
    (g 8 = U 39 [g 1, g 6]) ∧
    (g 9 = U 36 [g 7]) ∧
    (g 10 = (-1) * g 1 + ((1) * g 9 + (0))) ∧
    (g 17 = b2i (!ieq (g 8) 1)) ∧ True := h
theorem told2 {g : Sg} (h0 : ¬ ((1063004382 : Int) < g 1)) (h1 : ¬ (g 1 < (-1063004382 : Int))) (h2 : ¬ ((1024 : Int) < g 10)) (h3 : ¬ (g 10 < (-1024 : Int))) (h4 : ¬ ((3373259426 : Int) < g 7)) (h5 : ¬ (g 7 < (-3373259426 : Int))) (h6 : ¬ ((0 : Int) < g 1)) (h7 : ¬ (g 1 < (0 : Int))) (h8 : ¬ ((0 : Int) < g 7)) (h9 : ¬ (g 7 < (0 : Int))) : FactsOk g facts2 :=
  ⟨fact_lt (decide_eq_false h0), fact_lt (decide_eq_false h1), fact_lt (decide_eq_false h2), fact_lt (decide_eq_false h3), fact_lt (decide_eq_false h4), fact_lt (decide_eq_false h5), fact_lt (decide_eq_false h6), fact_lt (decide_eq_false h7), fact_lt (decide_eq_false h8), fact_lt (decide_eq_false h9), trivial⟩
end Go.Proofs.Ytbpccdagmaiblaa.trigArcs
