/- astrolabelaw8.EarthPlane, run with facts told ahead. -/
import Derived.Test.YtbpccdagmaiblaaDoorSxHg
import Derived.Test.YtbpccdagmaiblaaDoorEarthT
namespace Go.Proofs.YtbpccdagmaiblaaDoor.earthPlane
open Go SX
def facts1 : List (Bool × A × A × Bool) := [(false, .x 6, .k (-800000000), false), (false, .k 800000000, .x 6, false), (false, .x 7, .k (-1800000000), false), (false, .k 1800000000, .x 7, false), (false, .x 8, .k (-90000000), false), (false, .k 90000000, .x 8, false), (false, .x 9, .k 1, false), (false, .k 10000000, .x 9, false), (false, .x 10, .k 1, false), (false, .k 10000000, .x 10, false), (false, .x 11, .k 1, false), (false, .k 10000000, .x 11, false), (false, .k 90000000, .x 46, true), (false, .k 1070000000, .x 50, true), (false, .x 50, .k 1073741830, true), (false, .k 1800000000, .x 57, false), (false, .k 0, .x 80, true), (false, .k 0, .x 83, true), (false, .x 84, .k 0, true), (false, .x 90, .x 86, false), (false, .x 86, .x 93, false)]
def ds1 : Defs := [
  (6, .conv .i64, [.x 0]),
  (7, .conv .i64, [.x 1]),
  (8, .conv .i64, [.x 2]),
  (9, .conv .i64, [.x 3]),
  (10, .conv .i64, [.x 4]),
  (11, .conv .i64, [.x 5]),
  (41, .u 6, [.x 6, .k 3373259426, .k 1800000000]),
  (42, .u 36, [.x 41]),
  (45, .lin (1686629713) [(1)], [.x 41]),
  (46, .u 36, [.x 45]),
  (47, .u 2, [.x 42, .x 42, .k 30]),
  (48, .u 2, [.x 47, .k 7188036, .k 30]),
  (49, .lin (1073741824) [(-1)], [.x 48]),
  (50, .u 30, [.x 49]),
  (51, .u 4, [.k 6531212288, .x 50, .k 30]),
  (52, .u 2, [.x 49, .x 50, .k 30]),
  (53, .u 4, [.k 6487489870, .x 52, .k 30]),
  (54, .u 6, [.x 53, .k 3373259426, .k 1800000000]),
  (55, .u 2, [.x 46, .x 51, .k 30]),
  (56, .u 6, [.x 55, .k 3373259426, .k 1800000000]),
  (57, .lin (0) [(1), (1)], [.x 7, .x 10]),
  (79, .lin (0) [(-1)], [.x 11]),
  (80, .u 2, [.x 9, .x 54, .k 10]),
  (83, .u 2, [.x 10, .x 56, .k 10]),
  (84, .u 6, [.x 79, .k 1073741824, .k 1000]),
  (86, .lin (0) [(-11860000), (1)], [.x 9, .x 80]),
  (90, .lin (0) [(200000)], [.x 9]),
  (93, .lin (0) [(-200000)], [.x 9])]
abbrev rv1 : A := .k 1
set_option maxRecDepth 1000000 in
theorem ran1 : lawG tbE [.agg [some .i64, some .i64, some .i64], .one (some .i64), .one (some .i64), .one (some .i64)] facts1 ds1 rv1 (runPol lk U X sumsW (fun f => Nat.beq f 18 || Nat.beq f 28) never0 100000 40 5 (startG tbE [.agg [some .i64, some .i64, some .i64], .one (some .i64), .one (some .i64), .one (some .i64)] facts1).1 (startG tbE [.agg [some .i64, some .i64, some .i64], .one (some .i64), .one (some .i64), .one (some .i64)] facts1).2) = true := by kernel_rfl
/-- What the names stand for. -/
theorem eqs1 {g : Sg} (h : EqsP g ds1) :
    (g 6 = wrapF .i64 (g 0)) ∧
    (g 7 = wrapF .i64 (g 1)) ∧
    (g 8 = wrapF .i64 (g 2)) ∧
    (g 9 = wrapF .i64 (g 3)) ∧
    (g 10 = wrapF .i64 (g 4)) ∧
    (g 11 = wrapF .i64 (g 5)) ∧
    (g 41 = U 6 [g 6, (3373259426), (1800000000)]) ∧
    (g 42 = U 36 [g 41]) ∧
    (g 45 = (1) * g 41 + (1686629713)) ∧
    (g 46 = U 36 [g 45]) ∧
    (g 47 = U 2 [g 42, g 42, (30)]) ∧
    (g 48 = U 2 [g 47, (7188036), (30)]) ∧
    (g 49 = (-1) * g 48 + (1073741824)) ∧
    (g 50 = U 30 [g 49]) ∧
    (g 51 = U 4 [(6531212288), g 50, (30)]) ∧
    (g 52 = U 2 [g 49, g 50, (30)]) ∧
    (g 53 = U 4 [(6487489870), g 52, (30)]) ∧
    (g 54 = U 6 [g 53, (3373259426), (1800000000)]) ∧
    (g 55 = U 2 [g 46, g 51, (30)]) ∧
    (g 56 = U 6 [g 55, (3373259426), (1800000000)]) ∧
    (g 57 = (1) * g 7 + ((1) * g 10 + (0))) ∧
    (g 79 = (-1) * g 11 + (0)) ∧
    (g 80 = U 2 [g 9, g 54, (10)]) ∧
    (g 83 = U 2 [g 10, g 56, (10)]) ∧
    (g 84 = U 6 [g 79, (1073741824), (1000)]) ∧
    (g 86 = (-11860000) * g 9 + ((1) * g 80 + (0))) ∧
    (g 90 = (200000) * g 9 + (0)) ∧
    (g 93 = (-200000) * g 9 + (0)) ∧
    True := h
theorem told1 {g : Sg} (h0 : ¬ (g 6 < (-800000000 : Int))) (h1 : ¬ ((800000000 : Int) < g 6)) (h2 : ¬ (g 7 < (-1800000000 : Int))) (h3 : ¬ ((1800000000 : Int) < g 7)) (h4 : ¬ (g 8 < (-90000000 : Int))) (h5 : ¬ ((90000000 : Int) < g 8)) (h6 : ¬ (g 9 < (1 : Int))) (h7 : ¬ ((10000000 : Int) < g 9)) (h8 : ¬ (g 10 < (1 : Int))) (h9 : ¬ ((10000000 : Int) < g 10)) (h10 : ¬ (g 11 < (1 : Int))) (h11 : ¬ ((10000000 : Int) < g 11)) (h12 : (90000000 : Int) < g 46) (h13 : (1070000000 : Int) < g 50) (h14 : g 50 < (1073741830 : Int)) (h15 : ¬ ((1800000000 : Int) < g 57)) (h16 : (0 : Int) < g 80) (h17 : (0 : Int) < g 83) (h18 : g 84 < (0 : Int)) (h19 : ¬ (g 90 < g 86)) (h20 : ¬ (g 86 < g 93)) : FactsOk g facts1 :=
  ⟨fact_lt (decide_eq_false h0), fact_lt (decide_eq_false h1), fact_lt (decide_eq_false h2), fact_lt (decide_eq_false h3), fact_lt (decide_eq_false h4), fact_lt (decide_eq_false h5), fact_lt (decide_eq_false h6), fact_lt (decide_eq_false h7), fact_lt (decide_eq_false h8), fact_lt (decide_eq_false h9), fact_lt (decide_eq_false h10), fact_lt (decide_eq_false h11), fact_lt (decide_eq_true h12), fact_lt (decide_eq_true h13), fact_lt (decide_eq_true h14), fact_lt (decide_eq_false h15), fact_lt (decide_eq_true h16), fact_lt (decide_eq_true h17), fact_lt (decide_eq_true h18), fact_lt (decide_eq_false h19), fact_lt (decide_eq_false h20), trivial⟩
end Go.Proofs.YtbpccdagmaiblaaDoor.earthPlane
