/- astrolabelaw8.EarthRound, run with facts told ahead. -/
import Derived.Test.YtbpccdagmaiblaaDoorSxHg
import Derived.Test.YtbpccdagmaiblaaDoorEarthT
namespace Go.Proofs.YtbpccdagmaiblaaDoor.earthRound
open Go SX
def facts3 : List (Bool × A × A × Bool) := [(false, .x 5, .k (-850000000), false), (false, .k 850000000, .x 5, false), (false, .x 6, .k (-1800000000), false), (false, .k 1800000000, .x 6, false), (false, .x 7, .k (-100000000), false), (false, .k 100000000, .x 7, false), (false, .x 8, .k 450000000, false), (false, .k 899999999, .x 8, false), (false, .x 9, .k (-100000000), false), (false, .k 100000000, .x 9, false)]
def ds3 : Defs := [
  (5, .conv .i64, [.x 0]),
  (6, .conv .i64, [.x 1]),
  (7, .conv .i64, [.x 2]),
  (8, .conv .i64, [.x 3]),
  (9, .conv .i64, [.x 4]),
  (29, .u 6, [.x 5, .k 3373259426, .k 1800000000]),
  (30, .u 36, [.x 29]),
  (33, .lin (1686629713) [(1)], [.x 29]),
  (34, .u 36, [.x 33]),
  (35, .u 2, [.x 30, .x 30, .k 30]),
  (36, .u 2, [.x 35, .k 7188036, .k 30]),
  (37, .lin (1073741824) [(-1)], [.x 36]),
  (38, .u 30, [.x 37]),
  (39, .u 4, [.k 6531212288, .x 38, .k 30]),
  (48, .u 2, [.x 34, .x 39, .k 30]),
  (49, .u 6, [.x 48, .k 3373259426, .k 1800000000]),
  (71, .lin (1800000000) [(-1)], [.x 6]),
  (75, .cmp .lss, [.k 1800000000, .x 71]),
  (76, .lin (-1800000000) [(-1)], [.x 6]),
  (78, .sel, [.x 75, .x 76, .x 71]),
  (79, .u 2, [.x 49, .x 78, .k 10]),
  (85, .cmp .lss, [.k (-1800000000), .x 76]),
  (87, .sel, [.x 85, .x 76, .x 71]),
  (88, .u 2, [.x 49, .x 87, .k 10]),
  (91, .cmp .eql, [.x 79, .x 88])]
abbrev rv3 : A := .x 91
set_option maxRecDepth 1000000 in
theorem ran3 : lawG tbE [.agg [some .i64, some .i64, some .i64], .one (some .i64), .one (some .i64)] facts3 ds3 rv3 (runPol lk U X sumsW (fun f => Nat.beq f 18 || Nat.beq f 28) never0 100000 40 6 (startG tbE [.agg [some .i64, some .i64, some .i64], .one (some .i64), .one (some .i64)] facts3).1 (startG tbE [.agg [some .i64, some .i64, some .i64], .one (some .i64), .one (some .i64)] facts3).2) = true := by kernel_rfl
/-- What the names stand for. -/
theorem eqs3 {g : Sg} (h : EqsP g ds3) :
    (g 5 = wrapF .i64 (g 0)) ∧
    (g 6 = wrapF .i64 (g 1)) ∧
    (g 7 = wrapF .i64 (g 2)) ∧
    (g 8 = wrapF .i64 (g 3)) ∧
    (g 9 = wrapF .i64 (g 4)) ∧
    (g 29 = U 6 [g 5, (3373259426), (1800000000)]) ∧
    (g 30 = U 36 [g 29]) ∧
    (g 33 = (1) * g 29 + (1686629713)) ∧
    (g 34 = U 36 [g 33]) ∧
    (g 35 = U 2 [g 30, g 30, (30)]) ∧
    (g 36 = U 2 [g 35, (7188036), (30)]) ∧
    (g 37 = (-1) * g 36 + (1073741824)) ∧
    (g 38 = U 30 [g 37]) ∧
    (g 39 = U 4 [(6531212288), g 38, (30)]) ∧
    (g 48 = U 2 [g 34, g 39, (30)]) ∧
    (g 49 = U 6 [g 48, (3373259426), (1800000000)]) ∧
    (g 71 = (-1) * g 6 + (1800000000)) ∧
    (g 75 = b2i (cmpF .lss ((1800000000)) (g 71))) ∧
    (g 76 = (-1) * g 6 + (-1800000000)) ∧
    (g 78 = bif ieq (g 75) 1 then g 76 else g 71) ∧
    (g 79 = U 2 [g 49, g 78, (10)]) ∧
    (g 85 = b2i (cmpF .lss ((-1800000000)) (g 76))) ∧
    (g 87 = bif ieq (g 85) 1 then g 76 else g 71) ∧
    (g 88 = U 2 [g 49, g 87, (10)]) ∧
    (g 91 = b2i (cmpF .eql (g 79) (g 88))) ∧
    True := h
theorem told3 {g : Sg} (h0 : ¬ (g 5 < (-850000000 : Int))) (h1 : ¬ ((850000000 : Int) < g 5)) (h2 : ¬ (g 6 < (-1800000000 : Int))) (h3 : ¬ ((1800000000 : Int) < g 6)) (h4 : ¬ (g 7 < (-100000000 : Int))) (h5 : ¬ ((100000000 : Int) < g 7)) (h6 : ¬ (g 8 < (450000000 : Int))) (h7 : ¬ ((899999999 : Int) < g 8)) (h8 : ¬ (g 9 < (-100000000 : Int))) (h9 : ¬ ((100000000 : Int) < g 9)) : FactsOk g facts3 :=
  ⟨fact_lt (decide_eq_false h0), fact_lt (decide_eq_false h1), fact_lt (decide_eq_false h2), fact_lt (decide_eq_false h3), fact_lt (decide_eq_false h4), fact_lt (decide_eq_false h5), fact_lt (decide_eq_false h6), fact_lt (decide_eq_false h7), fact_lt (decide_eq_false h8), fact_lt (decide_eq_false h9), trivial⟩
end Go.Proofs.YtbpccdagmaiblaaDoor.earthRound
