/- astrolabelaw7.RotYaws, run with facts told ahead. -/
import Derived.Test.YtplojnnjkpeifaaSxHa
import Derived.Test.YtplojnnjkpeifaaKB
namespace Go.Proofs.Ytplojnnjkpeifaa.rotYaws
open Go SX
def facts1 : List (Bool × A × A × Bool) := [(false, .x 1, .k (-3221225472), false), (false, .k 3221225472, .x 1, false), (false, .k 40000000, .x 10, true), (false, .k 1073741000, .x 14, true), (false, .x 14, .k 1073743000, true), (false, .k 1073741000, .x 17, true), (false, .x 17, .k 1073743000, true), (false, .k 400, .x 28, false), (false, .x 28, .k (-400), false), (false, .k 0, .x 29, true), (false, .x 33, .k 17179869184, true), (false, .k (-17179869184), .x 33, true), (false, .x 36, .k 1073741900, true), (false, .k (-1073741900), .x 36, true), (false, .k 40000000, .x 40, true), (false, .k 1073741000, .x 43, true), (false, .x 43, .k 1073743000, true), (false, .k 1073741000, .x 46, true), (false, .x 46, .k 1073743000, true), (false, .k 400, .x 58, false), (false, .x 58, .k (-400), false)]
def ds1 : Defs := [
  (1, .conv .i64, [.x 0]),
  (6, .u 2, [.x 1, .k 536870912, .k 30]),
  (9, .lin (1686629713) [(1)], [.x 6]),
  (10, .u 36, [.x 9]),
  (11, .u 36, [.x 6]),
  (14, .u 32, [.x 10, .x 11]),
  (15, .u 4, [.x 10, .x 14, .k 30]),
  (16, .u 4, [.x 11, .x 14, .k 30]),
  (17, .u 32, [.x 15, .x 16]),
  (18, .u 4, [.x 15, .x 17, .k 30]),
  (19, .u 4, [.x 16, .x 17, .k 30]),
  (22, .u 18, [.k 30, .k 1, .x 18, .x 18, .x 19, .x 19]),
  (23, .u 16, [.k 30, .x 18, .x 19, .x 18, .x 19]),
  (26, .u 38, [.x 23, .x 22]),
  (27, .u 39, [.x 23, .x 22]),
  (28, .lin (0) [(-1), (1)], [.x 1, .x 26]),
  (29, .u 32, [.x 1]),
  (31, .u 2, [.x 29, .k 536870912, .k 30]),
  (32, .u 36, [.x 31]),
  (33, .u 4, [.x 32, .x 29, .k 30]),
  (34, .u 5, [.x 32, .x 29, .k 30]),
  (35, .sel, [.x 27, .k 1, .x 34]),
  (36, .u 2, [.x 1, .x 33, .k 30]),
  (39, .lin (1686629713) [(1)], [.x 31]),
  (40, .u 36, [.x 39]),
  (43, .u 32, [.x 40, .x 36]),
  (44, .u 4, [.x 40, .x 43, .k 30]),
  (45, .u 4, [.x 36, .x 43, .k 30]),
  (46, .u 32, [.x 44, .x 45]),
  (47, .u 4, [.x 44, .x 46, .k 30]),
  (48, .u 4, [.x 45, .x 46, .k 30]),
  (51, .u 18, [.k 30, .k 1, .x 47, .x 47, .x 48, .x 48]),
  (52, .u 16, [.k 30, .x 47, .x 48, .x 47, .x 48]),
  (55, .u 38, [.x 52, .x 51]),
  (56, .u 39, [.x 52, .x 51]),
  (57, .sel, [.x 35, .k 1, .x 56]),
  (58, .lin (0) [(-1), (1)], [.x 1, .x 55]),
  (63, .not, [.x 57])]
abbrev rv1 : A := .x 63
set_option maxRecDepth 1000000 in
theorem ran1 : lawH [.one (some .i64)] facts1 ds1 rv1 (runPol lk U X sumsR never never0 100000 40 6 (startF [.one (some .i64)] facts1).1 (startF [.one (some .i64)] facts1).2) = true := by kernel_rfl
/-- What the names stand for. -/
theorem eqs1 {g : Sg} (h : EqsP g ds1) :
    (g 1 = wrapF .i64 (g 0)) ∧
    (g 6 = U 2 [g 1, (536870912), (30)]) ∧
    (g 9 = (1) * g 6 + (1686629713)) ∧
    (g 10 = U 36 [g 9]) ∧
    (g 11 = U 36 [g 6]) ∧
    (g 14 = U 32 [g 10, g 11]) ∧
    (g 15 = U 4 [g 10, g 14, (30)]) ∧
    (g 16 = U 4 [g 11, g 14, (30)]) ∧
    (g 17 = U 32 [g 15, g 16]) ∧
    (g 18 = U 4 [g 15, g 17, (30)]) ∧
    (g 19 = U 4 [g 16, g 17, (30)]) ∧
    (g 22 = U 18 [(30), (1), g 18, g 18, g 19, g 19]) ∧
    (g 23 = U 16 [(30), g 18, g 19, g 18, g 19]) ∧
    (g 26 = U 38 [g 23, g 22]) ∧
    (g 27 = U 39 [g 23, g 22]) ∧
    (g 28 = (-1) * g 1 + ((1) * g 26 + (0))) ∧
    (g 29 = U 32 [g 1]) ∧
    (g 31 = U 2 [g 29, (536870912), (30)]) ∧
    (g 32 = U 36 [g 31]) ∧
    (g 33 = U 4 [g 32, g 29, (30)]) ∧
    (g 34 = U 5 [g 32, g 29, (30)]) ∧
    (g 35 = bif ieq (g 27) 1 then (1) else g 34) ∧
    (g 36 = U 2 [g 1, g 33, (30)]) ∧
    (g 39 = (1) * g 31 + (1686629713)) ∧
    (g 40 = U 36 [g 39]) ∧
    (g 43 = U 32 [g 40, g 36]) ∧
    (g 44 = U 4 [g 40, g 43, (30)]) ∧
    (g 45 = U 4 [g 36, g 43, (30)]) ∧
    (g 46 = U 32 [g 44, g 45]) ∧
    (g 47 = U 4 [g 44, g 46, (30)]) ∧
    (g 48 = U 4 [g 45, g 46, (30)]) ∧
    (g 51 = U 18 [(30), (1), g 47, g 47, g 48, g 48]) ∧
    (g 52 = U 16 [(30), g 47, g 48, g 47, g 48]) ∧
    (g 55 = U 38 [g 52, g 51]) ∧
    (g 56 = U 39 [g 52, g 51]) ∧
    (g 57 = bif ieq (g 35) 1 then (1) else g 56) ∧
    (g 58 = (-1) * g 1 + ((1) * g 55 + (0))) ∧
    (g 63 = b2i (!ieq (g 57) 1)) ∧ True := h
theorem told1 {g : Sg} (h0 : ¬ (g 1 < (-3221225472 : Int))) (h1 : ¬ ((3221225472 : Int) < g 1)) (h2 : (40000000 : Int) < g 10) (h3 : (1073741000 : Int) < g 14) (h4 : g 14 < (1073743000 : Int)) (h5 : (1073741000 : Int) < g 17) (h6 : g 17 < (1073743000 : Int)) (h7 : ¬ ((400 : Int) < g 28)) (h8 : ¬ (g 28 < (-400 : Int))) (h9 : (0 : Int) < g 29) (h10 : g 33 < (17179869184 : Int)) (h11 : (-17179869184 : Int) < g 33) (h12 : g 36 < (1073741900 : Int)) (h13 : (-1073741900 : Int) < g 36) (h14 : (40000000 : Int) < g 40) (h15 : (1073741000 : Int) < g 43) (h16 : g 43 < (1073743000 : Int)) (h17 : (1073741000 : Int) < g 46) (h18 : g 46 < (1073743000 : Int)) (h19 : ¬ ((400 : Int) < g 58)) (h20 : ¬ (g 58 < (-400 : Int))) : FactsOk g facts1 :=
  ⟨fact_lt (decide_eq_false h0), fact_lt (decide_eq_false h1), fact_lt (decide_eq_true h2), fact_lt (decide_eq_true h3), fact_lt (decide_eq_true h4), fact_lt (decide_eq_true h5), fact_lt (decide_eq_true h6), fact_lt (decide_eq_false h7), fact_lt (decide_eq_false h8), fact_lt (decide_eq_true h9), fact_lt (decide_eq_true h10), fact_lt (decide_eq_true h11), fact_lt (decide_eq_true h12), fact_lt (decide_eq_true h13), fact_lt (decide_eq_true h14), fact_lt (decide_eq_true h15), fact_lt (decide_eq_true h16), fact_lt (decide_eq_true h17), fact_lt (decide_eq_true h18), fact_lt (decide_eq_false h19), fact_lt (decide_eq_false h20), trivial⟩
end Go.Proofs.Ytplojnnjkpeifaa.rotYaws
