/- astrolabelaw7.RotSmall, run with facts told ahead. -/
import Derived.Test.YtplojnnjkpeifaaSxHa
import Derived.Test.YtplojnnjkpeifaaTrigV
namespace Go.Proofs.Ytplojnnjkpeifaa.rotSmall
open Go SX
def facts1 : List (Bool × A × A × Bool) := [(false, .k 0, .x 18, true), (false, .k 100000000, .x 30, true), (false, .x 22, .k 17179869184, true), (false, .k (-17179869184), .x 22, true), (false, .k 1073741000, .x 35, true), (false, .x 35, .k 1073743000, true), (false, .k 1073741000, .x 40, true), (false, .x 40, .k 1073743000, true), (false, .k 262144, .x 75, false), (false, .x 75, .k (-262144), false), (false, .k 262144, .x 78, false), (false, .x 78, .k (-262144), false), (false, .k 262144, .x 81, false), (false, .x 81, .k (-262144), false)]
def ds1 : Defs := [
  (6, .conv .i64, [.x 0]),
  (7, .conv .i64, [.x 1]),
  (8, .conv .i64, [.x 2]),
  (9, .conv .i64, [.x 3]),
  (10, .conv .i64, [.x 4]),
  (11, .conv .i64, [.x 5]),
  (12, .iop .rem .i64, [.x 6, .k 1048576]),
  (13, .iop .rem .i64, [.x 9, .k 17179869184]),
  (14, .iop .rem .i64, [.x 7, .k 1048576]),
  (15, .iop .rem .i64, [.x 10, .k 17179869184]),
  (16, .iop .rem .i64, [.x 8, .k 1048576]),
  (17, .iop .rem .i64, [.x 11, .k 17179869184]),
  (18, .u 32, [.x 12, .x 14, .x 16]),
  (20, .u 2, [.x 18, .k 536870912, .k 30]),
  (21, .u 36, [.x 20]),
  (22, .u 4, [.x 21, .x 18, .k 30]),
  (23, .u 5, [.x 21, .x 18, .k 30]),
  (24, .u 2, [.x 12, .x 22, .k 30]),
  (25, .u 2, [.x 14, .x 22, .k 30]),
  (26, .u 2, [.x 16, .x 22, .k 30]),
  (29, .lin (1686629713) [(1)], [.x 20]),
  (30, .u 36, [.x 29]),
  (35, .u 32, [.x 30, .x 24, .x 25, .x 26]),
  (36, .u 4, [.x 30, .x 35, .k 30]),
  (37, .u 4, [.x 24, .x 35, .k 30]),
  (38, .u 4, [.x 25, .x 35, .k 30]),
  (39, .u 4, [.x 26, .x 35, .k 30]),
  (40, .u 32, [.x 36, .x 37, .x 38, .x 39]),
  (41, .u 4, [.x 36, .x 40, .k 30]),
  (42, .u 4, [.x 37, .x 40, .k 30]),
  (43, .u 4, [.x 38, .x 40, .k 30]),
  (44, .u 4, [.x 39, .x 40, .k 30]),
  (49, .u 18, [.k 30, .k 2, .x 41, .x 41, .x 42, .x 42, .x 43, .x 43, .x 44, .x 44]),
  (50, .u 18, [.k 30, .k 2, .x 41, .x 44, .x 41, .x 44, .x 42, .x 43, .x 42, .x 43]),
  (52, .u 16, [.k 30, .x 41, .x 43, .x 41, .x 43, .x 42, .x 44, .x 42, .x 44]),
  (53, .u 16, [.k 30, .x 41, .x 44, .x 41, .x 44, .x 42, .x 43, .x 42, .x 43]),
  (54, .u 18, [.k 30, .k 2, .x 41, .x 41, .x 43, .x 43, .x 42, .x 42, .x 44, .x 44]),
  (55, .u 18, [.k 30, .k 2, .x 41, .x 42, .x 41, .x 42, .x 43, .x 44, .x 43, .x 44]),
  (57, .u 18, [.k 30, .k 2, .x 41, .x 43, .x 41, .x 43, .x 42, .x 44, .x 42, .x 44]),
  (59, .u 16, [.k 30, .x 41, .x 42, .x 41, .x 42, .x 43, .x 44, .x 43, .x 44]),
  (60, .u 18, [.k 30, .k 2, .x 41, .x 41, .x 44, .x 44, .x 42, .x 42, .x 43, .x 43]),
  (61, .u 18, [.k 30, .k 2, .x 13, .x 49, .x 17, .x 52, .x 15, .x 50]),
  (62, .u 18, [.k 30, .k 2, .x 13, .x 53, .x 15, .x 54, .x 17, .x 55]),
  (63, .u 18, [.k 30, .k 1, .x 13, .x 57, .x 15, .x 59, .x 17, .x 60]),
  (66, .u 18, [.k 30, .k 1, .x 14, .x 17, .x 15, .x 16]),
  (68, .u 18, [.k 30, .k 1, .x 12, .x 17, .x 13, .x 16]),
  (71, .u 18, [.k 30, .k 1, .x 12, .x 15, .x 13, .x 14]),
  (75, .lin (0) [(-1), (1), (-1)], [.x 13, .x 61, .x 66]),
  (78, .lin (0) [(-1), (1), (1)], [.x 15, .x 62, .x 68]),
  (81, .lin (0) [(-1), (-1), (-1)], [.x 17, .x 63, .x 71]),
  (84, .not, [.x 23])]
abbrev rv1 : A := .x 84
set_option maxRecDepth 1000000 in
theorem ran1 : lawH [.agg [some .i64, some .i64, some .i64], .agg [some .i64, some .i64, some .i64]] facts1 ds1 rv1 (runPol lk U X sumsS never never0 100000 40 9 (startF [.agg [some .i64, some .i64, some .i64], .agg [some .i64, some .i64, some .i64]] facts1).1 (startF [.agg [some .i64, some .i64, some .i64], .agg [some .i64, some .i64, some .i64]] facts1).2) = true := by kernel_rfl
/-- What the names stand for. -/
theorem eqs1 {g : Sg} (h : EqsP g ds1) :
    (g 6 = wrapF .i64 (g 0)) ∧
    (g 7 = wrapF .i64 (g 1)) ∧
    (g 8 = wrapF .i64 (g 2)) ∧
    (g 9 = wrapF .i64 (g 3)) ∧
    (g 10 = wrapF .i64 (g 4)) ∧
    (g 11 = wrapF .i64 (g 5)) ∧
    (g 12 = (g 6).tmod ((1048576))) ∧
    (g 13 = (g 9).tmod ((17179869184))) ∧
    (g 14 = (g 7).tmod ((1048576))) ∧
    (g 15 = (g 10).tmod ((17179869184))) ∧
    (g 16 = (g 8).tmod ((1048576))) ∧
    (g 17 = (g 11).tmod ((17179869184))) ∧
    (g 18 = U 32 [g 12, g 14, g 16]) ∧
    (g 20 = U 2 [g 18, (536870912), (30)]) ∧
    (g 21 = U 36 [g 20]) ∧
    (g 22 = U 4 [g 21, g 18, (30)]) ∧
    (g 23 = U 5 [g 21, g 18, (30)]) ∧
    (g 24 = U 2 [g 12, g 22, (30)]) ∧
    (g 25 = U 2 [g 14, g 22, (30)]) ∧
    (g 26 = U 2 [g 16, g 22, (30)]) ∧
    (g 29 = (1) * g 20 + (1686629713)) ∧
    (g 30 = U 36 [g 29]) ∧
    (g 35 = U 32 [g 30, g 24, g 25, g 26]) ∧
    (g 36 = U 4 [g 30, g 35, (30)]) ∧
    (g 37 = U 4 [g 24, g 35, (30)]) ∧
    (g 38 = U 4 [g 25, g 35, (30)]) ∧
    (g 39 = U 4 [g 26, g 35, (30)]) ∧
    (g 40 = U 32 [g 36, g 37, g 38, g 39]) ∧
    (g 41 = U 4 [g 36, g 40, (30)]) ∧
    (g 42 = U 4 [g 37, g 40, (30)]) ∧
    (g 43 = U 4 [g 38, g 40, (30)]) ∧
    (g 44 = U 4 [g 39, g 40, (30)]) ∧
    (g 49 = U 18 [(30), (2), g 41, g 41, g 42, g 42, g 43, g 43, g 44, g 44]) ∧
    (g 50 = U 18 [(30), (2), g 41, g 44, g 41, g 44, g 42, g 43, g 42, g 43]) ∧
    (g 52 = U 16 [(30), g 41, g 43, g 41, g 43, g 42, g 44, g 42, g 44]) ∧
    (g 53 = U 16 [(30), g 41, g 44, g 41, g 44, g 42, g 43, g 42, g 43]) ∧
    (g 54 = U 18 [(30), (2), g 41, g 41, g 43, g 43, g 42, g 42, g 44, g 44]) ∧
    (g 55 = U 18 [(30), (2), g 41, g 42, g 41, g 42, g 43, g 44, g 43, g 44]) ∧
    (g 57 = U 18 [(30), (2), g 41, g 43, g 41, g 43, g 42, g 44, g 42, g 44]) ∧
    (g 59 = U 16 [(30), g 41, g 42, g 41, g 42, g 43, g 44, g 43, g 44]) ∧
    (g 60 = U 18 [(30), (2), g 41, g 41, g 44, g 44, g 42, g 42, g 43, g 43]) ∧
    (g 61 = U 18 [(30), (2), g 13, g 49, g 17, g 52, g 15, g 50]) ∧
    (g 62 = U 18 [(30), (2), g 13, g 53, g 15, g 54, g 17, g 55]) ∧
    (g 63 = U 18 [(30), (1), g 13, g 57, g 15, g 59, g 17, g 60]) ∧
    (g 66 = U 18 [(30), (1), g 14, g 17, g 15, g 16]) ∧
    (g 68 = U 18 [(30), (1), g 12, g 17, g 13, g 16]) ∧
    (g 71 = U 18 [(30), (1), g 12, g 15, g 13, g 14]) ∧
    (g 75 = (-1) * g 13 + ((1) * g 61 + ((-1) * g 66 + (0)))) ∧
    (g 78 = (-1) * g 15 + ((1) * g 62 + ((1) * g 68 + (0)))) ∧
    (g 81 = (-1) * g 17 + ((-1) * g 63 + ((-1) * g 71 + (0)))) ∧
    (g 84 = b2i (!ieq (g 23) 1)) ∧ True := h
theorem told1 {g : Sg} (h0 : (0 : Int) < g 18) (h1 : (100000000 : Int) < g 30) (h2 : g 22 < (17179869184 : Int)) (h3 : (-17179869184 : Int) < g 22) (h4 : (1073741000 : Int) < g 35) (h5 : g 35 < (1073743000 : Int)) (h6 : (1073741000 : Int) < g 40) (h7 : g 40 < (1073743000 : Int)) (h8 : ¬ ((262144 : Int) < g 75)) (h9 : ¬ (g 75 < (-262144 : Int))) (h10 : ¬ ((262144 : Int) < g 78)) (h11 : ¬ (g 78 < (-262144 : Int))) (h12 : ¬ ((262144 : Int) < g 81)) (h13 : ¬ (g 81 < (-262144 : Int))) : FactsOk g facts1 :=
  ⟨fact_lt (decide_eq_true h0), fact_lt (decide_eq_true h1), fact_lt (decide_eq_true h2), fact_lt (decide_eq_true h3), fact_lt (decide_eq_true h4), fact_lt (decide_eq_true h5), fact_lt (decide_eq_true h6), fact_lt (decide_eq_true h7), fact_lt (decide_eq_false h8), fact_lt (decide_eq_false h9), fact_lt (decide_eq_false h10), fact_lt (decide_eq_false h11), fact_lt (decide_eq_false h12), fact_lt (decide_eq_false h13), trivial⟩
end Go.Proofs.Ytplojnnjkpeifaa.rotSmall
