/- astrolabelaw7.RotTwice, run with facts told ahead. -/
import Derived.Test.YtplojnnjkpeifaaSxHa
import Derived.Test.YtplojnnjkpeifaaTrigV
namespace Go.Proofs.Ytplojnnjkpeifaa.rotTwice
open Go SX
def facts1 : List (Bool × A × A × Bool) := [(false, .k 0, .x 18, true), (false, .k 30000000, .x 30, true), (false, .x 22, .k 17179869184, true), (false, .k (-17179869184), .x 22, true), (false, .k 1073741000, .x 35, true), (false, .x 35, .k 1073743000, true), (false, .k 1073741000, .x 40, true), (false, .x 40, .k 1073743000, true), (false, .k 0, .x 52, true), (false, .x 56, .k 17179869184, true), (false, .k (-17179869184), .x 56, true), (false, .k 30000000, .x 65, true), (false, .k 1073741000, .x 70, true), (false, .x 70, .k 1073743000, true), (false, .k 1073741000, .x 75, true), (false, .x 75, .k 1073743000, true), (false, .k 400, .x 80, false), (false, .x 80, .k (-400), false), (false, .k 400, .x 84, false), (false, .x 84, .k (-400), false), (false, .k 400, .x 88, false), (false, .x 88, .k (-400), false), (false, .k 400, .x 92, false), (false, .x 92, .k (-400), false)]
def ds1 : Defs := [
  (3, .conv .i64, [.x 0]),
  (4, .conv .i64, [.x 1]),
  (5, .conv .i64, [.x 2]),
  (6, .iop .rem .i64, [.x 3, .k 1610612736]),
  (7, .iop .quo .i64, [.x 6, .k 2]),
  (8, .lin (0) [(2)], [.x 7]),
  (9, .iop .rem .i64, [.x 4, .k 1610612736]),
  (10, .iop .quo .i64, [.x 9, .k 2]),
  (11, .lin (0) [(2)], [.x 10]),
  (12, .iop .rem .i64, [.x 5, .k 1610612736]),
  (13, .iop .quo .i64, [.x 12, .k 2]),
  (14, .lin (0) [(2)], [.x 13]),
  (15, .iop .quo .i64, [.x 8, .k 2]),
  (16, .iop .quo .i64, [.x 11, .k 2]),
  (17, .iop .quo .i64, [.x 14, .k 2]),
  (18, .u 32, [.x 15, .x 16, .x 17]),
  (20, .u 2, [.x 18, .k 536870912, .k 30]),
  (21, .u 36, [.x 20]),
  (22, .u 4, [.x 21, .x 18, .k 30]),
  (23, .u 5, [.x 21, .x 18, .k 30]),
  (24, .u 2, [.x 15, .x 22, .k 30]),
  (25, .u 2, [.x 16, .x 22, .k 30]),
  (26, .u 2, [.x 17, .x 22, .k 30]),
  (29, .lin (1686629713) [(1)], [.x 20]),
  (30, .u 36, [.x 29]),
  (35, .u 32, [.x 30, .x 24, .x 25, .x 26]),
  (36, .u 4, [.x 30, .x 35, .k 30]),
  (37, .u 4, [.x 24, .x 35, .k 30]),
  (38, .u 4, [.x 25, .x 35, .k 30]),
  (39, .u 4, [.x 26, .x 35, .k 30]),
  (40, .u 32, [.x 36, .x 37, .x 38, .x 39]),
  (41, .u 4, [.x 36, .x 40, .k 30]),
  (42, .u 4, [.x 37, .x 40, .k 30]),
  (43, .u 4, [.x 38, .x 40, .k 30]),
  (44, .u 4, [.x 39, .x 40, .k 30]),
  (48, .u 18, [.k 30, .k 1, .x 41, .x 41, .x 42, .x 42, .x 43, .x 43, .x 44, .x 44]),
  (49, .u 16, [.k 30, .x 41, .x 42, .x 41, .x 42]),
  (50, .u 16, [.k 30, .x 41, .x 43, .x 41, .x 43]),
  (51, .u 16, [.k 30, .x 41, .x 44, .x 41, .x 44]),
  (52, .u 32, [.x 8, .x 11, .x 14]),
  (54, .u 2, [.x 52, .k 536870912, .k 30]),
  (55, .u 36, [.x 54]),
  (56, .u 4, [.x 55, .x 52, .k 30]),
  (57, .u 5, [.x 55, .x 52, .k 30]),
  (58, .sel, [.x 23, .k 1, .x 57]),
  (59, .u 2, [.x 8, .x 56, .k 30]),
  (60, .u 2, [.x 11, .x 56, .k 30]),
  (61, .u 2, [.x 14, .x 56, .k 30]),
  (64, .lin (1686629713) [(1)], [.x 54]),
  (65, .u 36, [.x 64]),
  (70, .u 32, [.x 65, .x 59, .x 60, .x 61]),
  (71, .u 4, [.x 65, .x 70, .k 30]),
  (72, .u 4, [.x 59, .x 70, .k 30]),
  (73, .u 4, [.x 60, .x 70, .k 30]),
  (74, .u 4, [.x 61, .x 70, .k 30]),
  (75, .u 32, [.x 71, .x 72, .x 73, .x 74]),
  (76, .u 4, [.x 71, .x 75, .k 30]),
  (77, .u 4, [.x 72, .x 75, .k 30]),
  (78, .u 4, [.x 73, .x 75, .k 30]),
  (79, .u 4, [.x 74, .x 75, .k 30]),
  (80, .lin (0) [(1), (-1)], [.x 48, .x 76]),
  (84, .lin (0) [(1), (-1)], [.x 49, .x 77]),
  (88, .lin (0) [(1), (-1)], [.x 50, .x 78]),
  (92, .lin (0) [(1), (-1)], [.x 51, .x 79]),
  (96, .not, [.x 58])]
abbrev rv1 : A := .x 96
set_option maxRecDepth 1000000 in
theorem ran1 : lawH [.agg [some .i64, some .i64, some .i64]] facts1 ds1 rv1 (runPol lk U X sumsS never never0 100000 40 10 (startF [.agg [some .i64, some .i64, some .i64]] facts1).1 (startF [.agg [some .i64, some .i64, some .i64]] facts1).2) = true := by kernel_rfl
/-- What the names stand for. -/
theorem eqs1 {g : Sg} (h : EqsP g ds1) :
    (g 3 = wrapF .i64 (g 0)) ∧
    (g 4 = wrapF .i64 (g 1)) ∧
    (g 5 = wrapF .i64 (g 2)) ∧
    (g 6 = (g 3).tmod ((1610612736))) ∧
    (g 7 = wrapF .i64 ((g 6).tdiv ((2)))) ∧
    (g 8 = (2) * g 7 + (0)) ∧
    (g 9 = (g 4).tmod ((1610612736))) ∧
    (g 10 = wrapF .i64 ((g 9).tdiv ((2)))) ∧
    (g 11 = (2) * g 10 + (0)) ∧
    (g 12 = (g 5).tmod ((1610612736))) ∧
    (g 13 = wrapF .i64 ((g 12).tdiv ((2)))) ∧
    (g 14 = (2) * g 13 + (0)) ∧
    (g 15 = wrapF .i64 ((g 8).tdiv ((2)))) ∧
    (g 16 = wrapF .i64 ((g 11).tdiv ((2)))) ∧
    (g 17 = wrapF .i64 ((g 14).tdiv ((2)))) ∧
    (g 18 = U 32 [g 15, g 16, g 17]) ∧
    (g 20 = U 2 [g 18, (536870912), (30)]) ∧
    (g 21 = U 36 [g 20]) ∧
    (g 22 = U 4 [g 21, g 18, (30)]) ∧
    (g 23 = U 5 [g 21, g 18, (30)]) ∧
    (g 24 = U 2 [g 15, g 22, (30)]) ∧
    (g 25 = U 2 [g 16, g 22, (30)]) ∧
    (g 26 = U 2 [g 17, g 22, (30)]) ∧
    (g 29 = (1) * g 20 + (1686629713)) ∧
    (g 30 = U 36 [g 29]) ∧
    (g 35 = U 32 [g 30, g 24, g 25, g 26]) ∧
    (g 36 = U 4 [g 30, g 35, (30)]) ∧
    (g 37 = U 4 [g 24, g 35, (30)]) ∧
    (g 38 = U 4 [g 25, g 35, (30)]) ∧
    (g 39 = U 4 [g 26, g 35, (30)]) ∧
    (g 40 = U 32 [g 36, g 37, g 38, g 39]) ∧
    (g 41 = U 4 [g 36, g 40, (30)]) ∧
    (g 42 = U 4 [g 37, g 40, (30)]) ∧
    (g 43 = U 4 [g 38, g 40, (30)]) ∧
    (g 44 = U 4 [g 39, g 40, (30)]) ∧
    (g 48 = U 18 [(30), (1), g 41, g 41, g 42, g 42, g 43, g 43, g 44, g 44]) ∧
    (g 49 = U 16 [(30), g 41, g 42, g 41, g 42]) ∧
    (g 50 = U 16 [(30), g 41, g 43, g 41, g 43]) ∧
    (g 51 = U 16 [(30), g 41, g 44, g 41, g 44]) ∧
    (g 52 = U 32 [g 8, g 11, g 14]) ∧
    (g 54 = U 2 [g 52, (536870912), (30)]) ∧
    (g 55 = U 36 [g 54]) ∧
    (g 56 = U 4 [g 55, g 52, (30)]) ∧
    (g 57 = U 5 [g 55, g 52, (30)]) ∧
    (g 58 = bif ieq (g 23) 1 then (1) else g 57) ∧
    (g 59 = U 2 [g 8, g 56, (30)]) ∧
    (g 60 = U 2 [g 11, g 56, (30)]) ∧
    (g 61 = U 2 [g 14, g 56, (30)]) ∧
    (g 64 = (1) * g 54 + (1686629713)) ∧
    (g 65 = U 36 [g 64]) ∧
    (g 70 = U 32 [g 65, g 59, g 60, g 61]) ∧
    (g 71 = U 4 [g 65, g 70, (30)]) ∧
    (g 72 = U 4 [g 59, g 70, (30)]) ∧
    (g 73 = U 4 [g 60, g 70, (30)]) ∧
    (g 74 = U 4 [g 61, g 70, (30)]) ∧
    (g 75 = U 32 [g 71, g 72, g 73, g 74]) ∧
    (g 76 = U 4 [g 71, g 75, (30)]) ∧
    (g 77 = U 4 [g 72, g 75, (30)]) ∧
    (g 78 = U 4 [g 73, g 75, (30)]) ∧
    (g 79 = U 4 [g 74, g 75, (30)]) ∧
    (g 80 = (1) * g 48 + ((-1) * g 76 + (0))) ∧
    (g 84 = (1) * g 49 + ((-1) * g 77 + (0))) ∧
    (g 88 = (1) * g 50 + ((-1) * g 78 + (0))) ∧
    (g 92 = (1) * g 51 + ((-1) * g 79 + (0))) ∧
    (g 96 = b2i (!ieq (g 58) 1)) ∧ True := h
theorem told1 {g : Sg} (h0 : (0 : Int) < g 18) (h1 : (30000000 : Int) < g 30) (h2 : g 22 < (17179869184 : Int)) (h3 : (-17179869184 : Int) < g 22) (h4 : (1073741000 : Int) < g 35) (h5 : g 35 < (1073743000 : Int)) (h6 : (1073741000 : Int) < g 40) (h7 : g 40 < (1073743000 : Int)) (h8 : (0 : Int) < g 52) (h9 : g 56 < (17179869184 : Int)) (h10 : (-17179869184 : Int) < g 56) (h11 : (30000000 : Int) < g 65) (h12 : (1073741000 : Int) < g 70) (h13 : g 70 < (1073743000 : Int)) (h14 : (1073741000 : Int) < g 75) (h15 : g 75 < (1073743000 : Int)) (h16 : ¬ ((400 : Int) < g 80)) (h17 : ¬ (g 80 < (-400 : Int))) (h18 : ¬ ((400 : Int) < g 84)) (h19 : ¬ (g 84 < (-400 : Int))) (h20 : ¬ ((400 : Int) < g 88)) (h21 : ¬ (g 88 < (-400 : Int))) (h22 : ¬ ((400 : Int) < g 92)) (h23 : ¬ (g 92 < (-400 : Int))) : FactsOk g facts1 :=
  ⟨fact_lt (decide_eq_true h0), fact_lt (decide_eq_true h1), fact_lt (decide_eq_true h2), fact_lt (decide_eq_true h3), fact_lt (decide_eq_true h4), fact_lt (decide_eq_true h5), fact_lt (decide_eq_true h6), fact_lt (decide_eq_true h7), fact_lt (decide_eq_true h8), fact_lt (decide_eq_true h9), fact_lt (decide_eq_true h10), fact_lt (decide_eq_true h11), fact_lt (decide_eq_true h12), fact_lt (decide_eq_true h13), fact_lt (decide_eq_true h14), fact_lt (decide_eq_true h15), fact_lt (decide_eq_false h16), fact_lt (decide_eq_false h17), fact_lt (decide_eq_false h18), fact_lt (decide_eq_false h19), fact_lt (decide_eq_false h20), fact_lt (decide_eq_false h21), fact_lt (decide_eq_false h22), fact_lt (decide_eq_false h23), trivial⟩
end Go.Proofs.Ytplojnnjkpeifaa.rotTwice
