/- astrolabelaw7.RotYaws, run with facts told ahead. -/
import Derived.Test.YtplojnnjkpeifaaSxHa
import Derived.Test.YtplojnnjkpeifaaKB
namespace Go.Proofs.Ytplojnnjkpeifaa.rotYaws
open Go SX
def facts0 : List (Bool × A × A × Bool) := [(false, .x 1, .k 0, false), (false, .k 0, .x 1, false), (false, .k 40000000, .x 10, true), (false, .k 1073741000, .x 14, true), (false, .x 14, .k 1073743000, true), (false, .k 1073741000, .x 17, true), (false, .x 17, .k 1073743000, true), (false, .k 400, .x 28, false), (false, .x 28, .k (-400), false)]
def ds0 : Defs := [
  (1, .conv .i64, [.x 0]),
  (6, .u 2, [.x 1, .k 536870912, .k 30]),
  (9, .lin (1686629713) [(1)], [.x 6]),
  (10, .u 36, [.x 9]),
  (11, .u 36, [.x 6]),
  (14, .u 32, [.x 10, .x 11]),
  (15, .u 4, [.x 10, .x 14, .k 30]),
  (16, .u 4, [.x 11, .x 14, .k 30]),
  (17, .u 32, [.x 15, .x 16]),
  (18, .u 4, [.x 15, .x 17, .k 30]),
  (19, .u 4, [.x 16, .x 17, .k 30]),
  (22, .u 18, [.k 30, .k 1, .x 18, .x 18, .x 19, .x 19]),
  (23, .u 16, [.k 30, .x 18, .x 19, .x 18, .x 19]),
  (26, .u 38, [.x 23, .x 22]),
  (27, .u 39, [.x 23, .x 22]),
  (28, .lin (0) [(-1), (1)], [.x 1, .x 26]),
  (36, .not, [.x 27])]
abbrev rv0 : A := .x 36
set_option maxRecDepth 1000000 in
theorem ran0 : lawH [.one (some .i64)] facts0 ds0 rv0 (runPol lk U X sumsR never never0 100000 40 6 (startF [.one (some .i64)] facts0).1 (startF [.one (some .i64)] facts0).2) = true := by kernel_rfl
/-- What the names stand for. -/
theorem eqs0 {g : Sg} (h : EqsP g ds0) :
    (g 1 = wrapF .i64 (g 0)) ∧
    (g 6 = U 2 [g 1, (536870912), (30)]) ∧
    (g 9 = (1) * g 6 + (1686629713)) ∧
    (g 10 = U 36 [g 9]) ∧
    (g 11 = U 36 [g 6]) ∧
    (g 14 = U 32 [g 10, g 11]) ∧
    (g 15 = U 4 [g 10, g 14, (30)]) ∧
    (g 16 = U 4 [g 11, g 14, (30)]) ∧
    (g 17 = U 32 [g 15, g 16]) ∧
    (g 18 = U 4 [g 15, g 17, (30)]) ∧
    (g 19 = U 4 [g 16, g 17, (30)]) ∧
    (g 22 = U 18 [(30), (1), g 18, g 18, g 19, g 19]) ∧
    (g 23 = U 16 [(30), g 18, g 19, g 18, g 19]) ∧
    (g 26 = U 38 [g 23, g 22]) ∧
    (g 27 = U 39 [g 23, g 22]) ∧
    (g 28 = (-1) * g 1 + ((1) * g 26 + (0))) ∧
    (g 36 = b2i (!ieq (g 27) 1)) ∧ True := h
theorem told0 {g : Sg} (h0 : ¬ (g 1 < (0 : Int))) (h1 : ¬ ((0 : Int) < g 1)) (h2 : (40000000 : Int) < g 10) (h3 : (1073741000 : Int) < g 14) (h4 : g 14 < (1073743000 : Int)) (h5 : (1073741000 : Int) < g 17) (h6 : g 17 < (1073743000 : Int)) (h7 : ¬ ((400 : Int) < g 28)) (h8 : ¬ (g 28 < (-400 : Int))) : FactsOk g facts0 :=
  ⟨fact_lt (decide_eq_false h0), fact_lt (decide_eq_false h1), fact_lt (decide_eq_true h2), fact_lt (decide_eq_true h3), fact_lt (decide_eq_true h4), fact_lt (decide_eq_true h5), fact_lt (decide_eq_true h6), fact_lt (decide_eq_false h7), fact_lt (decide_eq_false h8), trivial⟩
end Go.Proofs.Ytplojnnjkpeifaa.rotYaws
