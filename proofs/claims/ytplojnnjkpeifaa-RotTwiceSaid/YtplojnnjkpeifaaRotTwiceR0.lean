/- astrolabelaw7.RotTwice, run with facts told ahead. -/
import Derived.Test.YtplojnnjkpeifaaSxHa
import Derived.Test.YtplojnnjkpeifaaTrigV
namespace Go.Proofs.Ytplojnnjkpeifaa.rotTwice
open Go SX
def facts0 : List (Bool × A × A × Bool) := [(true, .x 18, .k 0, true), (true, .x 20, .k 0, true)]
def ds0 : Defs := [
  (3, .conv .i64, [.x 0]),
  (4, .conv .i64, [.x 1]),
  (5, .conv .i64, [.x 2]),
  (6, .iop .rem .i64, [.x 3, .k 1610612736]),
  (7, .iop .quo .i64, [.x 6, .k 2]),
  (8, .lin (0) [(2)], [.x 7]),
  (9, .iop .rem .i64, [.x 4, .k 1610612736]),
  (10, .iop .quo .i64, [.x 9, .k 2]),
  (11, .lin (0) [(2)], [.x 10]),
  (12, .iop .rem .i64, [.x 5, .k 1610612736]),
  (13, .iop .quo .i64, [.x 12, .k 2]),
  (14, .lin (0) [(2)], [.x 13]),
  (15, .iop .quo .i64, [.x 8, .k 2]),
  (16, .iop .quo .i64, [.x 11, .k 2]),
  (17, .iop .quo .i64, [.x 14, .k 2]),
  (18, .u 32, [.x 15, .x 16, .x 17]),
  (20, .u 32, [.x 8, .x 11, .x 14])]
abbrev rv0 : A := .k 1
set_option maxRecDepth 1000000 in
theorem ran0 : lawH [.agg [some .i64, some .i64, some .i64]] facts0 ds0 rv0 (runPol lk U X sumsS never never0 100000 40 10 (startF [.agg [some .i64, some .i64, some .i64]] facts0).1 (startF [.agg [some .i64, some .i64, some .i64]] facts0).2) = true := by kernel_rfl
/-- What the names stand for. -/
theorem eqs0 {g : Sg} (h : EqsP g ds0) :
    (g 3 = wrapF .i64 (g 0)) ∧
    (g 4 = wrapF .i64 (g 1)) ∧
    (g 5 = wrapF .i64 (g 2)) ∧
    (g 6 = (g 3).tmod ((1610612736))) ∧
    (g 7 = wrapF .i64 ((g 6).tdiv ((2)))) ∧
    (g 8 = (2) * g 7 + (0)) ∧
    (g 9 = (g 4).tmod ((1610612736))) ∧
    (g 10 = wrapF .i64 ((g 9).tdiv ((2)))) ∧
    (g 11 = (2) * g 10 + (0)) ∧
    (g 12 = (g 5).tmod ((1610612736))) ∧
    (g 13 = wrapF .i64 ((g 12).tdiv ((2)))) ∧
    (g 14 = (2) * g 13 + (0)) ∧
    (g 15 = wrapF .i64 ((g 8).tdiv ((2)))) ∧
    (g 16 = wrapF .i64 ((g 11).tdiv ((2)))) ∧
    (g 17 = wrapF .i64 ((g 14).tdiv ((2)))) ∧
    (g 18 = U 32 [g 15, g 16, g 17]) ∧
    (g 20 = U 32 [g 8, g 11, g 14]) ∧ True := h
theorem told0 {g : Sg} (h0 : g 18 = (0 : Int)) (h1 : g 20 = (0 : Int)) : FactsOk g facts0 :=
  ⟨fact_eq (decide_eq_true h0), fact_eq (decide_eq_true h1), trivial⟩
end Go.Proofs.Ytplojnnjkpeifaa.rotTwice
