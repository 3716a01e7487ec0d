/- astrolabelaw7.RotSmall, run with facts told ahead. -/
import Derived.Test.YtplojnnjkpeifaaSxHa
import Derived.Test.YtplojnnjkpeifaaTrigV
namespace Go.Proofs.Ytplojnnjkpeifaa.rotSmall
open Go SX
def facts0 : List (Bool × A × A × Bool) := [(true, .x 18, .k 0, true), (false, .x 12, .k 0, false), (false, .k 0, .x 12, false), (false, .x 14, .k 0, false), (false, .k 0, .x 14, false), (false, .x 16, .k 0, false), (false, .k 0, .x 16, false)]
def ds0 : Defs := [
  (6, .conv .i64, [.x 0]),
  (7, .conv .i64, [.x 1]),
  (8, .conv .i64, [.x 2]),
  (12, .iop .rem .i64, [.x 6, .k 1048576]),
  (14, .iop .rem .i64, [.x 7, .k 1048576]),
  (16, .iop .rem .i64, [.x 8, .k 1048576]),
  (18, .u 32, [.x 12, .x 14, .x 16])]
abbrev rv0 : A := .k 1
set_option maxRecDepth 1000000 in
theorem ran0 : lawH [.agg [some .i64, some .i64, some .i64], .agg [some .i64, some .i64, some .i64]] facts0 ds0 rv0 (runPol lk U X sumsS never never0 100000 40 9 (startF [.agg [some .i64, some .i64, some .i64], .agg [some .i64, some .i64, some .i64]] facts0).1 (startF [.agg [some .i64, some .i64, some .i64], .agg [some .i64, some .i64, some .i64]] facts0).2) = true := by kernel_rfl
/-- What the names stand for. -/
theorem eqs0 {g : Sg} (h : EqsP g ds0) :
    (g 6 = wrapF .i64 (g 0)) ∧
    (g 7 = wrapF .i64 (g 1)) ∧
    (g 8 = wrapF .i64 (g 2)) ∧
    (g 12 = (g 6).tmod ((1048576))) ∧
    (g 14 = (g 7).tmod ((1048576))) ∧
    (g 16 = (g 8).tmod ((1048576))) ∧
    (g 18 = U 32 [g 12, g 14, g 16]) ∧ True := h
theorem told0 {g : Sg} (h0 : g 18 = (0 : Int)) (h1 : ¬ (g 12 < (0 : Int))) (h2 : ¬ ((0 : Int) < g 12)) (h3 : ¬ (g 14 < (0 : Int))) (h4 : ¬ ((0 : Int) < g 14)) (h5 : ¬ (g 16 < (0 : Int))) (h6 : ¬ ((0 : Int) < g 16)) : FactsOk g facts0 :=
  ⟨fact_eq (decide_eq_true h0), fact_lt (decide_eq_false h1), fact_lt (decide_eq_false h2), fact_lt (decide_eq_false h3), fact_lt (decide_eq_false h4), fact_lt (decide_eq_false h5), fact_lt (decide_eq_false h6), trivial⟩
end Go.Proofs.Ytplojnnjkpeifaa.rotSmall
