/- astrolabelaw4.TrigRises, run with facts told ahead. -/
import Derived.Test.YtbpccdagmaiblaaSxHa
import Derived.Test.YtbpccdagmaiblaaTrigV
namespace Go.Proofs.Ytbpccdagmaiblaa.trigRises
open Go SX
def facts1 : List (Bool × A × A × Bool) := [(false, .x 2, .k (-1686629713), false), (false, .k 1686629713, .x 3, false), (false, .x 3, .x 2, false), (false, .x 6, .k 65536, false), (false, .x 2, .k 0, false), (false, .x 11, .x 9, false)]
def ds1 : Defs := [
  (2, .conv .i64, [.x 0]),
  (3, .conv .i64, [.x 1]),
  (6, .lin (0) [(-1), (1)], [.x 2, .x 3]),
  (9, .u 36, [.x 2]),
  (10, .u 36, [.x 3]),
  (11, .lin (64) [(1)], [.x 10]),
  (16, .lin (1686629713) [(1)], [.x 2]),
  (17, .u 36, [.x 16]),
  (19, .lin (64) [(1)], [.x 17]),
  (22, .lin (1686629713) [(1)], [.x 3]),
  (23, .u 36, [.x 22]),
  (26, .cmp .lss, [.x 19, .x 23]),
  (27, .not, [.x 26])]
abbrev rv1 : A := .x 27
set_option maxRecDepth 1000000 in
theorem ran1 : lawH [.one (some .i64), .one (some .i64)] facts1 ds1 rv1 (runPol lk U X sumsS never never0 100000 40 6 (startF [.one (some .i64), .one (some .i64)] facts1).1 (startF [.one (some .i64), .one (some .i64)] facts1).2) = true := by kernel_rfl
/-- What the names stand for. -/
theorem eqs1 {g : Sg} (h : EqsP g ds1) :
    (g 2 = wrapF .i64 (g 0)) ∧
    (g 3 = wrapF .i64 (g 1)) ∧
    (g 6 = (-1) * g 2 + ((1) * g 3 + (0))) ∧
    (g 9 = U 36 [g 2]) ∧
    (g 10 = U 36 [g 3]) ∧
    (g 11 = (1) * g 10 + (64)) ∧
    (g 16 = (1) * g 2 + (1686629713)) ∧
    (g 17 = U 36 [g 16]) ∧
    (g 19 = (1) * g 17 + (64)) ∧
    (g 22 = (1) * g 3 + (1686629713)) ∧
    (g 23 = U 36 [g 22]) ∧
    (g 26 = b2i (cmpF .lss (g 19) (g 23))) ∧
    (g 27 = b2i (!ieq (g 26) 1)) ∧ True := h
theorem told1 {g : Sg} (h0 : ¬ (g 2 < (-1686629713 : Int))) (h1 : ¬ ((1686629713 : Int) < g 3)) (h2 : ¬ (g 3 < g 2)) (h3 : ¬ (g 6 < (65536 : Int))) (h4 : ¬ (g 2 < (0 : Int))) (h5 : ¬ (g 11 < g 9)) : FactsOk g facts1 :=
  ⟨fact_lt (decide_eq_false h0), fact_lt (decide_eq_false h1), fact_lt (decide_eq_false h2), fact_lt (decide_eq_false h3), fact_lt (decide_eq_false h4), fact_lt (decide_eq_false h5), trivial⟩
end Go.Proofs.Ytbpccdagmaiblaa.trigRises
