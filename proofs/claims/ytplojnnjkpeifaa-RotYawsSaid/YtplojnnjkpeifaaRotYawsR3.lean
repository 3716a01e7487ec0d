/- astrolabelaw7.RotYaws, run with facts told ahead. -/
import Derived.Test.YtplojnnjkpeifaaSxHa
import Derived.Test.YtplojnnjkpeifaaKB
namespace Go.Proofs.Ytplojnnjkpeifaa.rotYaws
open Go SX
def facts3 : List (Bool × A × A × Bool) := [(false, .x 1, .k (-3221225472), false), (false, .k 3221225472, .x 1, true)]
def ds3 : Defs := [
  (1, .conv .i64, [.x 0])]
abbrev rv3 : A := .k 1
set_option maxRecDepth 1000000 in
theorem ran3 : lawH [.one (some .i64)] facts3 ds3 rv3 (runPol lk U X sumsR never never0 100000 40 6 (startF [.one (some .i64)] facts3).1 (startF [.one (some .i64)] facts3).2) = true := by kernel_rfl
/-- What the names stand for. -/
theorem eqs3 {g : Sg} (h : EqsP g ds3) :
    (g 1 = wrapF .i64 (g 0)) ∧ True := h
theorem told3 {g : Sg} (h0 : ¬ (g 1 < (-3221225472 : Int))) (h1 : (3221225472 : Int) < g 1) : FactsOk g facts3 :=
  ⟨fact_lt (decide_eq_false h0), fact_lt (decide_eq_true h1), trivial⟩
end Go.Proofs.Ytplojnnjkpeifaa.rotYaws
