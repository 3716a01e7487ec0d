/- StateKnown, run by the runner. -/
import Derived.Test.YtdleeeahonfnkaaStAw
namespace Go.Proofs.Ytdleeeahonfnkaa.stateKnown
open Go
set_option maxRecDepth 100000 in
theorem ran : SX.trueB (SX.runCall SX.lk SX.U SX.X SX.sums15 100000 40 7 [] SX.st0) = true := by kernel_rfl
theorem walk (w : World) : Calls Try.prog 7 #[] w fun e w' => e = .returned (.bool true) ∧ RowKit.Below w.heap.size w w' :=
  SX.closed_true SX.namesOk SX.mixed SX.sums15_ok _ _ ran w
end Go.Proofs.Ytdleeeahonfnkaa.stateKnown
