/- TriKnown, run by the runner. -/
import Derived.Test.YtaehmhdcniegkaaTriAw
namespace Go.Proofs.Ytaehmhdcniegkaa.triKnown
open Go
set_option maxRecDepth 100000 in
theorem ran : SX.trueB (SX.runCall SX.lk SX.U SX.X SX.sumsT9 100000 40 3 [] SX.st0) = true := by kernel_rfl
theorem walk (w : World) : Calls Try.prog 3 #[] w fun e w' => e = .returned (.bool true) ∧ RowKit.Below w.heap.size w w' :=
  SX.closed_true SX.namesOk SX.mixed SX.sumsT9_ok _ _ ran w
end Go.Proofs.Ytaehmhdcniegkaa.triKnown
