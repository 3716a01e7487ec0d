/- BiermanKnown, run by the runner. -/
import Derived.Test.YtplffehgjdinnaaBieAw
namespace Go.Proofs.Ytplffehgjdinnaa.biermanKnown
open Go
set_option maxRecDepth 100000 in
theorem ran : SX.trueB (SX.runCall SX.lk SX.U SX.X SX.sumsB11 100000 40 10 [] SX.st0) = true := by kernel_rfl
theorem walk (w : World) : Calls Try.prog 10 #[] w fun e w' => e = .returned (.bool true) ∧ RowKit.Below w.heap.size w w' :=
  SX.closed_true SX.namesOk SX.mixed SX.sumsB11_ok _ _ ran w
end Go.Proofs.Ytplffehgjdinnaa.biermanKnown
