/- RootKnown, run by the runner. -/
import Derived.Test.YtonjlepnhljbbaaSxL
namespace Go.Proofs.Ytonjlepnhljbbaa.rootKnown
open Go
set_option maxRecDepth 100000 in
theorem ran : SX.trueB (SX.runCall Try.prog SX.U0 SX.X SX.noSum 100000 40 6 [] SX.st0) = true := by kernel_rfl
theorem walk (w : World) : Calls Try.prog 6 #[] w fun e w' => e = .returned (.bool true) ∧ RowKit.Below w.heap.size w w' :=
  SX.closed_true SX.namesOk SX.mixed SX.noSum_ok _ _ ran w
end Go.Proofs.Ytonjlepnhljbbaa.rootKnown
