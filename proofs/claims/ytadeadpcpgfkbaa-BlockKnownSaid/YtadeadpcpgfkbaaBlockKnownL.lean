/- BlockKnown, run by the runner. -/
import Derived.Test.YtadeadpcpgfkbaaBlkAw
namespace Go.Proofs.Ytadeadpcpgfkbaa.blockKnown
open Go
set_option maxRecDepth 100000 in
theorem ran : SX.trueB (SX.runCall SX.lk SX.U SX.X SX.sumsK12 100000 40 3 [] SX.st0) = true := by kernel_rfl
theorem walk (w : World) : Calls Try.prog 3 #[] w fun e w' => e = .returned (.bool true) ∧ RowKit.Below w.heap.size w w' :=
  SX.closed_true SX.namesOk SX.mixed SX.sumsK12_ok _ _ ran w
end Go.Proofs.Ytadeadpcpgfkbaa.blockKnown
