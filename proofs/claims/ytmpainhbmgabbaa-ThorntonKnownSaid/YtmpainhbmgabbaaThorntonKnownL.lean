/- ThorntonKnown, run by the runner. -/
import Derived.Test.YtmpainhbmgabbaaThoAw
namespace Go.Proofs.Ytmpainhbmgabbaa.thorntonKnown
open Go
set_option maxRecDepth 100000 in
theorem ran : SX.trueB (SX.runCall SX.lk SX.U SX.X SX.sumsT10 100000 40 11 [] SX.st0) = true := by kernel_rfl
theorem walk (w : World) : Calls Try.prog 11 #[] w fun e w' => e = .returned (.bool true) ∧ RowKit.Below w.heap.size w w' :=
  SX.closed_true SX.namesOk SX.mixed SX.sumsT10_ok _ _ ran w
end Go.Proofs.Ytmpainhbmgabbaa.thorntonKnown
