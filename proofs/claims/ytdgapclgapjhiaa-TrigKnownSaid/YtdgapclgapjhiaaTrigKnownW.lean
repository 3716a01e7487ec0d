/- TrigKnown, run by the runner. -/
import Derived.Test.YtdgapclgapjhiaaSE
import Derived.Test.YtdgapclgapjhiaaSxY
namespace Go.Proofs.Ytdgapclgapjhiaa.trigKnown
open Go
set_option maxRecDepth 100000 in
theorem ran : SX.trueB (SX.runCall SX.lk SX.U SX.X SX.sums 100000 40 10 [] SX.st0) = true := by kernel_rfl
theorem walk (w : World) : Calls Try.prog 10 #[] w fun e w' => e = .returned (.bool true) ∧ RowKit.Below w.heap.size w w' :=
  SX.closed_true SX.namesOk SX.mixed SX.sums_ok _ _ ran w
end Go.Proofs.Ytdgapclgapjhiaa.trigKnown
