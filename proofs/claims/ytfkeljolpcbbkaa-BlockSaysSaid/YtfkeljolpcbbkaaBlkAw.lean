/- What the document tells of two variances (chapter 12), run once. -/
import Derived.Test.YtfkeljolpcbbkaaBlkT
import Derived.Test.YtfkeljolpcbbkaaSxY
namespace Go.Proofs.Ytfkeljolpcbbkaa.SX
open Go Go.RowKit
noncomputable section
set_option maxRecDepth 100000 in
theorem aw12_ran : trueB (runCall lk U X sumsBk 100000 40 105 [] st0) = true := by kernel_rfl
end
end Go.Proofs.Ytfkeljolpcbbkaa.SX
namespace Go.Proofs.Ytfkeljolpcbbkaa
open Go Go.RowKit
theorem awake12_any (w : World) : Calls Try.prog 105 #[] w fun e w' => e = .returned (.bool true) ∧ Below w.heap.size w w' :=
  SX.closed_true SX.namesOk SX.mixed SX.sumsBk_ok _ _ SX.aw12_ran w
end Go.Proofs.Ytfkeljolpcbbkaa
