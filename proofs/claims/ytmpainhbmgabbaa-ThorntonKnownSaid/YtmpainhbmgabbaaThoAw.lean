/- What the document tells of a small step (chapter 10), run once; the calls of thornton, with it. -/
import Derived.Test.YtmpainhbmgabbaaSTX
import Derived.Test.YtmpainhbmgabbaaTriAw
namespace Go.Proofs.Ytmpainhbmgabbaa.SX
open Go Go.RowKit
noncomputable section
set_option maxRecDepth 100000 in
theorem aw10_ran : trueB (runCall lk U X sumsTg 100000 40 97 [] st0) = true := by kernel_rfl
def sumsT10 : Sum := orS (one 97 closedT) (orS (one 84 closedT) sumsTg)
theorem sumsT10_ok (g : Sg) : CallOk Try.prog U g sumsT10 := orS_ok (one_ok (closedT_case fun w => closed_true namesOk mixed sumsTg_ok _ _ aw10_ran w)) (orS_ok (one_ok (closedT_case fun w => closed_true namesOk mixed sumsTr_ok _ _ aw9_ran w)) (sumsTg_ok g))
end
end Go.Proofs.Ytmpainhbmgabbaa.SX
