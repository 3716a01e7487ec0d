/- What the document tells of the empty estimate: run once. -/
import Derived.Test.YtdleeeahonfnkaaSxSt
import Derived.Test.YtdleeeahonfnkaaAwakes
namespace Go.Proofs.Ytdleeeahonfnkaa.SX
open Go Go.RowKit
noncomputable section
def sumsSA : Sum := orS sumsSt sumsA
theorem sumsSA_ok (g : Sg) : CallOk Try.prog U g sumsSA := orS_ok (sumsSt_ok g) (sumsA_ok g)
set_option maxRecDepth 100000 in
theorem aw15_ran : trueB (runCall lk U X sumsSA 100000 40 65 [] st0) = true := by kernel_rfl
def sums15 : Sum := orS (one 65 closedS) sumsSA
theorem sums15_ok (g : Sg) : CallOk Try.prog U g sums15 := orS_ok (one_ok (closed_case fun w => closed_true namesOk mixed sumsSA_ok _ _ aw15_ran w)) (sumsSA_ok g)
end
end Go.Proofs.Ytdleeeahonfnkaa.SX
