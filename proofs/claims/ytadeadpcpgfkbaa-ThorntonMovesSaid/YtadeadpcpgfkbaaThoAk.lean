/- What the document tells of a small step (chapter 10), run once. -/
import Derived.Test.YtadeadpcpgfkbaaSxTh
import Derived.Test.YtadeadpcpgfkbaaSxY
namespace Go.Proofs.Ytadeadpcpgfkbaa.SX
open Go Go.RowKit
noncomputable section
variable {g : Sg}
def sumsAk : Sum := orS (one 40 (stepS stepTab)) <| one 18 newS
theorem sumsAk_ok (g : Sg) : CallOk Try.prog U g sumsAk := orS_ok (one_ok (step_case stepTab_ok)) <| one_ok new_case
set_option maxRecDepth 100000 in
theorem ak10_ran : trueB (runCall lk U X sumsAk 100000 40 38 [] st0) = true := by kernel_rfl
end
end Go.Proofs.Ytadeadpcpgfkbaa.SX
namespace Go.Proofs.Ytadeadpcpgfkbaa
open Go Go.RowKit
theorem awake10_any (w : World) : Calls Try.prog 38 #[] w fun e w' => e = .returned (.bool true) ∧ Below w.heap.size w w' :=
  SX.closed_true SX.namesOk SX.mixed SX.sumsAk_ok _ _ SX.ak10_ran w
end Go.Proofs.Ytadeadpcpgfkbaa
