/- What the document tells of one variance (chapter 9), run once. -/
import Derived.Test.YtfkeljolpcbbkaaSxTr
import Derived.Test.YtfkeljolpcbbkaaSxY
namespace Go.Proofs.Ytfkeljolpcbbkaa.SX
open Go Go.RowKit
noncomputable section
def sumsAn : Sum := orS (one 153 newS) <| orS (one 92 setS) <| orS (one 83 goodS) <| orS (one 85 uS) <| orS (one 89 condS) <| orS (one 91 diagS) <| orS (one 93 mostS) <| one 87 atS
theorem sumsAn_ok (g : Sg) : CallOk Try.prog U g sumsAn := orS_ok (one_ok new_case) <| orS_ok (one_ok set_case) <| orS_ok (one_ok good_case) <| orS_ok (one_ok u_case) <| orS_ok (one_ok cond_case) <| orS_ok (one_ok diag_case) <| orS_ok (one_ok most_case) <| one_ok at_case
set_option maxRecDepth 100000 in
theorem awn_ran : trueB (runCall lk U X sumsAn 100000 40 82 [] st0) = true := by kernel_rfl
end
end Go.Proofs.Ytfkeljolpcbbkaa.SX
namespace Go.Proofs.Ytfkeljolpcbbkaa
open Go Go.RowKit
theorem awaken_any (w : World) : Calls Try.prog 82 #[] w fun e w' => e = .returned (.bool true) ∧ Below w.heap.size w w' :=
  SX.closed_true SX.namesOk SX.mixed SX.sumsAn_ok _ _ SX.awn_ran w
end Go.Proofs.Ytfkeljolpcbbkaa
