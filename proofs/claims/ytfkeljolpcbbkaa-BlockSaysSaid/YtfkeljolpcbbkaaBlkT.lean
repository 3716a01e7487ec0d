/- Steps of package thornton that package block takes, reckoned: a table. Nothing of a program is used. -/
import Derived.Test.YtfkeljolpcbbkaaBlkT0
import Derived.Test.YtfkeljolpcbbkaaBlkT1
import Derived.Test.YtfkeljolpcbbkaaBlkT2
import Derived.Test.YtfkeljolpcbbkaaBlkT3
import Derived.Test.YtfkeljolpcbbkaaSxTh
namespace Go.Proofs.Ytfkeljolpcbbkaa
def stepTabB : List (List Int × List Int × Bool) := [(tabB0, tabS0, false), (tabB1, tabS1, false), (tabB2, tabS2, false), (tabB3, tabS3, false)]
theorem stepTabB_ok : ∀ e ∈ stepTabB, stepZ e.1 = e.2 := by
  intro e he
  simp only [stepTabB, List.mem_cons, List.not_mem_nil, or_false] at he
  rcases he with rfl | rfl | rfl | rfl
  · exact tabB0_ok
  · exact tabB1_ok
  · exact tabB2_ok
  · exact tabB3_ok
end Go.Proofs.Ytfkeljolpcbbkaa
namespace Go.Proofs.Ytfkeljolpcbbkaa.SX
open Go Go.RowKit
noncomputable section
variable {g : Sg}
def sumsBk : Sum := orS (one 96 (stepS stepTabB)) <| orS (one 153 newS) <| orS (one 92 setS) <| orS (one 85 uS) <| one 87 atS
theorem sumsBk_ok (g : Sg) : CallOk Try.prog U g sumsBk := orS_ok (one_ok (step_case stepTabB_ok)) <| orS_ok (one_ok new_case) <| orS_ok (one_ok set_case) <| orS_ok (one_ok u_case) <| one_ok at_case
end
end Go.Proofs.Ytfkeljolpcbbkaa.SX
