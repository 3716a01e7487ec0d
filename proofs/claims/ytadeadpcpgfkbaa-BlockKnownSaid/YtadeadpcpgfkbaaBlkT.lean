/- Steps of package thornton that package block takes, reckoned: a table. Nothing of a program is used. -/
import Derived.Test.YtadeadpcpgfkbaaBlkT0
import Derived.Test.YtadeadpcpgfkbaaBlkT1
import Derived.Test.YtadeadpcpgfkbaaBlkT2
import Derived.Test.YtadeadpcpgfkbaaBlkT3
import Derived.Test.YtadeadpcpgfkbaaSxTh
namespace Go.Proofs.Ytadeadpcpgfkbaa
def stepTabB : List (List Int × List Int × Bool) := [(tabB0, tabS0, false), (tabB1, tabS1, false), (tabB2, tabS2, false), (tabB3, tabS3, false)]
theorem stepTabB_ok : ∀ e ∈ stepTabB, stepZ e.1 = e.2 := by
  intro e he
  simp only [stepTabB, List.mem_cons, List.not_mem_nil, or_false] at he
  rcases he with rfl | rfl | rfl | rfl
  · exact tabB0_ok
  · exact tabB1_ok
  · exact tabB2_ok
  · exact tabB3_ok
end Go.Proofs.Ytadeadpcpgfkbaa
namespace Go.Proofs.Ytadeadpcpgfkbaa.SX
open Go Go.RowKit
noncomputable section
variable {g : Sg}
def sumsBk : Sum := orS (one 40 (stepS stepTabB)) <| orS (one 18 newS) <| orS (one 48 setS) <| orS (one 26 uS) <| one 28 atS
theorem sumsBk_ok (g : Sg) : CallOk Try.prog U g sumsBk := orS_ok (one_ok (step_case stepTabB_ok)) <| orS_ok (one_ok new_case) <| orS_ok (one_ok set_case) <| orS_ok (one_ok u_case) <| one_ok at_case
end
end Go.Proofs.Ytadeadpcpgfkbaa.SX
