/- Known calls: sines alone, with what the document tells of a few numbers. -/
import Derived.Test.YtplojnnjkpeifaaAwakes
import Derived.Test.YtplojnnjkpeifaaKA
namespace Go.Proofs.Ytplojnnjkpeifaa.SX
open Go Go.RowKit
noncomputable section
def sumsS : Sum :=
  orS (one 67 (ownS 25 [none] 36 1)) <|
  orS (one 68 (ownS 40 [none] 36 1)) sumsA
theorem sumsS_ok (g : Sg) : CallOk Try.prog U g sumsS :=
  orS_ok (one_ok sin_case) <| orS_ok (one_ok sinQ_case) (sumsA_ok g)
end
end Go.Proofs.Ytplojnnjkpeifaa.SX
