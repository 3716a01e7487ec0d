/- Known calls: sines alone, with what the document tells of a few numbers. -/
import Derived.Test.YtbpccdagmaiblaaAwakes
import Derived.Test.YtbpccdagmaiblaaKA
namespace Go.Proofs.Ytbpccdagmaiblaa.SX
open Go Go.RowKit
noncomputable section
def sumsS : Sum :=
  orS (one 11 (ownS 25 [none] 36 1)) <|
  orS (one 45 (ownS 60 [none] 36 1)) sumsA
theorem sumsS_ok (g : Sg) : CallOk Try.prog U g sumsS :=
  orS_ok (one_ok sin_case) <| orS_ok (one_ok sinQ_case) (sumsA_ok g)
end
end Go.Proofs.Ytbpccdagmaiblaa.SX
