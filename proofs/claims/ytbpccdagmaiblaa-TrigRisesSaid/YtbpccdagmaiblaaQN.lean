/- The document's own scalars again: a product divided. -/
import Derived.Test.YtbpccdagmaiblaaQK
namespace Go.Proofs.Ytbpccdagmaiblaa
open Go.RowKit

end Go.Proofs.Ytbpccdagmaiblaa
