/- The document's own scalars again: a product divided by nought; both. -/
import Derived.Test.YtbpccdagmaiblaaQN
namespace Go.Proofs.Ytbpccdagmaiblaa
open Go.RowKit

end Go.Proofs.Ytbpccdagmaiblaa
