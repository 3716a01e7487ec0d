/- The document's own scalars again: a product divided by nought; both. -/
import Derived.Test.YtaehmhdcniegkaaQN
namespace Go.Proofs.Ytaehmhdcniegkaa
open Go.RowKit

end Go.Proofs.Ytaehmhdcniegkaa
