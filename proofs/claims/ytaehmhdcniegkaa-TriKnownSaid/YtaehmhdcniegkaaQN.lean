/- The document's own scalars again: a product divided. -/
import Derived.Test.YtaehmhdcniegkaaQK
namespace Go.Proofs.Ytaehmhdcniegkaa
open Go.RowKit

end Go.Proofs.Ytaehmhdcniegkaa
