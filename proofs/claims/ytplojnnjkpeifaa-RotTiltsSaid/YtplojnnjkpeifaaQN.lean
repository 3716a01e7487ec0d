/- The document's own scalars again: a product divided. -/
import Derived.Test.YtplojnnjkpeifaaQK
namespace Go.Proofs.Ytplojnnjkpeifaa
open Go.RowKit

end Go.Proofs.Ytplojnnjkpeifaa
