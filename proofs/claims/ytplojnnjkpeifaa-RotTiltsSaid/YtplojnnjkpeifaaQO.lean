/- The document's own scalars again: a product divided by nought; both. -/
import Derived.Test.YtplojnnjkpeifaaQN
namespace Go.Proofs.Ytplojnnjkpeifaa
open Go.RowKit

end Go.Proofs.Ytplojnnjkpeifaa
