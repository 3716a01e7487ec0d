/- The document's own scalars again: a product divided by nought; both. -/
import Derived.Test.YtmpainhbmgabbaaQN
namespace Go.Proofs.Ytmpainhbmgabbaa
open Go.RowKit

end Go.Proofs.Ytmpainhbmgabbaa
