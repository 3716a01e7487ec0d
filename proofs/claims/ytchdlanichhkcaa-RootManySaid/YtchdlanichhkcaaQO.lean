/- The document's own scalars again: a product divided by nought; both. -/
import Derived.Test.YtchdlanichhkcaaQN
namespace Go.Proofs.Ytchdlanichhkcaa
open Go.RowKit

end Go.Proofs.Ytchdlanichhkcaa
