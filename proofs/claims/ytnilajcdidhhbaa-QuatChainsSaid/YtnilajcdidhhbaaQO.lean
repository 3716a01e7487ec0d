/- The document's own scalars again: a product divided by nought; both. -/
import Derived.Test.YtnilajcdidhhbaaQN
namespace Go.Proofs.Ytnilajcdidhhbaa
open Go.RowKit

end Go.Proofs.Ytnilajcdidhhbaa
