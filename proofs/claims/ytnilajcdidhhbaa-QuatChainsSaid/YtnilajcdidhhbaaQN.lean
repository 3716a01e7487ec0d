/- The document's own scalars again: a product divided. -/
import Derived.Test.YtnilajcdidhhbaaQK
namespace Go.Proofs.Ytnilajcdidhhbaa
open Go.RowKit

end Go.Proofs.Ytnilajcdidhhbaa
