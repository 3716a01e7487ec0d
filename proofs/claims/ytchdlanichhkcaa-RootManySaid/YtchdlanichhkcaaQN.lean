/- The document's own scalars again: a product divided. -/
import Derived.Test.YtchdlanichhkcaaQK
namespace Go.Proofs.Ytchdlanichhkcaa
open Go.RowKit

end Go.Proofs.Ytchdlanichhkcaa
