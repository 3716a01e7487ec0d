/- The document's own scalars again: a product divided. -/
import Derived.Test.YtmpainhbmgabbaaQK
namespace Go.Proofs.Ytmpainhbmgabbaa
open Go.RowKit

end Go.Proofs.Ytmpainhbmgabbaa
