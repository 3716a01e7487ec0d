/- The document's own scalars again: a product divided. -/
import Derived.Test.YtdgapclgapjhiaaQK
namespace Go.Proofs.Ytdgapclgapjhiaa
open Go.RowKit

end Go.Proofs.Ytdgapclgapjhiaa
