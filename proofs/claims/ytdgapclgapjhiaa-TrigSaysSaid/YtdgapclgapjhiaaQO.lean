/- The document's own scalars again: a product divided by nought; both. -/
import Derived.Test.YtdgapclgapjhiaaQN
namespace Go.Proofs.Ytdgapclgapjhiaa
open Go.RowKit

end Go.Proofs.Ytdgapclgapjhiaa
