/- The document's own scalars again: a product divided by nought; both. -/
import Derived.Test.YtdmnjoofljdolaaQN
namespace Go.Proofs.Ytdmnjoofljdolaa
open Go.RowKit

end Go.Proofs.Ytdmnjoofljdolaa
