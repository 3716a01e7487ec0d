/- The document's own scalars again: a product divided. -/
import Derived.Test.YtdmnjoofljdolaaQK
namespace Go.Proofs.Ytdmnjoofljdolaa
open Go.RowKit

end Go.Proofs.Ytdmnjoofljdolaa
