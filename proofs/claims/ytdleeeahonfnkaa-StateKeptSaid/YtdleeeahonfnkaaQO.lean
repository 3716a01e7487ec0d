/- The document's own scalars again: a product divided by nought; both. -/
import Derived.Test.YtdleeeahonfnkaaQN
namespace Go.Proofs.Ytdleeeahonfnkaa
open Go.RowKit

end Go.Proofs.Ytdleeeahonfnkaa
