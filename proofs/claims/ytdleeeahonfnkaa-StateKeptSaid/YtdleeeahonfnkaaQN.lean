/- The document's own scalars again: a product divided. -/
import Derived.Test.YtdleeeahonfnkaaQK
namespace Go.Proofs.Ytdleeeahonfnkaa
open Go.RowKit

end Go.Proofs.Ytdleeeahonfnkaa
