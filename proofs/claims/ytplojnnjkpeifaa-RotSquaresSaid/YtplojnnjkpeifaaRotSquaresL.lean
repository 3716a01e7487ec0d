/- astrolabelaw7.RotSquares, all ways. -/
import Derived.Test.YtplojnnjkpeifaaRotSquaresW0
namespace Go.Proofs.Ytplojnnjkpeifaa.rotSquares
open Go
theorem ran : SX.WT.Ran [.agg [some .i64, some .i64, some .i64, some .i64]] run (SX.WT.node 25 26 d0 SX.WT.leaf SX.WT.leaf) (SX.arSize [.agg [some .i64, some .i64, some .i64, some .i64]]) [] [] := ⟨by kernel_rfl, leaf0, leaf1⟩
end Go.Proofs.Ytplojnnjkpeifaa.rotSquares
