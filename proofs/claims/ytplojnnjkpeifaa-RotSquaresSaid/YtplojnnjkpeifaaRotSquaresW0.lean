/- astrolabelaw7.RotSquares, way by way. -/
import Derived.Test.YtplojnnjkpeifaaRotSquaresD
namespace Go.Proofs.Ytplojnnjkpeifaa.rotSquares
open Go
set_option maxRecDepth 1000000 in
theorem leaf1 : SX.lawW [.agg [some .i64, some .i64, some .i64, some .i64]] 26 (d0 ++ []) ((25, false) :: []) (run (List.map Prod.snd ((25, false) :: [])).reverse) = true := by kernel_rfl
set_option maxRecDepth 1000000 in
theorem leaf0 : SX.lawW [.agg [some .i64, some .i64, some .i64, some .i64]] 26 (d0 ++ []) ((25, true) :: []) (run (List.map Prod.snd ((25, true) :: [])).reverse) = true := by kernel_rfl
end Go.Proofs.Ytplojnnjkpeifaa.rotSquares
