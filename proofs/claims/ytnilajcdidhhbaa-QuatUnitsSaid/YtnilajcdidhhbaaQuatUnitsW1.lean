/- astrolabelaw6.QuatUnits, way by way. -/
import Derived.Test.YtnilajcdidhhbaaQuatUnitsD
namespace Go.Proofs.Ytnilajcdidhhbaa.quatUnits
open Go
set_option maxRecDepth 1000000 in
theorem leaf2 : SX.lawW [.agg [some .i64, some .i64, some .i64, some .i64], .agg [some .i64, some .i64, some .i64, some .i64]] 81 (d2 ++ (d0 ++ [])) ((80, true) :: ((33, false) :: [])) (run (List.map Prod.snd ((80, true) :: ((33, false) :: []))).reverse) = true := by kernel_rfl
set_option maxRecDepth 1000000 in
theorem leaf1 : SX.lawW [.agg [some .i64, some .i64, some .i64, some .i64], .agg [some .i64, some .i64, some .i64, some .i64]] 53 (d1 ++ (d0 ++ [])) ((52, false) :: ((33, true) :: [])) (run (List.map Prod.snd ((52, false) :: ((33, true) :: []))).reverse) = true := by kernel_rfl
end Go.Proofs.Ytnilajcdidhhbaa.quatUnits
