/- astrolabelaw6.QuatGroups, way by way. -/
import Derived.Test.YtnilajcdidhhbaaQuatGroupsD
namespace Go.Proofs.Ytnilajcdidhhbaa.quatGroups
open Go
set_option maxRecDepth 1000000 in
theorem leaf7 : SX.lawW [.agg [some .i64, some .i64, some .i64, some .i64], .agg [some .i64, some .i64, some .i64, some .i64], .agg [some .i64, some .i64, some .i64, some .i64]] 136 (d6 ++ (d4 ++ (d0 ++ []))) ((135, false) :: ((88, false) :: ((41, false) :: []))) (run (List.map Prod.snd ((135, false) :: ((88, false) :: ((41, false) :: [])))).reverse) = true := by kernel_rfl
set_option maxRecDepth 1000000 in
theorem leaf2 : SX.lawW [.agg [some .i64, some .i64, some .i64, some .i64], .agg [some .i64, some .i64, some .i64, some .i64], .agg [some .i64, some .i64, some .i64, some .i64]] 108 (d3 ++ (d1 ++ (d0 ++ []))) ((107, true) :: ((60, false) :: ((41, true) :: []))) (run (List.map Prod.snd ((107, true) :: ((60, false) :: ((41, true) :: [])))).reverse) = true := by kernel_rfl
end Go.Proofs.Ytnilajcdidhhbaa.quatGroups
