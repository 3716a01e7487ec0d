/- astrolabelaw6.QuatGroups, way by way. -/
import Derived.Test.YtnilajcdidhhbaaQuatGroupsD
namespace Go.Proofs.Ytnilajcdidhhbaa.quatGroups
open Go
set_option maxRecDepth 1000000 in
theorem leaf3 : SX.lawW [.agg [some .i64, some .i64, some .i64, some .i64], .agg [some .i64, some .i64, some .i64, some .i64], .agg [some .i64, some .i64, some .i64, some .i64]] 108 (d3 ++ (d1 ++ (d0 ++ []))) ((107, false) :: ((60, false) :: ((41, true) :: []))) (run (List.map Prod.snd ((107, false) :: ((60, false) :: ((41, true) :: [])))).reverse) = true := by kernel_rfl
set_option maxRecDepth 1000000 in
theorem leaf5 : SX.lawW [.agg [some .i64, some .i64, some .i64, some .i64], .agg [some .i64, some .i64, some .i64, some .i64], .agg [some .i64, some .i64, some .i64, some .i64]] 108 (d5 ++ (d4 ++ (d0 ++ []))) ((107, false) :: ((88, true) :: ((41, false) :: []))) (run (List.map Prod.snd ((107, false) :: ((88, true) :: ((41, false) :: [])))).reverse) = true := by kernel_rfl
set_option maxRecDepth 1000000 in
theorem leaf1 : SX.lawW [.agg [some .i64, some .i64, some .i64, some .i64], .agg [some .i64, some .i64, some .i64, some .i64], .agg [some .i64, some .i64, some .i64, some .i64]] 80 (d2 ++ (d1 ++ (d0 ++ []))) ((79, false) :: ((60, true) :: ((41, true) :: []))) (run (List.map Prod.snd ((79, false) :: ((60, true) :: ((41, true) :: [])))).reverse) = true := by kernel_rfl
end Go.Proofs.Ytnilajcdidhhbaa.quatGroups
