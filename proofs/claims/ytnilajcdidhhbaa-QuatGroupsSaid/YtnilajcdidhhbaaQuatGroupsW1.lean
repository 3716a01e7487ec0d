/- astrolabelaw6.QuatGroups, way by way. -/
import Derived.Test.YtnilajcdidhhbaaQuatGroupsD
namespace Go.Proofs.Ytnilajcdidhhbaa.quatGroups
open Go
set_option maxRecDepth 1000000 in
theorem leaf6 : SX.lawW [.agg [some .i64, some .i64, some .i64, some .i64], .agg [some .i64, some .i64, some .i64, some .i64], .agg [some .i64, some .i64, some .i64, some .i64]] 136 (d6 ++ (d4 ++ (d0 ++ []))) ((135, true) :: ((88, false) :: ((41, false) :: []))) (run (List.map Prod.snd ((135, true) :: ((88, false) :: ((41, false) :: [])))).reverse) = true := by kernel_rfl
set_option maxRecDepth 1000000 in
theorem leaf4 : SX.lawW [.agg [some .i64, some .i64, some .i64, some .i64], .agg [some .i64, some .i64, some .i64, some .i64], .agg [some .i64, some .i64, some .i64, some .i64]] 108 (d5 ++ (d4 ++ (d0 ++ []))) ((107, true) :: ((88, true) :: ((41, false) :: []))) (run (List.map Prod.snd ((107, true) :: ((88, true) :: ((41, false) :: [])))).reverse) = true := by kernel_rfl
set_option maxRecDepth 1000000 in
theorem leaf0 : SX.lawW [.agg [some .i64, some .i64, some .i64, some .i64], .agg [some .i64, some .i64, some .i64, some .i64], .agg [some .i64, some .i64, some .i64, some .i64]] 80 (d2 ++ (d1 ++ (d0 ++ []))) ((79, true) :: ((60, true) :: ((41, true) :: []))) (run (List.map Prod.snd ((79, true) :: ((60, true) :: ((41, true) :: [])))).reverse) = true := by kernel_rfl
end Go.Proofs.Ytnilajcdidhhbaa.quatGroups
