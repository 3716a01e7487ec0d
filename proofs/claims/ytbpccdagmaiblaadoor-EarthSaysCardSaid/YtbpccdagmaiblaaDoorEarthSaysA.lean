/- astrolabelaw8.EarthSays: places that may not be. -/
import Derived.Test.YtbpccdagmaiblaaDoorEarthSaysD
import Derived.KernelRfl
namespace Go.Proofs.YtbpccdagmaiblaaDoor.earthSays
open Go SX
set_option maxRecDepth 1000000 in
theorem a0 : okA 0 = true := by kernel_rfl
set_option maxRecDepth 1000000 in
theorem a1 : okA 1 = true := by kernel_rfl
set_option maxRecDepth 1000000 in
theorem a2 : okA 2 = true := by kernel_rfl
set_option maxRecDepth 1000000 in
theorem a3 : okA 3 = true := by kernel_rfl
set_option maxRecDepth 1000000 in
theorem a4 : okA 4 = true := by kernel_rfl
set_option maxRecDepth 1000000 in
theorem a5 : okA 5 = true := by kernel_rfl
end Go.Proofs.YtbpccdagmaiblaaDoor.earthSays
