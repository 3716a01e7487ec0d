/- astrolabelaw8.EarthSays: a row of the table. -/
import Derived.Test.YtbpccdagmaiblaaDoorEarthSaysD
import Derived.KernelRfl
namespace Go.Proofs.YtbpccdagmaiblaaDoor.earthSays
open Go SX
set_option maxRecDepth 1000000 in
theorem c00 : okC 0 0 = true := by kernel_rfl
set_option maxRecDepth 1000000 in
theorem c01 : okC 0 1 = true := by kernel_rfl
set_option maxRecDepth 1000000 in
theorem c02 : okC 0 2 = true := by kernel_rfl
set_option maxRecDepth 1000000 in
theorem c03 : okC 0 3 = true := by kernel_rfl
set_option maxRecDepth 1000000 in
theorem c04 : okC 0 4 = true := by kernel_rfl
set_option maxRecDepth 1000000 in
theorem c05 : okC 0 5 = true := by kernel_rfl
set_option maxRecDepth 1000000 in
theorem c06 : okC 0 6 = true := by kernel_rfl
end Go.Proofs.YtbpccdagmaiblaaDoor.earthSays
