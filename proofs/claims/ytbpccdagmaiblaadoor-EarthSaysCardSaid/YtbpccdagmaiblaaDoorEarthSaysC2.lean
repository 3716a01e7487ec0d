/- astrolabelaw8.EarthSays: a row of the table. -/
import Derived.Test.YtbpccdagmaiblaaDoorEarthSaysD
import Derived.KernelRfl
namespace Go.Proofs.YtbpccdagmaiblaaDoor.earthSays
open Go SX
set_option maxRecDepth 1000000 in
theorem c20 : okC 2 0 = true := by kernel_rfl
set_option maxRecDepth 1000000 in
theorem c21 : okC 2 1 = true := by kernel_rfl
set_option maxRecDepth 1000000 in
theorem c22 : okC 2 2 = true := by kernel_rfl
set_option maxRecDepth 1000000 in
theorem c23 : okC 2 3 = true := by kernel_rfl
set_option maxRecDepth 1000000 in
theorem c24 : okC 2 4 = true := by kernel_rfl
set_option maxRecDepth 1000000 in
theorem c25 : okC 2 5 = true := by kernel_rfl
set_option maxRecDepth 1000000 in
theorem c26 : okC 2 6 = true := by kernel_rfl
end Go.Proofs.YtbpccdagmaiblaaDoor.earthSays
