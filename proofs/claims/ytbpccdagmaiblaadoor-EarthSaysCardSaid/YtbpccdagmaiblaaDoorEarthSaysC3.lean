/- astrolabelaw8.EarthSays: a row of the table. -/
import Derived.Test.YtbpccdagmaiblaaDoorEarthSaysD
import Derived.KernelRfl
namespace Go.Proofs.YtbpccdagmaiblaaDoor.earthSays
open Go SX
set_option maxRecDepth 1000000 in
theorem c30 : okC 3 0 = true := by kernel_rfl
set_option maxRecDepth 1000000 in
theorem c31 : okC 3 1 = true := by kernel_rfl
set_option maxRecDepth 1000000 in
theorem c32 : okC 3 2 = true := by kernel_rfl
set_option maxRecDepth 1000000 in
theorem c33 : okC 3 3 = true := by kernel_rfl
set_option maxRecDepth 1000000 in
theorem c34 : okC 3 4 = true := by kernel_rfl
set_option maxRecDepth 1000000 in
theorem c35 : okC 3 5 = true := by kernel_rfl
set_option maxRecDepth 1000000 in
theorem c36 : okC 3 6 = true := by kernel_rfl
end Go.Proofs.YtbpccdagmaiblaaDoor.earthSays
