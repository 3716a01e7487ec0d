/- astrolabelaw8.EarthSays: a row of the table. -/
import Derived.Test.YtbpccdagmaiblaaDoorEarthSaysD
import Derived.KernelRfl
namespace Go.Proofs.YtbpccdagmaiblaaDoor.earthSays
open Go SX
set_option maxRecDepth 1000000 in
theorem c40 : okC 4 0 = true := by kernel_rfl
set_option maxRecDepth 1000000 in
theorem c41 : okC 4 1 = true := by kernel_rfl
set_option maxRecDepth 1000000 in
theorem c42 : okC 4 2 = true := by kernel_rfl
set_option maxRecDepth 1000000 in
theorem c43 : okC 4 3 = true := by kernel_rfl
set_option maxRecDepth 1000000 in
theorem c44 : okC 4 4 = true := by kernel_rfl
set_option maxRecDepth 1000000 in
theorem c45 : okC 4 5 = true := by kernel_rfl
set_option maxRecDepth 1000000 in
theorem c46 : okC 4 6 = true := by kernel_rfl
end Go.Proofs.YtbpccdagmaiblaaDoor.earthSays
