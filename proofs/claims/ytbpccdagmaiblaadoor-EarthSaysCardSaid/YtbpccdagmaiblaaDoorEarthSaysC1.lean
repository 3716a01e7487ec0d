/- astrolabelaw8.EarthSays: a row of the table. -/
import Derived.Test.YtbpccdagmaiblaaDoorEarthSaysD
import Derived.KernelRfl
namespace Go.Proofs.YtbpccdagmaiblaaDoor.earthSays
open Go SX
set_option maxRecDepth 1000000 in
theorem c10 : okC 1 0 = true := by kernel_rfl
set_option maxRecDepth 1000000 in
theorem c11 : okC 1 1 = true := by kernel_rfl
set_option maxRecDepth 1000000 in
theorem c12 : okC 1 2 = true := by kernel_rfl
set_option maxRecDepth 1000000 in
theorem c13 : okC 1 3 = true := by kernel_rfl
set_option maxRecDepth 1000000 in
theorem c14 : okC 1 4 = true := by kernel_rfl
set_option maxRecDepth 1000000 in
theorem c15 : okC 1 5 = true := by kernel_rfl
set_option maxRecDepth 1000000 in
theorem c16 : okC 1 6 = true := by kernel_rfl
end Go.Proofs.YtbpccdagmaiblaaDoor.earthSays
