/- astrolabelaw8.EarthBounds: the table, row by row. -/
import Derived.Test.YtbpccdagmaiblaaDoorEarthBoundsD
namespace Go.Proofs.YtbpccdagmaiblaaDoor.earthBounds
open Go SX
set_option maxRecDepth 1000000 in
theorem c0 : (List.range 7).all (fun k => okB 0 k) = true := by kernel_rfl
set_option maxRecDepth 1000000 in
theorem c1 : (List.range 7).all (fun k => okB 1 k) = true := by kernel_rfl
set_option maxRecDepth 1000000 in
theorem c2 : (List.range 7).all (fun k => okB 2 k) = true := by kernel_rfl
set_option maxRecDepth 1000000 in
theorem c3 : (List.range 7).all (fun k => okB 3 k) = true := by kernel_rfl
set_option maxRecDepth 1000000 in
theorem c4 : (List.range 7).all (fun k => okB 4 k) = true := by kernel_rfl
end Go.Proofs.YtbpccdagmaiblaaDoor.earthBounds
