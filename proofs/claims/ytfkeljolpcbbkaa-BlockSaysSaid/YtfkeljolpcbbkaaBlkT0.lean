/- A step of package thornton, reckoned. Nothing of a program is used. -/
import Derived.Test.YtfkeljolpcbbkaaRN
namespace Go.Proofs.Ytfkeljolpcbbkaa
def tabB0 : List Int := List.replicate 276 (0) ++ (List.replicate 2 (17592186044416) ++ (List.replicate 22 (1) ++ (List.replicate 25 (0) ++ ([1073741824] ++ (List.replicate 24 (0) ++ ([1073741824] ++ (List.replicate 24 (0) ++ ([1073741824] ++ (List.replicate 24 (0) ++ ([1073741824] ++ (List.replicate 24 (0) ++ ([1073741824] ++ (List.replicate 24 (0) ++ ([1073741824] ++ (List.replicate 24 (0) ++ ([1073741824] ++ (List.replicate 24 (0) ++ ([1073741824] ++ (List.replicate 24 (0) ++ ([1073741824] ++ (List.replicate 24 (0) ++ ([1073741824] ++ (List.replicate 24 (0) ++ ([1073741824] ++ (List.replicate 24 (0) ++ ([1073741824] ++ (List.replicate 24 (0) ++ ([1073741824] ++ (List.replicate 24 (0) ++ ([1073741824] ++ (List.replicate 24 (0) ++ ([1073741824] ++ (List.replicate 24 (0) ++ ([1073741824] ++ (List.replicate 24 (0) ++ ([1073741824] ++ (List.replicate 24 (0) ++ ([1073741824] ++ (List.replicate 24 (0) ++ ([1073741824] ++ (List.replicate 24 (0) ++ ([1073741824] ++ (List.replicate 24 (0) ++ ([1073741824] ++ (List.replicate 24 (0) ++ ([1073741824] ++ (List.replicate 24 (0) ++ ([1073741824] ++ ([5] ++ (List.replicate 23 (0)))))))))))))))))))))))))))))))))))))))))))))))))))
def tabS0 : List Int := List.replicate 276 (0) ++ ([5] ++ ([17592186044416] ++ (List.replicate 22 (1))))
set_option maxRecDepth 1000000 in
theorem tabB0_ok : stepZ tabB0 = (tabS0, false) := by kernel_rfl
end Go.Proofs.Ytfkeljolpcbbkaa
