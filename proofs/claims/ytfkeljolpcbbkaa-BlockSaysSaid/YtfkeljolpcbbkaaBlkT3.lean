/- A step of package thornton, reckoned. Nothing of a program is used. -/
import Derived.Test.YtfkeljolpcbbkaaRN
namespace Go.Proofs.Ytfkeljolpcbbkaa
def tabB3 : List Int := List.replicate 276 (0) ++ (List.replicate 2 (17592186044416) ++ (List.replicate 22 (1) ++ ([1073741824] ++ (List.replicate 24 (0) ++ ([1073741824] ++ (List.replicate 24 (0) ++ ([1073741824] ++ (List.replicate 24 (0) ++ ([1073741824] ++ (List.replicate 24 (0) ++ ([1073741824] ++ (List.replicate 24 (0) ++ ([1073741824] ++ (List.replicate 24 (0) ++ ([1073741824] ++ (List.replicate 24 (0) ++ ([1073741824] ++ (List.replicate 24 (0) ++ ([1073741824] ++ (List.replicate 24 (0) ++ ([1073741824] ++ (List.replicate 24 (0) ++ ([1073741824] ++ (List.replicate 24 (0) ++ ([1073741824] ++ (List.replicate 24 (0) ++ ([1073741824] ++ (List.replicate 24 (0) ++ ([1073741824] ++ (List.replicate 24 (0) ++ ([1073741824] ++ (List.replicate 24 (0) ++ ([1073741824] ++ (List.replicate 24 (0) ++ ([1073741824] ++ (List.replicate 24 (0) ++ ([1073741824] ++ (List.replicate 24 (0) ++ ([1073741824] ++ (List.replicate 24 (0) ++ ([1073741824] ++ (List.replicate 24 (0) ++ ([1073741824] ++ (List.replicate 24 (0) ++ ([1073741824] ++ (List.replicate 24 (0) ++ ([1073741824] ++ (List.replicate 24 (0) ++ ([1073741824] ++ (List.replicate 24 (0)))))))))))))))))))))))))))))))))))))))))))))))))))
def tabS3 : List Int := List.replicate 276 (0) ++ (List.replicate 2 (17592186044416) ++ (List.replicate 22 (1)))
set_option maxRecDepth 1000000 in
theorem tabB3_ok : stepZ tabB3 = (tabS3, false) := by kernel_rfl
end Go.Proofs.Ytfkeljolpcbbkaa
