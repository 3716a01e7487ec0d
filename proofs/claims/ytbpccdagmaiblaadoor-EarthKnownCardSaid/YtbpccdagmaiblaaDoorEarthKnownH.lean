/- astrolabelaw8.EarthKnown, run. -/
import Derived.Test.YtbpccdagmaiblaaDoorEarthKnownR0
import Derived.Test.YtbpccdagmaiblaaDoorEarthF
namespace Go.Proofs.YtbpccdagmaiblaaDoor.earthKnown
open Go SX
theorem walk {W : World} (hL : laidMetH Tryd.prog EarthF.laidE W) : Calls Tryd.prog 3 #[] W fun e w' => e = .returned (.bool true) ∧ RowKit.Below W.heap.size W w' :=
  law_fitG (vs := []) (all := []) namesOk mixed (fun g => sumsE_ok g) ran0 (fun _ _ _ => ⟨told0, rfl⟩) rfl (EarthF.of_laid hL).1 (EarthF.of_laid hL).2
end Go.Proofs.YtbpccdagmaiblaaDoor.earthKnown
