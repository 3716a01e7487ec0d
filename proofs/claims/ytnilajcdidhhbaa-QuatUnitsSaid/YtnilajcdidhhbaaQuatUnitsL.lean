/- astrolabelaw6.QuatUnits, all ways. -/
import Derived.Test.YtnilajcdidhhbaaQuatUnitsW0
import Derived.Test.YtnilajcdidhhbaaQuatUnitsW1
namespace Go.Proofs.Ytnilajcdidhhbaa.quatUnits
open Go
theorem ran : SX.WT.Ran [.agg [some .i64, some .i64, some .i64, some .i64], .agg [some .i64, some .i64, some .i64, some .i64]] run (SX.WT.node 33 34 d0 (SX.WT.node 52 53 d1 SX.WT.leaf SX.WT.leaf) (SX.WT.node 80 81 d2 SX.WT.leaf SX.WT.leaf)) (SX.arSize [.agg [some .i64, some .i64, some .i64, some .i64], .agg [some .i64, some .i64, some .i64, some .i64]]) [] [] := ⟨by kernel_rfl, ⟨by kernel_rfl, leaf0, leaf1⟩, ⟨by kernel_rfl, leaf2, leaf3⟩⟩
end Go.Proofs.Ytnilajcdidhhbaa.quatUnits
