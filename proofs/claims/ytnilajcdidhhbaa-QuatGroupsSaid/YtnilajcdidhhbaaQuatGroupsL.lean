/- astrolabelaw6.QuatGroups, all ways. -/
import Derived.Test.YtnilajcdidhhbaaQuatGroupsW0
import Derived.Test.YtnilajcdidhhbaaQuatGroupsW1
import Derived.Test.YtnilajcdidhhbaaQuatGroupsW2
namespace Go.Proofs.Ytnilajcdidhhbaa.quatGroups
open Go
theorem ran : SX.WT.Ran [.agg [some .i64, some .i64, some .i64, some .i64], .agg [some .i64, some .i64, some .i64, some .i64], .agg [some .i64, some .i64, some .i64, some .i64]] run (SX.WT.node 41 42 d0 (SX.WT.node 60 61 d1 (SX.WT.node 79 80 d2 SX.WT.leaf SX.WT.leaf) (SX.WT.node 107 108 d3 SX.WT.leaf SX.WT.leaf)) (SX.WT.node 88 89 d4 (SX.WT.node 107 108 d5 SX.WT.leaf SX.WT.leaf) (SX.WT.node 135 136 d6 SX.WT.leaf SX.WT.leaf))) (SX.arSize [.agg [some .i64, some .i64, some .i64, some .i64], .agg [some .i64, some .i64, some .i64, some .i64], .agg [some .i64, some .i64, some .i64, some .i64]]) [] [] := ⟨by kernel_rfl, ⟨by kernel_rfl, ⟨by kernel_rfl, leaf0, leaf1⟩, ⟨by kernel_rfl, leaf2, leaf3⟩⟩, ⟨by kernel_rfl, ⟨by kernel_rfl, leaf4, leaf5⟩, ⟨by kernel_rfl, leaf6, leaf7⟩⟩⟩
end Go.Proofs.Ytnilajcdidhhbaa.quatGroups
