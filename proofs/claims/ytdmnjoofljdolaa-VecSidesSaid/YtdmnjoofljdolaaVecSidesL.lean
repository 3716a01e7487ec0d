/- astrolabelaw5.VecSides, run by the runner. -/
import Derived.Test.YtdmnjoofljdolaaVecAwake
namespace Go.Proofs.Ytdmnjoofljdolaa.vecSides
open Go
set_option maxRecDepth 1000000 in
theorem ran : SX.lawB [.agg [some .i64, some .i64, some .i64], .agg [some .i64, some .i64, some .i64], .one (some .i64)] (SX.runPol SX.lk SX.U SX.X SX.sumsV (fun f => Nat.beq f 10) SX.never0 100000 40 10 (SX.start [.agg [some .i64, some .i64, some .i64], .agg [some .i64, some .i64, some .i64], .one (some .i64)]).1 (SX.start [.agg [some .i64, some .i64, some .i64], .agg [some .i64, some .i64, some .i64], .one (some .i64)]).2) = true := by kernel_rfl
end Go.Proofs.Ytdmnjoofljdolaa.vecSides
