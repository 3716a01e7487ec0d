/- astrolabelaw5.VecLaws, run by the runner. -/
import Derived.Test.YtdmnjoofljdolaaVecAwake
namespace Go.Proofs.Ytdmnjoofljdolaa.vecLaws
open Go
set_option maxRecDepth 1000000 in
theorem ran : SX.lawB [.agg [some .i64, some .i64, some .i64], .agg [some .i64, some .i64, some .i64]] (SX.runPol SX.lk SX.U SX.X SX.sumsV (fun f => Nat.beq f 8) SX.never0 100000 40 8 (SX.start [.agg [some .i64, some .i64, some .i64], .agg [some .i64, some .i64, some .i64]]).1 (SX.start [.agg [some .i64, some .i64, some .i64], .agg [some .i64, some .i64, some .i64]]).2) = true := by kernel_rfl
end Go.Proofs.Ytdmnjoofljdolaa.vecLaws
