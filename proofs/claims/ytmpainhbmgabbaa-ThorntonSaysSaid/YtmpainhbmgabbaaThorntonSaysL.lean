/- ThorntonSays, run by the runner. -/
import Derived.Test.YtmpainhbmgabbaaThoAs
namespace Go.Proofs.Ytmpainhbmgabbaa.thorntonSays
open Go
set_option maxRecDepth 1000000 in
theorem ran : SX.lawB [.agg (List.replicate 300 (some .i64)), .agg (List.replicate 576 (some .i64)), .agg (List.replicate 24 (some .i64))] (SX.runPol SX.lk SX.U SX.X SX.sumsT10s SX.never SX.never0 100000 40 12 (SX.start [.agg (List.replicate 300 (some .i64)), .agg (List.replicate 576 (some .i64)), .agg (List.replicate 24 (some .i64))]).1 (SX.start [.agg (List.replicate 300 (some .i64)), .agg (List.replicate 576 (some .i64)), .agg (List.replicate 24 (some .i64))]).2) = true := by kernel_rfl
end Go.Proofs.Ytmpainhbmgabbaa.thorntonSays
