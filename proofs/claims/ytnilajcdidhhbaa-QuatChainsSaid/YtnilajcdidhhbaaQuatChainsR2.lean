/- astrolabelaw6.QuatChains, length by length. -/
import Derived.Test.YtnilajcdidhhbaaAwakes
namespace Go.Proofs.Ytnilajcdidhhbaa.quatChains
open Go
set_option maxRecDepth 1000000 in
theorem ran3 : SX.lawB [.sl 3 [some .i64, some .i64, some .i64, some .i64]] (SX.runPol SX.lk SX.U SX.X SX.sumsA SX.never SX.never0 100000 40 11 (SX.start [.sl 3 [some .i64, some .i64, some .i64, some .i64]]).1 (SX.start [.sl 3 [some .i64, some .i64, some .i64, some .i64]]).2) = true := by kernel_rfl
set_option maxRecDepth 1000000 in
theorem ran8 : SX.lawB [.sl 8 [some .i64, some .i64, some .i64, some .i64]] (SX.runPol SX.lk SX.U SX.X SX.sumsA SX.never SX.never0 100000 40 11 (SX.start [.sl 8 [some .i64, some .i64, some .i64, some .i64]]).1 (SX.start [.sl 8 [some .i64, some .i64, some .i64, some .i64]]).2) = true := by kernel_rfl
set_option maxRecDepth 1000000 in
theorem ran13 : SX.lawB [.sl 13 [some .i64, some .i64, some .i64, some .i64]] (SX.runPol SX.lk SX.U SX.X SX.sumsA SX.never SX.never0 100000 40 11 (SX.start [.sl 13 [some .i64, some .i64, some .i64, some .i64]]).1 (SX.start [.sl 13 [some .i64, some .i64, some .i64, some .i64]]).2) = true := by kernel_rfl
set_option maxRecDepth 1000000 in
theorem ran18 : SX.lawB [.sl 18 [some .i64, some .i64, some .i64, some .i64]] (SX.runPol SX.lk SX.U SX.X SX.sumsA SX.never SX.never0 100000 40 11 (SX.start [.sl 18 [some .i64, some .i64, some .i64, some .i64]]).1 (SX.start [.sl 18 [some .i64, some .i64, some .i64, some .i64]]).2) = true := by kernel_rfl
set_option maxRecDepth 1000000 in
theorem ran23 : SX.lawB [.sl 23 [some .i64, some .i64, some .i64, some .i64]] (SX.runPol SX.lk SX.U SX.X SX.sumsA SX.never SX.never0 100000 40 11 (SX.start [.sl 23 [some .i64, some .i64, some .i64, some .i64]]).1 (SX.start [.sl 23 [some .i64, some .i64, some .i64, some .i64]]).2) = true := by kernel_rfl
set_option maxRecDepth 1000000 in
theorem ran28 : SX.lawB [.sl 28 [some .i64, some .i64, some .i64, some .i64]] (SX.runPol SX.lk SX.U SX.X SX.sumsA SX.never SX.never0 100000 40 11 (SX.start [.sl 28 [some .i64, some .i64, some .i64, some .i64]]).1 (SX.start [.sl 28 [some .i64, some .i64, some .i64, some .i64]]).2) = true := by kernel_rfl
end Go.Proofs.Ytnilajcdidhhbaa.quatChains
