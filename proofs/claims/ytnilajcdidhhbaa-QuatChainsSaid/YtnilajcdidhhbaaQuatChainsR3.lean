/- astrolabelaw6.QuatChains, length by length. -/
import Derived.Test.YtnilajcdidhhbaaAwakes
namespace Go.Proofs.Ytnilajcdidhhbaa.quatChains
open Go
set_option maxRecDepth 1000000 in
theorem ran4 : SX.lawB [.sl 4 [some .i64, some .i64, some .i64, some .i64]] (SX.runPol SX.lk SX.U SX.X SX.sumsA SX.never SX.never0 100000 40 11 (SX.start [.sl 4 [some .i64, some .i64, some .i64, some .i64]]).1 (SX.start [.sl 4 [some .i64, some .i64, some .i64, some .i64]]).2) = true := by kernel_rfl
set_option maxRecDepth 1000000 in
theorem ran7 : SX.lawB [.sl 7 [some .i64, some .i64, some .i64, some .i64]] (SX.runPol SX.lk SX.U SX.X SX.sumsA SX.never SX.never0 100000 40 11 (SX.start [.sl 7 [some .i64, some .i64, some .i64, some .i64]]).1 (SX.start [.sl 7 [some .i64, some .i64, some .i64, some .i64]]).2) = true := by kernel_rfl
set_option maxRecDepth 1000000 in
theorem ran14 : SX.lawB [.sl 14 [some .i64, some .i64, some .i64, some .i64]] (SX.runPol SX.lk SX.U SX.X SX.sumsA SX.never SX.never0 100000 40 11 (SX.start [.sl 14 [some .i64, some .i64, some .i64, some .i64]]).1 (SX.start [.sl 14 [some .i64, some .i64, some .i64, some .i64]]).2) = true := by kernel_rfl
set_option maxRecDepth 1000000 in
theorem ran17 : SX.lawB [.sl 17 [some .i64, some .i64, some .i64, some .i64]] (SX.runPol SX.lk SX.U SX.X SX.sumsA SX.never SX.never0 100000 40 11 (SX.start [.sl 17 [some .i64, some .i64, some .i64, some .i64]]).1 (SX.start [.sl 17 [some .i64, some .i64, some .i64, some .i64]]).2) = true := by kernel_rfl
set_option maxRecDepth 1000000 in
theorem ran24 : SX.lawB [.sl 24 [some .i64, some .i64, some .i64, some .i64]] (SX.runPol SX.lk SX.U SX.X SX.sumsA SX.never SX.never0 100000 40 11 (SX.start [.sl 24 [some .i64, some .i64, some .i64, some .i64]]).1 (SX.start [.sl 24 [some .i64, some .i64, some .i64, some .i64]]).2) = true := by kernel_rfl
set_option maxRecDepth 1000000 in
theorem ran27 : SX.lawB [.sl 27 [some .i64, some .i64, some .i64, some .i64]] (SX.runPol SX.lk SX.U SX.X SX.sumsA SX.never SX.never0 100000 40 11 (SX.start [.sl 27 [some .i64, some .i64, some .i64, some .i64]]).1 (SX.start [.sl 27 [some .i64, some .i64, some .i64, some .i64]]).2) = true := by kernel_rfl
end Go.Proofs.Ytnilajcdidhhbaa.quatChains
