/- astrolabelaw6.QuatChains, length by length. -/
import Derived.Test.YtnilajcdidhhbaaAwakes
namespace Go.Proofs.Ytnilajcdidhhbaa.quatChains
open Go
set_option maxRecDepth 1000000 in
theorem ran5 : SX.lawB [.sl 5 [some .i64, some .i64, some .i64, some .i64]] (SX.runPol SX.lk SX.U SX.X SX.sumsA SX.never SX.never0 100000 40 11 (SX.start [.sl 5 [some .i64, some .i64, some .i64, some .i64]]).1 (SX.start [.sl 5 [some .i64, some .i64, some .i64, some .i64]]).2) = true := by kernel_rfl
set_option maxRecDepth 1000000 in
theorem ran6 : SX.lawB [.sl 6 [some .i64, some .i64, some .i64, some .i64]] (SX.runPol SX.lk SX.U SX.X SX.sumsA SX.never SX.never0 100000 40 11 (SX.start [.sl 6 [some .i64, some .i64, some .i64, some .i64]]).1 (SX.start [.sl 6 [some .i64, some .i64, some .i64, some .i64]]).2) = true := by kernel_rfl
set_option maxRecDepth 1000000 in
theorem ran15 : SX.lawB [.sl 15 [some .i64, some .i64, some .i64, some .i64]] (SX.runPol SX.lk SX.U SX.X SX.sumsA SX.never SX.never0 100000 40 11 (SX.start [.sl 15 [some .i64, some .i64, some .i64, some .i64]]).1 (SX.start [.sl 15 [some .i64, some .i64, some .i64, some .i64]]).2) = true := by kernel_rfl
set_option maxRecDepth 1000000 in
theorem ran16 : SX.lawB [.sl 16 [some .i64, some .i64, some .i64, some .i64]] (SX.runPol SX.lk SX.U SX.X SX.sumsA SX.never SX.never0 100000 40 11 (SX.start [.sl 16 [some .i64, some .i64, some .i64, some .i64]]).1 (SX.start [.sl 16 [some .i64, some .i64, some .i64, some .i64]]).2) = true := by kernel_rfl
set_option maxRecDepth 1000000 in
theorem ran25 : SX.lawB [.sl 25 [some .i64, some .i64, some .i64, some .i64]] (SX.runPol SX.lk SX.U SX.X SX.sumsA SX.never SX.never0 100000 40 11 (SX.start [.sl 25 [some .i64, some .i64, some .i64, some .i64]]).1 (SX.start [.sl 25 [some .i64, some .i64, some .i64, some .i64]]).2) = true := by kernel_rfl
set_option maxRecDepth 1000000 in
theorem ran26 : SX.lawB [.sl 26 [some .i64, some .i64, some .i64, some .i64]] (SX.runPol SX.lk SX.U SX.X SX.sumsA SX.never SX.never0 100000 40 11 (SX.start [.sl 26 [some .i64, some .i64, some .i64, some .i64]]).1 (SX.start [.sl 26 [some .i64, some .i64, some .i64, some .i64]]).2) = true := by kernel_rfl
end Go.Proofs.Ytnilajcdidhhbaa.quatChains
