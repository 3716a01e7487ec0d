/- astrolabelaw6.QuatChains, length by length. -/
import Derived.Test.YtnilajcdidhhbaaAwakes
namespace Go.Proofs.Ytnilajcdidhhbaa.quatChains
open Go
set_option maxRecDepth 1000000 in
theorem ran1 : SX.lawB [.sl 1 [some .i64, some .i64, some .i64, some .i64]] (SX.runPol SX.lk SX.U SX.X SX.sumsA SX.never SX.never0 100000 40 11 (SX.start [.sl 1 [some .i64, some .i64, some .i64, some .i64]]).1 (SX.start [.sl 1 [some .i64, some .i64, some .i64, some .i64]]).2) = true := by kernel_rfl
set_option maxRecDepth 1000000 in
theorem ran10 : SX.lawB [.sl 10 [some .i64, some .i64, some .i64, some .i64]] (SX.runPol SX.lk SX.U SX.X SX.sumsA SX.never SX.never0 100000 40 11 (SX.start [.sl 10 [some .i64, some .i64, some .i64, some .i64]]).1 (SX.start [.sl 10 [some .i64, some .i64, some .i64, some .i64]]).2) = true := by kernel_rfl
set_option maxRecDepth 1000000 in
theorem ran11 : SX.lawB [.sl 11 [some .i64, some .i64, some .i64, some .i64]] (SX.runPol SX.lk SX.U SX.X SX.sumsA SX.never SX.never0 100000 40 11 (SX.start [.sl 11 [some .i64, some .i64, some .i64, some .i64]]).1 (SX.start [.sl 11 [some .i64, some .i64, some .i64, some .i64]]).2) = true := by kernel_rfl
set_option maxRecDepth 1000000 in
theorem ran20 : SX.lawB [.sl 20 [some .i64, some .i64, some .i64, some .i64]] (SX.runPol SX.lk SX.U SX.X SX.sumsA SX.never SX.never0 100000 40 11 (SX.start [.sl 20 [some .i64, some .i64, some .i64, some .i64]]).1 (SX.start [.sl 20 [some .i64, some .i64, some .i64, some .i64]]).2) = true := by kernel_rfl
set_option maxRecDepth 1000000 in
theorem ran21 : SX.lawB [.sl 21 [some .i64, some .i64, some .i64, some .i64]] (SX.runPol SX.lk SX.U SX.X SX.sumsA SX.never SX.never0 100000 40 11 (SX.start [.sl 21 [some .i64, some .i64, some .i64, some .i64]]).1 (SX.start [.sl 21 [some .i64, some .i64, some .i64, some .i64]]).2) = true := by kernel_rfl
set_option maxRecDepth 1000000 in
theorem ran30 : SX.lawB [.sl 30 [some .i64, some .i64, some .i64, some .i64]] (SX.runPol SX.lk SX.U SX.X SX.sumsA SX.never SX.never0 100000 40 11 (SX.start [.sl 30 [some .i64, some .i64, some .i64, some .i64]]).1 (SX.start [.sl 30 [some .i64, some .i64, some .i64, some .i64]]).2) = true := by kernel_rfl
end Go.Proofs.Ytnilajcdidhhbaa.quatChains
