/- astrolabelaw6.QuatChains, length by length. -/
import Derived.Test.YtnilajcdidhhbaaAwakes
namespace Go.Proofs.Ytnilajcdidhhbaa.quatChains
open Go
set_option maxRecDepth 1000000 in
theorem ran2 : SX.lawB [.sl 2 [some .i64, some .i64, some .i64, some .i64]] (SX.runPol SX.lk SX.U SX.X SX.sumsA SX.never SX.never0 100000 40 11 (SX.start [.sl 2 [some .i64, some .i64, some .i64, some .i64]]).1 (SX.start [.sl 2 [some .i64, some .i64, some .i64, some .i64]]).2) = true := by kernel_rfl
set_option maxRecDepth 1000000 in
theorem ran9 : SX.lawB [.sl 9 [some .i64, some .i64, some .i64, some .i64]] (SX.runPol SX.lk SX.U SX.X SX.sumsA SX.never SX.never0 100000 40 11 (SX.start [.sl 9 [some .i64, some .i64, some .i64, some .i64]]).1 (SX.start [.sl 9 [some .i64, some .i64, some .i64, some .i64]]).2) = true := by kernel_rfl
set_option maxRecDepth 1000000 in
theorem ran12 : SX.lawB [.sl 12 [some .i64, some .i64, some .i64, some .i64]] (SX.runPol SX.lk SX.U SX.X SX.sumsA SX.never SX.never0 100000 40 11 (SX.start [.sl 12 [some .i64, some .i64, some .i64, some .i64]]).1 (SX.start [.sl 12 [some .i64, some .i64, some .i64, some .i64]]).2) = true := by kernel_rfl
set_option maxRecDepth 1000000 in
theorem ran19 : SX.lawB [.sl 19 [some .i64, some .i64, some .i64, some .i64]] (SX.runPol SX.lk SX.U SX.X SX.sumsA SX.never SX.never0 100000 40 11 (SX.start [.sl 19 [some .i64, some .i64, some .i64, some .i64]]).1 (SX.start [.sl 19 [some .i64, some .i64, some .i64, some .i64]]).2) = true := by kernel_rfl
set_option maxRecDepth 1000000 in
theorem ran22 : SX.lawB [.sl 22 [some .i64, some .i64, some .i64, some .i64]] (SX.runPol SX.lk SX.U SX.X SX.sumsA SX.never SX.never0 100000 40 11 (SX.start [.sl 22 [some .i64, some .i64, some .i64, some .i64]]).1 (SX.start [.sl 22 [some .i64, some .i64, some .i64, some .i64]]).2) = true := by kernel_rfl
set_option maxRecDepth 1000000 in
theorem ran29 : SX.lawB [.sl 29 [some .i64, some .i64, some .i64, some .i64]] (SX.runPol SX.lk SX.U SX.X SX.sumsA SX.never SX.never0 100000 40 11 (SX.start [.sl 29 [some .i64, some .i64, some .i64, some .i64]]).1 (SX.start [.sl 29 [some .i64, some .i64, some .i64, some .i64]]).2) = true := by kernel_rfl
end Go.Proofs.Ytnilajcdidhhbaa.quatChains
