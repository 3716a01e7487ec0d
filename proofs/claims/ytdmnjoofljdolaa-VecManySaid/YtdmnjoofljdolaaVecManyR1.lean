/- astrolabelaw5.VecMany, length by length. -/
import Derived.Test.YtdmnjoofljdolaaVecAwake
namespace Go.Proofs.Ytdmnjoofljdolaa.vecMany
open Go
set_option maxRecDepth 1000000 in
theorem ran2 : SX.lawB [.sl 2 [some .i64, some .i64, some .i64]] (SX.runPol SX.lk SX.U SX.X SX.sumsV SX.never SX.never0 100000 40 9 (SX.start [.sl 2 [some .i64, some .i64, some .i64]]).1 (SX.start [.sl 2 [some .i64, some .i64, some .i64]]).2) = true := by kernel_rfl
set_option maxRecDepth 1000000 in
theorem ran5 : SX.lawB [.sl 5 [some .i64, some .i64, some .i64]] (SX.runPol SX.lk SX.U SX.X SX.sumsV SX.never SX.never0 100000 40 9 (SX.start [.sl 5 [some .i64, some .i64, some .i64]]).1 (SX.start [.sl 5 [some .i64, some .i64, some .i64]]).2) = true := by kernel_rfl
set_option maxRecDepth 1000000 in
theorem ran8 : SX.lawB [.sl 8 [some .i64, some .i64, some .i64]] (SX.runPol SX.lk SX.U SX.X SX.sumsV SX.never SX.never0 100000 40 9 (SX.start [.sl 8 [some .i64, some .i64, some .i64]]).1 (SX.start [.sl 8 [some .i64, some .i64, some .i64]]).2) = true := by kernel_rfl
set_option maxRecDepth 1000000 in
theorem ran11 : SX.lawB [.sl 11 [some .i64, some .i64, some .i64]] (SX.runPol SX.lk SX.U SX.X SX.sumsV SX.never SX.never0 100000 40 9 (SX.start [.sl 11 [some .i64, some .i64, some .i64]]).1 (SX.start [.sl 11 [some .i64, some .i64, some .i64]]).2) = true := by kernel_rfl
set_option maxRecDepth 1000000 in
theorem ran14 : SX.lawB [.sl 14 [some .i64, some .i64, some .i64]] (SX.runPol SX.lk SX.U SX.X SX.sumsV SX.never SX.never0 100000 40 9 (SX.start [.sl 14 [some .i64, some .i64, some .i64]]).1 (SX.start [.sl 14 [some .i64, some .i64, some .i64]]).2) = true := by kernel_rfl
set_option maxRecDepth 1000000 in
theorem ran17 : SX.lawB [.sl 17 [some .i64, some .i64, some .i64]] (SX.runPol SX.lk SX.U SX.X SX.sumsV SX.never SX.never0 100000 40 9 (SX.start [.sl 17 [some .i64, some .i64, some .i64]]).1 (SX.start [.sl 17 [some .i64, some .i64, some .i64]]).2) = true := by kernel_rfl
set_option maxRecDepth 1000000 in
theorem ran20 : SX.lawB [.sl 20 [some .i64, some .i64, some .i64]] (SX.runPol SX.lk SX.U SX.X SX.sumsV SX.never SX.never0 100000 40 9 (SX.start [.sl 20 [some .i64, some .i64, some .i64]]).1 (SX.start [.sl 20 [some .i64, some .i64, some .i64]]).2) = true := by kernel_rfl
set_option maxRecDepth 1000000 in
theorem ran23 : SX.lawB [.sl 23 [some .i64, some .i64, some .i64]] (SX.runPol SX.lk SX.U SX.X SX.sumsV SX.never SX.never0 100000 40 9 (SX.start [.sl 23 [some .i64, some .i64, some .i64]]).1 (SX.start [.sl 23 [some .i64, some .i64, some .i64]]).2) = true := by kernel_rfl
set_option maxRecDepth 1000000 in
theorem ran26 : SX.lawB [.sl 26 [some .i64, some .i64, some .i64]] (SX.runPol SX.lk SX.U SX.X SX.sumsV SX.never SX.never0 100000 40 9 (SX.start [.sl 26 [some .i64, some .i64, some .i64]]).1 (SX.start [.sl 26 [some .i64, some .i64, some .i64]]).2) = true := by kernel_rfl
set_option maxRecDepth 1000000 in
theorem ran29 : SX.lawB [.sl 29 [some .i64, some .i64, some .i64]] (SX.runPol SX.lk SX.U SX.X SX.sumsV SX.never SX.never0 100000 40 9 (SX.start [.sl 29 [some .i64, some .i64, some .i64]]).1 (SX.start [.sl 29 [some .i64, some .i64, some .i64]]).2) = true := by kernel_rfl
set_option maxRecDepth 1000000 in
theorem ran32 : SX.lawB [.sl 32 [some .i64, some .i64, some .i64]] (SX.runPol SX.lk SX.U SX.X SX.sumsV SX.never SX.never0 100000 40 9 (SX.start [.sl 32 [some .i64, some .i64, some .i64]]).1 (SX.start [.sl 32 [some .i64, some .i64, some .i64]]).2) = true := by kernel_rfl
set_option maxRecDepth 1000000 in
theorem ran35 : SX.lawB [.sl 35 [some .i64, some .i64, some .i64]] (SX.runPol SX.lk SX.U SX.X SX.sumsV SX.never SX.never0 100000 40 9 (SX.start [.sl 35 [some .i64, some .i64, some .i64]]).1 (SX.start [.sl 35 [some .i64, some .i64, some .i64]]).2) = true := by kernel_rfl
set_option maxRecDepth 1000000 in
theorem ran38 : SX.lawB [.sl 38 [some .i64, some .i64, some .i64]] (SX.runPol SX.lk SX.U SX.X SX.sumsV SX.never SX.never0 100000 40 9 (SX.start [.sl 38 [some .i64, some .i64, some .i64]]).1 (SX.start [.sl 38 [some .i64, some .i64, some .i64]]).2) = true := by kernel_rfl
set_option maxRecDepth 1000000 in
theorem ran41 : SX.lawB [.sl 41 [some .i64, some .i64, some .i64]] (SX.runPol SX.lk SX.U SX.X SX.sumsV SX.never SX.never0 100000 40 9 (SX.start [.sl 41 [some .i64, some .i64, some .i64]]).1 (SX.start [.sl 41 [some .i64, some .i64, some .i64]]).2) = true := by kernel_rfl
set_option maxRecDepth 1000000 in
theorem ran44 : SX.lawB [.sl 44 [some .i64, some .i64, some .i64]] (SX.runPol SX.lk SX.U SX.X SX.sumsV SX.never SX.never0 100000 40 9 (SX.start [.sl 44 [some .i64, some .i64, some .i64]]).1 (SX.start [.sl 44 [some .i64, some .i64, some .i64]]).2) = true := by kernel_rfl
set_option maxRecDepth 1000000 in
theorem ran47 : SX.lawB [.sl 47 [some .i64, some .i64, some .i64]] (SX.runPol SX.lk SX.U SX.X SX.sumsV SX.never SX.never0 100000 40 9 (SX.start [.sl 47 [some .i64, some .i64, some .i64]]).1 (SX.start [.sl 47 [some .i64, some .i64, some .i64]]).2) = true := by kernel_rfl
set_option maxRecDepth 1000000 in
theorem ran50 : SX.lawB [.sl 50 [some .i64, some .i64, some .i64]] (SX.runPol SX.lk SX.U SX.X SX.sumsV SX.never SX.never0 100000 40 9 (SX.start [.sl 50 [some .i64, some .i64, some .i64]]).1 (SX.start [.sl 50 [some .i64, some .i64, some .i64]]).2) = true := by kernel_rfl
set_option maxRecDepth 1000000 in
theorem ran53 : SX.lawB [.sl 53 [some .i64, some .i64, some .i64]] (SX.runPol SX.lk SX.U SX.X SX.sumsV SX.never SX.never0 100000 40 9 (SX.start [.sl 53 [some .i64, some .i64, some .i64]]).1 (SX.start [.sl 53 [some .i64, some .i64, some .i64]]).2) = true := by kernel_rfl
set_option maxRecDepth 1000000 in
theorem ran56 : SX.lawB [.sl 56 [some .i64, some .i64, some .i64]] (SX.runPol SX.lk SX.U SX.X SX.sumsV SX.never SX.never0 100000 40 9 (SX.start [.sl 56 [some .i64, some .i64, some .i64]]).1 (SX.start [.sl 56 [some .i64, some .i64, some .i64]]).2) = true := by kernel_rfl
set_option maxRecDepth 1000000 in
theorem ran59 : SX.lawB [.sl 59 [some .i64, some .i64, some .i64]] (SX.runPol SX.lk SX.U SX.X SX.sumsV SX.never SX.never0 100000 40 9 (SX.start [.sl 59 [some .i64, some .i64, some .i64]]).1 (SX.start [.sl 59 [some .i64, some .i64, some .i64]]).2) = true := by kernel_rfl
end Go.Proofs.Ytdmnjoofljdolaa.vecMany
