/- astrolabelaw5.VecMany, length by length. -/
import Derived.Test.YtdmnjoofljdolaaVecAwake
namespace Go.Proofs.Ytdmnjoofljdolaa.vecMany
open Go
set_option maxRecDepth 1000000 in
theorem ran3 : SX.lawB [.sl 3 [some .i64, some .i64, some .i64]] (SX.runPol SX.lk SX.U SX.X SX.sumsV SX.never SX.never0 100000 40 9 (SX.start [.sl 3 [some .i64, some .i64, some .i64]]).1 (SX.start [.sl 3 [some .i64, some .i64, some .i64]]).2) = true := by kernel_rfl
set_option maxRecDepth 1000000 in
theorem ran4 : SX.lawB [.sl 4 [some .i64, some .i64, some .i64]] (SX.runPol SX.lk SX.U SX.X SX.sumsV SX.never SX.never0 100000 40 9 (SX.start [.sl 4 [some .i64, some .i64, some .i64]]).1 (SX.start [.sl 4 [some .i64, some .i64, some .i64]]).2) = true := by kernel_rfl
set_option maxRecDepth 1000000 in
theorem ran9 : SX.lawB [.sl 9 [some .i64, some .i64, some .i64]] (SX.runPol SX.lk SX.U SX.X SX.sumsV SX.never SX.never0 100000 40 9 (SX.start [.sl 9 [some .i64, some .i64, some .i64]]).1 (SX.start [.sl 9 [some .i64, some .i64, some .i64]]).2) = true := by kernel_rfl
set_option maxRecDepth 1000000 in
theorem ran10 : SX.lawB [.sl 10 [some .i64, some .i64, some .i64]] (SX.runPol SX.lk SX.U SX.X SX.sumsV SX.never SX.never0 100000 40 9 (SX.start [.sl 10 [some .i64, some .i64, some .i64]]).1 (SX.start [.sl 10 [some .i64, some .i64, some .i64]]).2) = true := by kernel_rfl
set_option maxRecDepth 1000000 in
theorem ran15 : SX.lawB [.sl 15 [some .i64, some .i64, some .i64]] (SX.runPol SX.lk SX.U SX.X SX.sumsV SX.never SX.never0 100000 40 9 (SX.start [.sl 15 [some .i64, some .i64, some .i64]]).1 (SX.start [.sl 15 [some .i64, some .i64, some .i64]]).2) = true := by kernel_rfl
set_option maxRecDepth 1000000 in
theorem ran16 : SX.lawB [.sl 16 [some .i64, some .i64, some .i64]] (SX.runPol SX.lk SX.U SX.X SX.sumsV SX.never SX.never0 100000 40 9 (SX.start [.sl 16 [some .i64, some .i64, some .i64]]).1 (SX.start [.sl 16 [some .i64, some .i64, some .i64]]).2) = true := by kernel_rfl
set_option maxRecDepth 1000000 in
theorem ran21 : SX.lawB [.sl 21 [some .i64, some .i64, some .i64]] (SX.runPol SX.lk SX.U SX.X SX.sumsV SX.never SX.never0 100000 40 9 (SX.start [.sl 21 [some .i64, some .i64, some .i64]]).1 (SX.start [.sl 21 [some .i64, some .i64, some .i64]]).2) = true := by kernel_rfl
set_option maxRecDepth 1000000 in
theorem ran22 : SX.lawB [.sl 22 [some .i64, some .i64, some .i64]] (SX.runPol SX.lk SX.U SX.X SX.sumsV SX.never SX.never0 100000 40 9 (SX.start [.sl 22 [some .i64, some .i64, some .i64]]).1 (SX.start [.sl 22 [some .i64, some .i64, some .i64]]).2) = true := by kernel_rfl
set_option maxRecDepth 1000000 in
theorem ran27 : SX.lawB [.sl 27 [some .i64, some .i64, some .i64]] (SX.runPol SX.lk SX.U SX.X SX.sumsV SX.never SX.never0 100000 40 9 (SX.start [.sl 27 [some .i64, some .i64, some .i64]]).1 (SX.start [.sl 27 [some .i64, some .i64, some .i64]]).2) = true := by kernel_rfl
set_option maxRecDepth 1000000 in
theorem ran28 : SX.lawB [.sl 28 [some .i64, some .i64, some .i64]] (SX.runPol SX.lk SX.U SX.X SX.sumsV SX.never SX.never0 100000 40 9 (SX.start [.sl 28 [some .i64, some .i64, some .i64]]).1 (SX.start [.sl 28 [some .i64, some .i64, some .i64]]).2) = true := by kernel_rfl
set_option maxRecDepth 1000000 in
theorem ran33 : SX.lawB [.sl 33 [some .i64, some .i64, some .i64]] (SX.runPol SX.lk SX.U SX.X SX.sumsV SX.never SX.never0 100000 40 9 (SX.start [.sl 33 [some .i64, some .i64, some .i64]]).1 (SX.start [.sl 33 [some .i64, some .i64, some .i64]]).2) = true := by kernel_rfl
set_option maxRecDepth 1000000 in
theorem ran34 : SX.lawB [.sl 34 [some .i64, some .i64, some .i64]] (SX.runPol SX.lk SX.U SX.X SX.sumsV SX.never SX.never0 100000 40 9 (SX.start [.sl 34 [some .i64, some .i64, some .i64]]).1 (SX.start [.sl 34 [some .i64, some .i64, some .i64]]).2) = true := by kernel_rfl
set_option maxRecDepth 1000000 in
theorem ran39 : SX.lawB [.sl 39 [some .i64, some .i64, some .i64]] (SX.runPol SX.lk SX.U SX.X SX.sumsV SX.never SX.never0 100000 40 9 (SX.start [.sl 39 [some .i64, some .i64, some .i64]]).1 (SX.start [.sl 39 [some .i64, some .i64, some .i64]]).2) = true := by kernel_rfl
set_option maxRecDepth 1000000 in
theorem ran40 : SX.lawB [.sl 40 [some .i64, some .i64, some .i64]] (SX.runPol SX.lk SX.U SX.X SX.sumsV SX.never SX.never0 100000 40 9 (SX.start [.sl 40 [some .i64, some .i64, some .i64]]).1 (SX.start [.sl 40 [some .i64, some .i64, some .i64]]).2) = true := by kernel_rfl
set_option maxRecDepth 1000000 in
theorem ran45 : SX.lawB [.sl 45 [some .i64, some .i64, some .i64]] (SX.runPol SX.lk SX.U SX.X SX.sumsV SX.never SX.never0 100000 40 9 (SX.start [.sl 45 [some .i64, some .i64, some .i64]]).1 (SX.start [.sl 45 [some .i64, some .i64, some .i64]]).2) = true := by kernel_rfl
set_option maxRecDepth 1000000 in
theorem ran46 : SX.lawB [.sl 46 [some .i64, some .i64, some .i64]] (SX.runPol SX.lk SX.U SX.X SX.sumsV SX.never SX.never0 100000 40 9 (SX.start [.sl 46 [some .i64, some .i64, some .i64]]).1 (SX.start [.sl 46 [some .i64, some .i64, some .i64]]).2) = true := by kernel_rfl
set_option maxRecDepth 1000000 in
theorem ran51 : SX.lawB [.sl 51 [some .i64, some .i64, some .i64]] (SX.runPol SX.lk SX.U SX.X SX.sumsV SX.never SX.never0 100000 40 9 (SX.start [.sl 51 [some .i64, some .i64, some .i64]]).1 (SX.start [.sl 51 [some .i64, some .i64, some .i64]]).2) = true := by kernel_rfl
set_option maxRecDepth 1000000 in
theorem ran52 : SX.lawB [.sl 52 [some .i64, some .i64, some .i64]] (SX.runPol SX.lk SX.U SX.X SX.sumsV SX.never SX.never0 100000 40 9 (SX.start [.sl 52 [some .i64, some .i64, some .i64]]).1 (SX.start [.sl 52 [some .i64, some .i64, some .i64]]).2) = true := by kernel_rfl
set_option maxRecDepth 1000000 in
theorem ran57 : SX.lawB [.sl 57 [some .i64, some .i64, some .i64]] (SX.runPol SX.lk SX.U SX.X SX.sumsV SX.never SX.never0 100000 40 9 (SX.start [.sl 57 [some .i64, some .i64, some .i64]]).1 (SX.start [.sl 57 [some .i64, some .i64, some .i64]]).2) = true := by kernel_rfl
set_option maxRecDepth 1000000 in
theorem ran58 : SX.lawB [.sl 58 [some .i64, some .i64, some .i64]] (SX.runPol SX.lk SX.U SX.X SX.sumsV SX.never SX.never0 100000 40 9 (SX.start [.sl 58 [some .i64, some .i64, some .i64]]).1 (SX.start [.sl 58 [some .i64, some .i64, some .i64]]).2) = true := by kernel_rfl
end Go.Proofs.Ytdmnjoofljdolaa.vecMany
