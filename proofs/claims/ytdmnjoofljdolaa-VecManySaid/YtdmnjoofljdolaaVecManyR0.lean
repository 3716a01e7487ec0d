/- astrolabelaw5.VecMany, length by length. -/
import Derived.Test.YtdmnjoofljdolaaVecAwake
namespace Go.Proofs.Ytdmnjoofljdolaa.vecMany
open Go
set_option maxRecDepth 1000000 in
theorem ran1 : SX.lawB [.sl 1 [some .i64, some .i64, some .i64]] (SX.runPol SX.lk SX.U SX.X SX.sumsV SX.never SX.never0 100000 40 9 (SX.start [.sl 1 [some .i64, some .i64, some .i64]]).1 (SX.start [.sl 1 [some .i64, some .i64, some .i64]]).2) = true := by kernel_rfl
set_option maxRecDepth 1000000 in
theorem ran6 : SX.lawB [.sl 6 [some .i64, some .i64, some .i64]] (SX.runPol SX.lk SX.U SX.X SX.sumsV SX.never SX.never0 100000 40 9 (SX.start [.sl 6 [some .i64, some .i64, some .i64]]).1 (SX.start [.sl 6 [some .i64, some .i64, some .i64]]).2) = true := by kernel_rfl
set_option maxRecDepth 1000000 in
theorem ran7 : SX.lawB [.sl 7 [some .i64, some .i64, some .i64]] (SX.runPol SX.lk SX.U SX.X SX.sumsV SX.never SX.never0 100000 40 9 (SX.start [.sl 7 [some .i64, some .i64, some .i64]]).1 (SX.start [.sl 7 [some .i64, some .i64, some .i64]]).2) = true := by kernel_rfl
set_option maxRecDepth 1000000 in
theorem ran12 : SX.lawB [.sl 12 [some .i64, some .i64, some .i64]] (SX.runPol SX.lk SX.U SX.X SX.sumsV SX.never SX.never0 100000 40 9 (SX.start [.sl 12 [some .i64, some .i64, some .i64]]).1 (SX.start [.sl 12 [some .i64, some .i64, some .i64]]).2) = true := by kernel_rfl
set_option maxRecDepth 1000000 in
theorem ran13 : SX.lawB [.sl 13 [some .i64, some .i64, some .i64]] (SX.runPol SX.lk SX.U SX.X SX.sumsV SX.never SX.never0 100000 40 9 (SX.start [.sl 13 [some .i64, some .i64, some .i64]]).1 (SX.start [.sl 13 [some .i64, some .i64, some .i64]]).2) = true := by kernel_rfl
set_option maxRecDepth 1000000 in
theorem ran18 : SX.lawB [.sl 18 [some .i64, some .i64, some .i64]] (SX.runPol SX.lk SX.U SX.X SX.sumsV SX.never SX.never0 100000 40 9 (SX.start [.sl 18 [some .i64, some .i64, some .i64]]).1 (SX.start [.sl 18 [some .i64, some .i64, some .i64]]).2) = true := by kernel_rfl
set_option maxRecDepth 1000000 in
theorem ran19 : SX.lawB [.sl 19 [some .i64, some .i64, some .i64]] (SX.runPol SX.lk SX.U SX.X SX.sumsV SX.never SX.never0 100000 40 9 (SX.start [.sl 19 [some .i64, some .i64, some .i64]]).1 (SX.start [.sl 19 [some .i64, some .i64, some .i64]]).2) = true := by kernel_rfl
set_option maxRecDepth 1000000 in
theorem ran24 : SX.lawB [.sl 24 [some .i64, some .i64, some .i64]] (SX.runPol SX.lk SX.U SX.X SX.sumsV SX.never SX.never0 100000 40 9 (SX.start [.sl 24 [some .i64, some .i64, some .i64]]).1 (SX.start [.sl 24 [some .i64, some .i64, some .i64]]).2) = true := by kernel_rfl
set_option maxRecDepth 1000000 in
theorem ran25 : SX.lawB [.sl 25 [some .i64, some .i64, some .i64]] (SX.runPol SX.lk SX.U SX.X SX.sumsV SX.never SX.never0 100000 40 9 (SX.start [.sl 25 [some .i64, some .i64, some .i64]]).1 (SX.start [.sl 25 [some .i64, some .i64, some .i64]]).2) = true := by kernel_rfl
set_option maxRecDepth 1000000 in
theorem ran30 : SX.lawB [.sl 30 [some .i64, some .i64, some .i64]] (SX.runPol SX.lk SX.U SX.X SX.sumsV SX.never SX.never0 100000 40 9 (SX.start [.sl 30 [some .i64, some .i64, some .i64]]).1 (SX.start [.sl 30 [some .i64, some .i64, some .i64]]).2) = true := by kernel_rfl
set_option maxRecDepth 1000000 in
theorem ran31 : SX.lawB [.sl 31 [some .i64, some .i64, some .i64]] (SX.runPol SX.lk SX.U SX.X SX.sumsV SX.never SX.never0 100000 40 9 (SX.start [.sl 31 [some .i64, some .i64, some .i64]]).1 (SX.start [.sl 31 [some .i64, some .i64, some .i64]]).2) = true := by kernel_rfl
set_option maxRecDepth 1000000 in
theorem ran36 : SX.lawB [.sl 36 [some .i64, some .i64, some .i64]] (SX.runPol SX.lk SX.U SX.X SX.sumsV SX.never SX.never0 100000 40 9 (SX.start [.sl 36 [some .i64, some .i64, some .i64]]).1 (SX.start [.sl 36 [some .i64, some .i64, some .i64]]).2) = true := by kernel_rfl
set_option maxRecDepth 1000000 in
theorem ran37 : SX.lawB [.sl 37 [some .i64, some .i64, some .i64]] (SX.runPol SX.lk SX.U SX.X SX.sumsV SX.never SX.never0 100000 40 9 (SX.start [.sl 37 [some .i64, some .i64, some .i64]]).1 (SX.start [.sl 37 [some .i64, some .i64, some .i64]]).2) = true := by kernel_rfl
set_option maxRecDepth 1000000 in
theorem ran42 : SX.lawB [.sl 42 [some .i64, some .i64, some .i64]] (SX.runPol SX.lk SX.U SX.X SX.sumsV SX.never SX.never0 100000 40 9 (SX.start [.sl 42 [some .i64, some .i64, some .i64]]).1 (SX.start [.sl 42 [some .i64, some .i64, some .i64]]).2) = true := by kernel_rfl
set_option maxRecDepth 1000000 in
theorem ran43 : SX.lawB [.sl 43 [some .i64, some .i64, some .i64]] (SX.runPol SX.lk SX.U SX.X SX.sumsV SX.never SX.never0 100000 40 9 (SX.start [.sl 43 [some .i64, some .i64, some .i64]]).1 (SX.start [.sl 43 [some .i64, some .i64, some .i64]]).2) = true := by kernel_rfl
set_option maxRecDepth 1000000 in
theorem ran48 : SX.lawB [.sl 48 [some .i64, some .i64, some .i64]] (SX.runPol SX.lk SX.U SX.X SX.sumsV SX.never SX.never0 100000 40 9 (SX.start [.sl 48 [some .i64, some .i64, some .i64]]).1 (SX.start [.sl 48 [some .i64, some .i64, some .i64]]).2) = true := by kernel_rfl
set_option maxRecDepth 1000000 in
theorem ran49 : SX.lawB [.sl 49 [some .i64, some .i64, some .i64]] (SX.runPol SX.lk SX.U SX.X SX.sumsV SX.never SX.never0 100000 40 9 (SX.start [.sl 49 [some .i64, some .i64, some .i64]]).1 (SX.start [.sl 49 [some .i64, some .i64, some .i64]]).2) = true := by kernel_rfl
set_option maxRecDepth 1000000 in
theorem ran54 : SX.lawB [.sl 54 [some .i64, some .i64, some .i64]] (SX.runPol SX.lk SX.U SX.X SX.sumsV SX.never SX.never0 100000 40 9 (SX.start [.sl 54 [some .i64, some .i64, some .i64]]).1 (SX.start [.sl 54 [some .i64, some .i64, some .i64]]).2) = true := by kernel_rfl
set_option maxRecDepth 1000000 in
theorem ran55 : SX.lawB [.sl 55 [some .i64, some .i64, some .i64]] (SX.runPol SX.lk SX.U SX.X SX.sumsV SX.never SX.never0 100000 40 9 (SX.start [.sl 55 [some .i64, some .i64, some .i64]]).1 (SX.start [.sl 55 [some .i64, some .i64, some .i64]]).2) = true := by kernel_rfl
set_option maxRecDepth 1000000 in
theorem ran60 : SX.lawB [.sl 60 [some .i64, some .i64, some .i64]] (SX.runPol SX.lk SX.U SX.X SX.sumsV SX.never SX.never0 100000 40 9 (SX.start [.sl 60 [some .i64, some .i64, some .i64]]).1 (SX.start [.sl 60 [some .i64, some .i64, some .i64]]).2) = true := by kernel_rfl
end Go.Proofs.Ytdmnjoofljdolaa.vecMany
