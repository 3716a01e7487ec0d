/- astrolabelaw3.RootMany, length by length. -/
import Derived.Test.YtchdlanichhkcaaAwakes
namespace Go.Proofs.Ytchdlanichhkcaa.rootMany
open Go
set_option maxRecDepth 1000000 in
theorem ran1 : SX.lawB [.sl 1 [some .i64], .one (some .i64)] (SX.runPol SX.lk SX.U SX.X SX.sumsA SX.never SX.never0 100000 40 8 (SX.start [.sl 1 [some .i64], .one (some .i64)]).1 (SX.start [.sl 1 [some .i64], .one (some .i64)]).2) = true := by kernel_rfl
set_option maxRecDepth 1000000 in
theorem ran2 : SX.lawB [.sl 2 [some .i64], .one (some .i64)] (SX.runPol SX.lk SX.U SX.X SX.sumsA SX.never SX.never0 100000 40 8 (SX.start [.sl 2 [some .i64], .one (some .i64)]).1 (SX.start [.sl 2 [some .i64], .one (some .i64)]).2) = true := by kernel_rfl
set_option maxRecDepth 1000000 in
theorem ran3 : SX.lawB [.sl 3 [some .i64], .one (some .i64)] (SX.runPol SX.lk SX.U SX.X SX.sumsA SX.never SX.never0 100000 40 8 (SX.start [.sl 3 [some .i64], .one (some .i64)]).1 (SX.start [.sl 3 [some .i64], .one (some .i64)]).2) = true := by kernel_rfl
set_option maxRecDepth 1000000 in
theorem ran4 : SX.lawB [.sl 4 [some .i64], .one (some .i64)] (SX.runPol SX.lk SX.U SX.X SX.sumsA SX.never SX.never0 100000 40 8 (SX.start [.sl 4 [some .i64], .one (some .i64)]).1 (SX.start [.sl 4 [some .i64], .one (some .i64)]).2) = true := by kernel_rfl
set_option maxRecDepth 1000000 in
theorem ran5 : SX.lawB [.sl 5 [some .i64], .one (some .i64)] (SX.runPol SX.lk SX.U SX.X SX.sumsA SX.never SX.never0 100000 40 8 (SX.start [.sl 5 [some .i64], .one (some .i64)]).1 (SX.start [.sl 5 [some .i64], .one (some .i64)]).2) = true := by kernel_rfl
set_option maxRecDepth 1000000 in
theorem ran6 : SX.lawB [.sl 6 [some .i64], .one (some .i64)] (SX.runPol SX.lk SX.U SX.X SX.sumsA SX.never SX.never0 100000 40 8 (SX.start [.sl 6 [some .i64], .one (some .i64)]).1 (SX.start [.sl 6 [some .i64], .one (some .i64)]).2) = true := by kernel_rfl
set_option maxRecDepth 1000000 in
theorem ran7 : SX.lawB [.sl 7 [some .i64], .one (some .i64)] (SX.runPol SX.lk SX.U SX.X SX.sumsA SX.never SX.never0 100000 40 8 (SX.start [.sl 7 [some .i64], .one (some .i64)]).1 (SX.start [.sl 7 [some .i64], .one (some .i64)]).2) = true := by kernel_rfl
set_option maxRecDepth 1000000 in
theorem ran8 : SX.lawB [.sl 8 [some .i64], .one (some .i64)] (SX.runPol SX.lk SX.U SX.X SX.sumsA SX.never SX.never0 100000 40 8 (SX.start [.sl 8 [some .i64], .one (some .i64)]).1 (SX.start [.sl 8 [some .i64], .one (some .i64)]).2) = true := by kernel_rfl
set_option maxRecDepth 1000000 in
theorem ran9 : SX.lawB [.sl 9 [some .i64], .one (some .i64)] (SX.runPol SX.lk SX.U SX.X SX.sumsA SX.never SX.never0 100000 40 8 (SX.start [.sl 9 [some .i64], .one (some .i64)]).1 (SX.start [.sl 9 [some .i64], .one (some .i64)]).2) = true := by kernel_rfl
set_option maxRecDepth 1000000 in
theorem ran10 : SX.lawB [.sl 10 [some .i64], .one (some .i64)] (SX.runPol SX.lk SX.U SX.X SX.sumsA SX.never SX.never0 100000 40 8 (SX.start [.sl 10 [some .i64], .one (some .i64)]).1 (SX.start [.sl 10 [some .i64], .one (some .i64)]).2) = true := by kernel_rfl
set_option maxRecDepth 1000000 in
theorem ran11 : SX.lawB [.sl 11 [some .i64], .one (some .i64)] (SX.runPol SX.lk SX.U SX.X SX.sumsA SX.never SX.never0 100000 40 8 (SX.start [.sl 11 [some .i64], .one (some .i64)]).1 (SX.start [.sl 11 [some .i64], .one (some .i64)]).2) = true := by kernel_rfl
set_option maxRecDepth 1000000 in
theorem ran12 : SX.lawB [.sl 12 [some .i64], .one (some .i64)] (SX.runPol SX.lk SX.U SX.X SX.sumsA SX.never SX.never0 100000 40 8 (SX.start [.sl 12 [some .i64], .one (some .i64)]).1 (SX.start [.sl 12 [some .i64], .one (some .i64)]).2) = true := by kernel_rfl
set_option maxRecDepth 1000000 in
theorem ran13 : SX.lawB [.sl 13 [some .i64], .one (some .i64)] (SX.runPol SX.lk SX.U SX.X SX.sumsA SX.never SX.never0 100000 40 8 (SX.start [.sl 13 [some .i64], .one (some .i64)]).1 (SX.start [.sl 13 [some .i64], .one (some .i64)]).2) = true := by kernel_rfl
set_option maxRecDepth 1000000 in
theorem ran14 : SX.lawB [.sl 14 [some .i64], .one (some .i64)] (SX.runPol SX.lk SX.U SX.X SX.sumsA SX.never SX.never0 100000 40 8 (SX.start [.sl 14 [some .i64], .one (some .i64)]).1 (SX.start [.sl 14 [some .i64], .one (some .i64)]).2) = true := by kernel_rfl
set_option maxRecDepth 1000000 in
theorem ran15 : SX.lawB [.sl 15 [some .i64], .one (some .i64)] (SX.runPol SX.lk SX.U SX.X SX.sumsA SX.never SX.never0 100000 40 8 (SX.start [.sl 15 [some .i64], .one (some .i64)]).1 (SX.start [.sl 15 [some .i64], .one (some .i64)]).2) = true := by kernel_rfl
set_option maxRecDepth 1000000 in
theorem ran16 : SX.lawB [.sl 16 [some .i64], .one (some .i64)] (SX.runPol SX.lk SX.U SX.X SX.sumsA SX.never SX.never0 100000 40 8 (SX.start [.sl 16 [some .i64], .one (some .i64)]).1 (SX.start [.sl 16 [some .i64], .one (some .i64)]).2) = true := by kernel_rfl
set_option maxRecDepth 1000000 in
theorem ran17 : SX.lawB [.sl 17 [some .i64], .one (some .i64)] (SX.runPol SX.lk SX.U SX.X SX.sumsA SX.never SX.never0 100000 40 8 (SX.start [.sl 17 [some .i64], .one (some .i64)]).1 (SX.start [.sl 17 [some .i64], .one (some .i64)]).2) = true := by kernel_rfl
set_option maxRecDepth 1000000 in
theorem ran18 : SX.lawB [.sl 18 [some .i64], .one (some .i64)] (SX.runPol SX.lk SX.U SX.X SX.sumsA SX.never SX.never0 100000 40 8 (SX.start [.sl 18 [some .i64], .one (some .i64)]).1 (SX.start [.sl 18 [some .i64], .one (some .i64)]).2) = true := by kernel_rfl
set_option maxRecDepth 1000000 in
theorem ran19 : SX.lawB [.sl 19 [some .i64], .one (some .i64)] (SX.runPol SX.lk SX.U SX.X SX.sumsA SX.never SX.never0 100000 40 8 (SX.start [.sl 19 [some .i64], .one (some .i64)]).1 (SX.start [.sl 19 [some .i64], .one (some .i64)]).2) = true := by kernel_rfl
set_option maxRecDepth 1000000 in
theorem ran20 : SX.lawB [.sl 20 [some .i64], .one (some .i64)] (SX.runPol SX.lk SX.U SX.X SX.sumsA SX.never SX.never0 100000 40 8 (SX.start [.sl 20 [some .i64], .one (some .i64)]).1 (SX.start [.sl 20 [some .i64], .one (some .i64)]).2) = true := by kernel_rfl
set_option maxRecDepth 1000000 in
theorem ran21 : SX.lawB [.sl 21 [some .i64], .one (some .i64)] (SX.runPol SX.lk SX.U SX.X SX.sumsA SX.never SX.never0 100000 40 8 (SX.start [.sl 21 [some .i64], .one (some .i64)]).1 (SX.start [.sl 21 [some .i64], .one (some .i64)]).2) = true := by kernel_rfl
set_option maxRecDepth 1000000 in
theorem ran22 : SX.lawB [.sl 22 [some .i64], .one (some .i64)] (SX.runPol SX.lk SX.U SX.X SX.sumsA SX.never SX.never0 100000 40 8 (SX.start [.sl 22 [some .i64], .one (some .i64)]).1 (SX.start [.sl 22 [some .i64], .one (some .i64)]).2) = true := by kernel_rfl
set_option maxRecDepth 1000000 in
theorem ran23 : SX.lawB [.sl 23 [some .i64], .one (some .i64)] (SX.runPol SX.lk SX.U SX.X SX.sumsA SX.never SX.never0 100000 40 8 (SX.start [.sl 23 [some .i64], .one (some .i64)]).1 (SX.start [.sl 23 [some .i64], .one (some .i64)]).2) = true := by kernel_rfl
set_option maxRecDepth 1000000 in
theorem ran24 : SX.lawB [.sl 24 [some .i64], .one (some .i64)] (SX.runPol SX.lk SX.U SX.X SX.sumsA SX.never SX.never0 100000 40 8 (SX.start [.sl 24 [some .i64], .one (some .i64)]).1 (SX.start [.sl 24 [some .i64], .one (some .i64)]).2) = true := by kernel_rfl
set_option maxRecDepth 1000000 in
theorem ran25 : SX.lawB [.sl 25 [some .i64], .one (some .i64)] (SX.runPol SX.lk SX.U SX.X SX.sumsA SX.never SX.never0 100000 40 8 (SX.start [.sl 25 [some .i64], .one (some .i64)]).1 (SX.start [.sl 25 [some .i64], .one (some .i64)]).2) = true := by kernel_rfl
set_option maxRecDepth 1000000 in
theorem ran26 : SX.lawB [.sl 26 [some .i64], .one (some .i64)] (SX.runPol SX.lk SX.U SX.X SX.sumsA SX.never SX.never0 100000 40 8 (SX.start [.sl 26 [some .i64], .one (some .i64)]).1 (SX.start [.sl 26 [some .i64], .one (some .i64)]).2) = true := by kernel_rfl
set_option maxRecDepth 1000000 in
theorem ran27 : SX.lawB [.sl 27 [some .i64], .one (some .i64)] (SX.runPol SX.lk SX.U SX.X SX.sumsA SX.never SX.never0 100000 40 8 (SX.start [.sl 27 [some .i64], .one (some .i64)]).1 (SX.start [.sl 27 [some .i64], .one (some .i64)]).2) = true := by kernel_rfl
set_option maxRecDepth 1000000 in
theorem ran28 : SX.lawB [.sl 28 [some .i64], .one (some .i64)] (SX.runPol SX.lk SX.U SX.X SX.sumsA SX.never SX.never0 100000 40 8 (SX.start [.sl 28 [some .i64], .one (some .i64)]).1 (SX.start [.sl 28 [some .i64], .one (some .i64)]).2) = true := by kernel_rfl
set_option maxRecDepth 1000000 in
theorem ran29 : SX.lawB [.sl 29 [some .i64], .one (some .i64)] (SX.runPol SX.lk SX.U SX.X SX.sumsA SX.never SX.never0 100000 40 8 (SX.start [.sl 29 [some .i64], .one (some .i64)]).1 (SX.start [.sl 29 [some .i64], .one (some .i64)]).2) = true := by kernel_rfl
set_option maxRecDepth 1000000 in
theorem ran30 : SX.lawB [.sl 30 [some .i64], .one (some .i64)] (SX.runPol SX.lk SX.U SX.X SX.sumsA SX.never SX.never0 100000 40 8 (SX.start [.sl 30 [some .i64], .one (some .i64)]).1 (SX.start [.sl 30 [some .i64], .one (some .i64)]).2) = true := by kernel_rfl
set_option maxRecDepth 1000000 in
theorem ran31 : SX.lawB [.sl 31 [some .i64], .one (some .i64)] (SX.runPol SX.lk SX.U SX.X SX.sumsA SX.never SX.never0 100000 40 8 (SX.start [.sl 31 [some .i64], .one (some .i64)]).1 (SX.start [.sl 31 [some .i64], .one (some .i64)]).2) = true := by kernel_rfl
set_option maxRecDepth 1000000 in
theorem ran32 : SX.lawB [.sl 32 [some .i64], .one (some .i64)] (SX.runPol SX.lk SX.U SX.X SX.sumsA SX.never SX.never0 100000 40 8 (SX.start [.sl 32 [some .i64], .one (some .i64)]).1 (SX.start [.sl 32 [some .i64], .one (some .i64)]).2) = true := by kernel_rfl
set_option maxRecDepth 1000000 in
theorem ran33 : SX.lawB [.sl 33 [some .i64], .one (some .i64)] (SX.runPol SX.lk SX.U SX.X SX.sumsA SX.never SX.never0 100000 40 8 (SX.start [.sl 33 [some .i64], .one (some .i64)]).1 (SX.start [.sl 33 [some .i64], .one (some .i64)]).2) = true := by kernel_rfl
set_option maxRecDepth 1000000 in
theorem ran34 : SX.lawB [.sl 34 [some .i64], .one (some .i64)] (SX.runPol SX.lk SX.U SX.X SX.sumsA SX.never SX.never0 100000 40 8 (SX.start [.sl 34 [some .i64], .one (some .i64)]).1 (SX.start [.sl 34 [some .i64], .one (some .i64)]).2) = true := by kernel_rfl
set_option maxRecDepth 1000000 in
theorem ran35 : SX.lawB [.sl 35 [some .i64], .one (some .i64)] (SX.runPol SX.lk SX.U SX.X SX.sumsA SX.never SX.never0 100000 40 8 (SX.start [.sl 35 [some .i64], .one (some .i64)]).1 (SX.start [.sl 35 [some .i64], .one (some .i64)]).2) = true := by kernel_rfl
set_option maxRecDepth 1000000 in
theorem ran36 : SX.lawB [.sl 36 [some .i64], .one (some .i64)] (SX.runPol SX.lk SX.U SX.X SX.sumsA SX.never SX.never0 100000 40 8 (SX.start [.sl 36 [some .i64], .one (some .i64)]).1 (SX.start [.sl 36 [some .i64], .one (some .i64)]).2) = true := by kernel_rfl
set_option maxRecDepth 1000000 in
theorem ran37 : SX.lawB [.sl 37 [some .i64], .one (some .i64)] (SX.runPol SX.lk SX.U SX.X SX.sumsA SX.never SX.never0 100000 40 8 (SX.start [.sl 37 [some .i64], .one (some .i64)]).1 (SX.start [.sl 37 [some .i64], .one (some .i64)]).2) = true := by kernel_rfl
set_option maxRecDepth 1000000 in
theorem ran38 : SX.lawB [.sl 38 [some .i64], .one (some .i64)] (SX.runPol SX.lk SX.U SX.X SX.sumsA SX.never SX.never0 100000 40 8 (SX.start [.sl 38 [some .i64], .one (some .i64)]).1 (SX.start [.sl 38 [some .i64], .one (some .i64)]).2) = true := by kernel_rfl
set_option maxRecDepth 1000000 in
theorem ran39 : SX.lawB [.sl 39 [some .i64], .one (some .i64)] (SX.runPol SX.lk SX.U SX.X SX.sumsA SX.never SX.never0 100000 40 8 (SX.start [.sl 39 [some .i64], .one (some .i64)]).1 (SX.start [.sl 39 [some .i64], .one (some .i64)]).2) = true := by kernel_rfl
set_option maxRecDepth 1000000 in
theorem ran40 : SX.lawB [.sl 40 [some .i64], .one (some .i64)] (SX.runPol SX.lk SX.U SX.X SX.sumsA SX.never SX.never0 100000 40 8 (SX.start [.sl 40 [some .i64], .one (some .i64)]).1 (SX.start [.sl 40 [some .i64], .one (some .i64)]).2) = true := by kernel_rfl
end Go.Proofs.Ytchdlanichhkcaa.rootMany
