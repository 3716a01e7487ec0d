/- astrolabelaw10.ThorntonGood, all lengths. -/
import Derived.Test.YtmpainhbmgabbaaThorntonGoodR0
import Derived.Test.YtmpainhbmgabbaaThorntonGoodR1
import Derived.Test.YtmpainhbmgabbaaThorntonGoodR2
import Derived.Test.YtmpainhbmgabbaaThorntonGoodR3
import Derived.Test.YtmpainhbmgabbaaThorntonGoodR4
import Derived.Test.YtmpainhbmgabbaaThorntonGoodR5
import Derived.Test.YtmpainhbmgabbaaThorntonGoodR6
import Derived.Test.YtmpainhbmgabbaaThorntonGoodR7
namespace Go.Proofs.Ytmpainhbmgabbaa.thorntonGood
open Go
set_option maxRecDepth 1000000 in
theorem ran0 : SX.lawB [.agg (List.replicate 300 (some .i64)), .agg (List.replicate 576 (some .i64)), .agg (List.replicate 24 (some .i64)), .sn] (SX.runPol SX.lk SX.U SX.X SX.sumsT10 SX.never SX.never0 100000 40 13 (SX.start [.agg (List.replicate 300 (some .i64)), .agg (List.replicate 576 (some .i64)), .agg (List.replicate 24 (some .i64)), .sn]).1 (SX.start [.agg (List.replicate 300 (some .i64)), .agg (List.replicate 576 (some .i64)), .agg (List.replicate 24 (some .i64)), .sn]).2) = true := by kernel_rfl
set_option maxRecDepth 1000000 in
theorem ranZ : SX.lawB [.agg (List.replicate 300 (some .i64)), .agg (List.replicate 576 (some .i64)), .agg (List.replicate 24 (some .i64)), .sz] (SX.runPol SX.lk SX.U SX.X SX.sumsT10 SX.never SX.never0 100000 40 13 (SX.start [.agg (List.replicate 300 (some .i64)), .agg (List.replicate 576 (some .i64)), .agg (List.replicate 24 (some .i64)), .sz]).1 (SX.start [.agg (List.replicate 300 (some .i64)), .agg (List.replicate 576 (some .i64)), .agg (List.replicate 24 (some .i64)), .sz]).2) = true := by kernel_rfl
set_option maxRecDepth 1000000 in
theorem ranBig : SX.lawB [.agg (List.replicate 300 (some .i64)), .agg (List.replicate 576 (some .i64)), .agg (List.replicate 24 (some .i64)), .lo 41] (SX.runPol SX.lk SX.U SX.X SX.sumsT10 SX.never SX.never0 100000 40 13 (SX.start [.agg (List.replicate 300 (some .i64)), .agg (List.replicate 576 (some .i64)), .agg (List.replicate 24 (some .i64)), .lo 41]).1 (SX.start [.agg (List.replicate 300 (some .i64)), .agg (List.replicate 576 (some .i64)), .agg (List.replicate 24 (some .i64)), .lo 41]).2) = true := by kernel_rfl
theorem rans : ∀ n : Nat, 1 ≤ n → n ≤ 40 → SX.lawB [.agg (List.replicate 300 (some .i64)), .agg (List.replicate 576 (some .i64)), .agg (List.replicate 24 (some .i64)), .sl n [some .i64]] (SX.runPol SX.lk SX.U SX.X SX.sumsT10 SX.never SX.never0 100000 40 13 (SX.start [.agg (List.replicate 300 (some .i64)), .agg (List.replicate 576 (some .i64)), .agg (List.replicate 24 (some .i64)), .sl n [some .i64]]).1 (SX.start [.agg (List.replicate 300 (some .i64)), .agg (List.replicate 576 (some .i64)), .agg (List.replicate 24 (some .i64)), .sl n [some .i64]]).2) = true
  | 1, _, _ => ran1
  | 2, _, _ => ran2
  | 3, _, _ => ran3
  | 4, _, _ => ran4
  | 5, _, _ => ran5
  | 6, _, _ => ran6
  | 7, _, _ => ran7
  | 8, _, _ => ran8
  | 9, _, _ => ran9
  | 10, _, _ => ran10
  | 11, _, _ => ran11
  | 12, _, _ => ran12
  | 13, _, _ => ran13
  | 14, _, _ => ran14
  | 15, _, _ => ran15
  | 16, _, _ => ran16
  | 17, _, _ => ran17
  | 18, _, _ => ran18
  | 19, _, _ => ran19
  | 20, _, _ => ran20
  | 21, _, _ => ran21
  | 22, _, _ => ran22
  | 23, _, _ => ran23
  | 24, _, _ => ran24
  | 25, _, _ => ran25
  | 26, _, _ => ran26
  | 27, _, _ => ran27
  | 28, _, _ => ran28
  | 29, _, _ => ran29
  | 30, _, _ => ran30
  | 31, _, _ => ran31
  | 32, _, _ => ran32
  | 33, _, _ => ran33
  | 34, _, _ => ran34
  | 35, _, _ => ran35
  | 36, _, _ => ran36
  | 37, _, _ => ran37
  | 38, _, _ => ran38
  | 39, _, _ => ran39
  | 40, _, _ => ran40
  | 0, h, _ => absurd h (by omega)
  | _ + 41, _, h => absurd h (by omega)
end Go.Proofs.Ytmpainhbmgabbaa.thorntonGood
