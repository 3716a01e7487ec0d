/- astrolabelaw5.VecMany, all lengths. -/
import Derived.Test.YtdmnjoofljdolaaVecManyR0
import Derived.Test.YtdmnjoofljdolaaVecManyR1
import Derived.Test.YtdmnjoofljdolaaVecManyR2
namespace Go.Proofs.Ytdmnjoofljdolaa.vecMany
open Go
set_option maxRecDepth 1000000 in
theorem ran0 : SX.lawB [.sn] (SX.runPol SX.lk SX.U SX.X SX.sumsV SX.never SX.never0 100000 40 9 (SX.start [.sn]).1 (SX.start [.sn]).2) = true := by kernel_rfl
set_option maxRecDepth 1000000 in
theorem ranZ : SX.lawB [.sz] (SX.runPol SX.lk SX.U SX.X SX.sumsV SX.never SX.never0 100000 40 9 (SX.start [.sz]).1 (SX.start [.sz]).2) = true := by kernel_rfl
set_option maxRecDepth 1000000 in
theorem ranBig : SX.lawB [.lo 61] (SX.runPol SX.lk SX.U SX.X SX.sumsV SX.never SX.never0 100000 40 9 (SX.start [.lo 61]).1 (SX.start [.lo 61]).2) = true := by kernel_rfl
theorem rans : ∀ n : Nat, 1 ≤ n → n ≤ 60 → SX.lawB [.sl n [some .i64, some .i64, some .i64]] (SX.runPol SX.lk SX.U SX.X SX.sumsV SX.never SX.never0 100000 40 9 (SX.start [.sl n [some .i64, some .i64, some .i64]]).1 (SX.start [.sl n [some .i64, some .i64, some .i64]]).2) = true
  | 1, _, _ => ran1
  | 2, _, _ => ran2
  | 3, _, _ => ran3
  | 4, _, _ => ran4
  | 5, _, _ => ran5
  | 6, _, _ => ran6
  | 7, _, _ => ran7
  | 8, _, _ => ran8
  | 9, _, _ => ran9
  | 10, _, _ => ran10
  | 11, _, _ => ran11
  | 12, _, _ => ran12
  | 13, _, _ => ran13
  | 14, _, _ => ran14
  | 15, _, _ => ran15
  | 16, _, _ => ran16
  | 17, _, _ => ran17
  | 18, _, _ => ran18
  | 19, _, _ => ran19
  | 20, _, _ => ran20
  | 21, _, _ => ran21
  | 22, _, _ => ran22
  | 23, _, _ => ran23
  | 24, _, _ => ran24
  | 25, _, _ => ran25
  | 26, _, _ => ran26
  | 27, _, _ => ran27
  | 28, _, _ => ran28
  | 29, _, _ => ran29
  | 30, _, _ => ran30
  | 31, _, _ => ran31
  | 32, _, _ => ran32
  | 33, _, _ => ran33
  | 34, _, _ => ran34
  | 35, _, _ => ran35
  | 36, _, _ => ran36
  | 37, _, _ => ran37
  | 38, _, _ => ran38
  | 39, _, _ => ran39
  | 40, _, _ => ran40
  | 41, _, _ => ran41
  | 42, _, _ => ran42
  | 43, _, _ => ran43
  | 44, _, _ => ran44
  | 45, _, _ => ran45
  | 46, _, _ => ran46
  | 47, _, _ => ran47
  | 48, _, _ => ran48
  | 49, _, _ => ran49
  | 50, _, _ => ran50
  | 51, _, _ => ran51
  | 52, _, _ => ran52
  | 53, _, _ => ran53
  | 54, _, _ => ran54
  | 55, _, _ => ran55
  | 56, _, _ => ran56
  | 57, _, _ => ran57
  | 58, _, _ => ran58
  | 59, _, _ => ran59
  | 60, _, _ => ran60
  | 0, h, _ => absurd h (by omega)
  | _ + 61, _, h => absurd h (by omega)
end Go.Proofs.Ytdmnjoofljdolaa.vecMany
