/- astrolabelaw6.QuatChains, all lengths. -/
import Derived.Test.YtnilajcdidhhbaaQuatChainsR0
import Derived.Test.YtnilajcdidhhbaaQuatChainsR1
import Derived.Test.YtnilajcdidhhbaaQuatChainsR2
import Derived.Test.YtnilajcdidhhbaaQuatChainsR3
import Derived.Test.YtnilajcdidhhbaaQuatChainsR4
namespace Go.Proofs.Ytnilajcdidhhbaa.quatChains
open Go
set_option maxRecDepth 1000000 in
theorem ran0 : SX.lawB [.sn] (SX.runPol SX.lk SX.U SX.X SX.sumsA SX.never SX.never0 100000 40 11 (SX.start [.sn]).1 (SX.start [.sn]).2) = true := by kernel_rfl
set_option maxRecDepth 1000000 in
theorem ranZ : SX.lawB [.sz] (SX.runPol SX.lk SX.U SX.X SX.sumsA SX.never SX.never0 100000 40 11 (SX.start [.sz]).1 (SX.start [.sz]).2) = true := by kernel_rfl
set_option maxRecDepth 1000000 in
theorem ranBig : SX.lawB [.lo 31] (SX.runPol SX.lk SX.U SX.X SX.sumsA SX.never SX.never0 100000 40 11 (SX.start [.lo 31]).1 (SX.start [.lo 31]).2) = true := by kernel_rfl
theorem rans : ∀ n : Nat, 1 ≤ n → n ≤ 30 → SX.lawB [.sl n [some .i64, some .i64, some .i64, some .i64]] (SX.runPol SX.lk SX.U SX.X SX.sumsA SX.never SX.never0 100000 40 11 (SX.start [.sl n [some .i64, some .i64, some .i64, some .i64]]).1 (SX.start [.sl n [some .i64, some .i64, some .i64, some .i64]]).2) = true
  | 1, _, _ => ran1
  | 2, _, _ => ran2
  | 3, _, _ => ran3
  | 4, _, _ => ran4
  | 5, _, _ => ran5
  | 6, _, _ => ran6
  | 7, _, _ => ran7
  | 8, _, _ => ran8
  | 9, _, _ => ran9
  | 10, _, _ => ran10
  | 11, _, _ => ran11
  | 12, _, _ => ran12
  | 13, _, _ => ran13
  | 14, _, _ => ran14
  | 15, _, _ => ran15
  | 16, _, _ => ran16
  | 17, _, _ => ran17
  | 18, _, _ => ran18
  | 19, _, _ => ran19
  | 20, _, _ => ran20
  | 21, _, _ => ran21
  | 22, _, _ => ran22
  | 23, _, _ => ran23
  | 24, _, _ => ran24
  | 25, _, _ => ran25
  | 26, _, _ => ran26
  | 27, _, _ => ran27
  | 28, _, _ => ran28
  | 29, _, _ => ran29
  | 30, _, _ => ran30
  | 0, h, _ => absurd h (by omega)
  | _ + 31, _, h => absurd h (by omega)
end Go.Proofs.Ytnilajcdidhhbaa.quatChains
