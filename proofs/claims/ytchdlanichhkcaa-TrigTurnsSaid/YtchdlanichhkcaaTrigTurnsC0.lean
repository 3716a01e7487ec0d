/- astrolabelaw4.TrigTurns, case by case. -/
import Derived.Test.YtchdlanichhkcaaAwakes
namespace Go.Proofs.Ytchdlanichhkcaa.trigTurns
open Go
def facts0 : List (Bool × SX.A × SX.A × Bool) := [(false, .x 2, .k (-288230376151711744), true)]
set_option maxRecDepth 1000000 in
theorem case0 : SX.lawN [.one (some .i64), .one (some .i64)] facts0 (SX.runPol SX.lk SX.U SX.X SX.sumsA (fun f => Nat.beq f 10) SX.never0 100000 40 10 (SX.startN [.one (some .i64), .one (some .i64)] 2 facts0).1 (SX.startN [.one (some .i64), .one (some .i64)] 2 facts0).2) = true := by kernel_rfl
def facts3 : List (Bool × SX.A × SX.A × Bool) := [(false, .k (288230376151711744), .x 3, true)]
set_option maxRecDepth 1000000 in
theorem case3 : SX.lawN [.one (some .i64), .one (some .i64)] facts3 (SX.runPol SX.lk SX.U SX.X SX.sumsA (fun f => Nat.beq f 10) SX.never0 100000 40 10 (SX.startN [.one (some .i64), .one (some .i64)] 2 facts3).1 (SX.startN [.one (some .i64), .one (some .i64)] 2 facts3).2) = true := by kernel_rfl
def facts6 : List (Bool × SX.A × SX.A × Bool) := [(false, .x 2, .k (-288230376151711744), false), (false, .k (288230376151711744), .x 2, false), (false, .x 3, .k (-288230376151711744), false), (false, .k (288230376151711744), .x 3, false), (false, .k (0), .x 2, true), (false, .k (0), .x 3, true), (false, .x 2, .x 3, true)]
set_option maxRecDepth 1000000 in
theorem case6 : SX.lawN [.one (some .i64), .one (some .i64)] facts6 (SX.runPol SX.lk SX.U SX.X SX.sumsA (fun f => Nat.beq f 10) SX.never0 100000 40 10 (SX.startN [.one (some .i64), .one (some .i64)] 2 facts6).1 (SX.startN [.one (some .i64), .one (some .i64)] 2 facts6).2) = true := by kernel_rfl
def facts9 : List (Bool × SX.A × SX.A × Bool) := [(false, .x 2, .k (-288230376151711744), false), (false, .k (288230376151711744), .x 2, false), (false, .x 3, .k (-288230376151711744), false), (false, .k (288230376151711744), .x 3, false), (false, .k (0), .x 2, true), (false, .x 3, .k (0), true), (false, .x 2, .x 5, true)]
set_option maxRecDepth 1000000 in
theorem case9 : SX.lawN [.one (some .i64), .one (some .i64)] facts9 (SX.runPol SX.lk SX.U SX.X SX.sumsA (fun f => Nat.beq f 10) SX.never0 100000 40 10 (SX.startN [.one (some .i64), .one (some .i64)] 2 facts9).1 (SX.startN [.one (some .i64), .one (some .i64)] 2 facts9).2) = true := by kernel_rfl
def facts12 : List (Bool × SX.A × SX.A × Bool) := [(false, .x 2, .k (-288230376151711744), false), (false, .k (288230376151711744), .x 2, false), (false, .x 3, .k (-288230376151711744), false), (false, .k (288230376151711744), .x 3, false), (false, .x 2, .k (0), true), (false, .k (0), .x 3, true), (false, .x 4, .x 3, true)]
set_option maxRecDepth 1000000 in
theorem case12 : SX.lawN [.one (some .i64), .one (some .i64)] facts12 (SX.runPol SX.lk SX.U SX.X SX.sumsA (fun f => Nat.beq f 10) SX.never0 100000 40 10 (SX.startN [.one (some .i64), .one (some .i64)] 2 facts12).1 (SX.startN [.one (some .i64), .one (some .i64)] 2 facts12).2) = true := by kernel_rfl
def facts15 : List (Bool × SX.A × SX.A × Bool) := [(false, .x 2, .k (-288230376151711744), false), (false, .k (288230376151711744), .x 2, false), (false, .x 3, .k (-288230376151711744), false), (false, .k (288230376151711744), .x 3, false), (false, .x 2, .k (0), true), (false, .x 3, .k (0), true), (false, .x 4, .x 5, true)]
set_option maxRecDepth 1000000 in
theorem case15 : SX.lawN [.one (some .i64), .one (some .i64)] facts15 (SX.runPol SX.lk SX.U SX.X SX.sumsA (fun f => Nat.beq f 10) SX.never0 100000 40 10 (SX.startN [.one (some .i64), .one (some .i64)] 2 facts15).1 (SX.startN [.one (some .i64), .one (some .i64)] 2 facts15).2) = true := by kernel_rfl
end Go.Proofs.Ytchdlanichhkcaa.trigTurns
