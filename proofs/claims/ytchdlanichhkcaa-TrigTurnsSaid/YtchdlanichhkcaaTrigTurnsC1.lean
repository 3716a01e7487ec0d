/- astrolabelaw4.TrigTurns, case by case. -/
import Derived.Test.YtchdlanichhkcaaAwakes
namespace Go.Proofs.Ytchdlanichhkcaa.trigTurns
open Go
def facts1 : List (Bool × SX.A × SX.A × Bool) := [(false, .k (288230376151711744), .x 2, true)]
set_option maxRecDepth 1000000 in
theorem case1 : SX.lawN [.one (some .i64), .one (some .i64)] facts1 (SX.runPol SX.lk SX.U SX.X SX.sumsA (fun f => Nat.beq f 10) SX.never0 100000 40 10 (SX.startN [.one (some .i64), .one (some .i64)] 2 facts1).1 (SX.startN [.one (some .i64), .one (some .i64)] 2 facts1).2) = true := by kernel_rfl
def facts4 : List (Bool × SX.A × SX.A × Bool) := [(true, .x 2, .k (0), true)]
set_option maxRecDepth 1000000 in
theorem case4 : SX.lawN [.one (some .i64), .one (some .i64)] facts4 (SX.runPol SX.lk SX.U SX.X SX.sumsA (fun f => Nat.beq f 10) SX.never0 100000 40 10 (SX.startN [.one (some .i64), .one (some .i64)] 2 facts4).1 (SX.startN [.one (some .i64), .one (some .i64)] 2 facts4).2) = true := by kernel_rfl
def facts7 : List (Bool × SX.A × SX.A × Bool) := [(false, .x 2, .k (-288230376151711744), false), (false, .k (288230376151711744), .x 2, false), (false, .x 3, .k (-288230376151711744), false), (false, .k (288230376151711744), .x 3, false), (false, .k (0), .x 2, true), (false, .k (0), .x 3, true), (false, .x 3, .x 2, true)]
set_option maxRecDepth 1000000 in
theorem case7 : SX.lawN [.one (some .i64), .one (some .i64)] facts7 (SX.runPol SX.lk SX.U SX.X SX.sumsA (fun f => Nat.beq f 10) SX.never0 100000 40 10 (SX.startN [.one (some .i64), .one (some .i64)] 2 facts7).1 (SX.startN [.one (some .i64), .one (some .i64)] 2 facts7).2) = true := by kernel_rfl
def facts10 : List (Bool × SX.A × SX.A × Bool) := [(false, .x 2, .k (-288230376151711744), false), (false, .k (288230376151711744), .x 2, false), (false, .x 3, .k (-288230376151711744), false), (false, .k (288230376151711744), .x 3, false), (false, .k (0), .x 2, true), (false, .x 3, .k (0), true), (false, .x 5, .x 2, true)]
set_option maxRecDepth 1000000 in
theorem case10 : SX.lawN [.one (some .i64), .one (some .i64)] facts10 (SX.runPol SX.lk SX.U SX.X SX.sumsA (fun f => Nat.beq f 10) SX.never0 100000 40 10 (SX.startN [.one (some .i64), .one (some .i64)] 2 facts10).1 (SX.startN [.one (some .i64), .one (some .i64)] 2 facts10).2) = true := by kernel_rfl
def facts13 : List (Bool × SX.A × SX.A × Bool) := [(false, .x 2, .k (-288230376151711744), false), (false, .k (288230376151711744), .x 2, false), (false, .x 3, .k (-288230376151711744), false), (false, .k (288230376151711744), .x 3, false), (false, .x 2, .k (0), true), (false, .k (0), .x 3, true), (false, .x 3, .x 4, true)]
set_option maxRecDepth 1000000 in
theorem case13 : SX.lawN [.one (some .i64), .one (some .i64)] facts13 (SX.runPol SX.lk SX.U SX.X SX.sumsA (fun f => Nat.beq f 10) SX.never0 100000 40 10 (SX.startN [.one (some .i64), .one (some .i64)] 2 facts13).1 (SX.startN [.one (some .i64), .one (some .i64)] 2 facts13).2) = true := by kernel_rfl
def facts16 : List (Bool × SX.A × SX.A × Bool) := [(false, .x 2, .k (-288230376151711744), false), (false, .k (288230376151711744), .x 2, false), (false, .x 3, .k (-288230376151711744), false), (false, .k (288230376151711744), .x 3, false), (false, .x 2, .k (0), true), (false, .x 3, .k (0), true), (false, .x 5, .x 4, true)]
set_option maxRecDepth 1000000 in
theorem case16 : SX.lawN [.one (some .i64), .one (some .i64)] facts16 (SX.runPol SX.lk SX.U SX.X SX.sumsA (fun f => Nat.beq f 10) SX.never0 100000 40 10 (SX.startN [.one (some .i64), .one (some .i64)] 2 facts16).1 (SX.startN [.one (some .i64), .one (some .i64)] 2 facts16).2) = true := by kernel_rfl
end Go.Proofs.Ytchdlanichhkcaa.trigTurns
