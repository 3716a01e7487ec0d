/- astrolabelaw4.TrigTurns, case by case. -/
import Derived.Test.YtchdlanichhkcaaAwakes
namespace Go.Proofs.Ytchdlanichhkcaa.trigTurns
open Go
def facts2 : List (Bool × SX.A × SX.A × Bool) := [(false, .x 3, .k (-288230376151711744), true)]
set_option maxRecDepth 1000000 in
theorem case2 : SX.lawN [.one (some .i64), .one (some .i64)] facts2 (SX.runPol SX.lk SX.U SX.X SX.sumsA (fun f => Nat.beq f 10) SX.never0 100000 40 10 (SX.startN [.one (some .i64), .one (some .i64)] 2 facts2).1 (SX.startN [.one (some .i64), .one (some .i64)] 2 facts2).2) = true := by kernel_rfl
def facts5 : List (Bool × SX.A × SX.A × Bool) := [(true, .x 3, .k (0), true)]
set_option maxRecDepth 1000000 in
theorem case5 : SX.lawN [.one (some .i64), .one (some .i64)] facts5 (SX.runPol SX.lk SX.U SX.X SX.sumsA (fun f => Nat.beq f 10) SX.never0 100000 40 10 (SX.startN [.one (some .i64), .one (some .i64)] 2 facts5).1 (SX.startN [.one (some .i64), .one (some .i64)] 2 facts5).2) = true := by kernel_rfl
def facts8 : List (Bool × SX.A × SX.A × Bool) := [(false, .x 2, .k (-288230376151711744), false), (false, .k (288230376151711744), .x 2, false), (false, .x 3, .k (-288230376151711744), false), (false, .k (288230376151711744), .x 3, false), (false, .k (0), .x 2, true), (false, .k (0), .x 3, true), (false, .x 2, .x 3, false), (false, .x 3, .x 2, false)]
set_option maxRecDepth 1000000 in
theorem case8 : SX.lawN [.one (some .i64), .one (some .i64)] facts8 (SX.runPol SX.lk SX.U SX.X SX.sumsA (fun f => Nat.beq f 10) SX.never0 100000 40 10 (SX.startN [.one (some .i64), .one (some .i64)] 2 facts8).1 (SX.startN [.one (some .i64), .one (some .i64)] 2 facts8).2) = true := by kernel_rfl
def facts11 : List (Bool × SX.A × SX.A × Bool) := [(false, .x 2, .k (-288230376151711744), false), (false, .k (288230376151711744), .x 2, false), (false, .x 3, .k (-288230376151711744), false), (false, .k (288230376151711744), .x 3, false), (false, .k (0), .x 2, true), (false, .x 3, .k (0), true), (false, .x 2, .x 5, false), (false, .x 5, .x 2, false)]
set_option maxRecDepth 1000000 in
theorem case11 : SX.lawN [.one (some .i64), .one (some .i64)] facts11 (SX.runPol SX.lk SX.U SX.X SX.sumsA (fun f => Nat.beq f 10) SX.never0 100000 40 10 (SX.startN [.one (some .i64), .one (some .i64)] 2 facts11).1 (SX.startN [.one (some .i64), .one (some .i64)] 2 facts11).2) = true := by kernel_rfl
def facts14 : List (Bool × SX.A × SX.A × Bool) := [(false, .x 2, .k (-288230376151711744), false), (false, .k (288230376151711744), .x 2, false), (false, .x 3, .k (-288230376151711744), false), (false, .k (288230376151711744), .x 3, false), (false, .x 2, .k (0), true), (false, .k (0), .x 3, true), (false, .x 4, .x 3, false), (false, .x 3, .x 4, false)]
set_option maxRecDepth 1000000 in
theorem case14 : SX.lawN [.one (some .i64), .one (some .i64)] facts14 (SX.runPol SX.lk SX.U SX.X SX.sumsA (fun f => Nat.beq f 10) SX.never0 100000 40 10 (SX.startN [.one (some .i64), .one (some .i64)] 2 facts14).1 (SX.startN [.one (some .i64), .one (some .i64)] 2 facts14).2) = true := by kernel_rfl
def facts17 : List (Bool × SX.A × SX.A × Bool) := [(false, .x 2, .k (-288230376151711744), false), (false, .k (288230376151711744), .x 2, false), (false, .x 3, .k (-288230376151711744), false), (false, .k (288230376151711744), .x 3, false), (false, .x 2, .k (0), true), (false, .x 3, .k (0), true), (false, .x 4, .x 5, false), (false, .x 5, .x 4, false)]
set_option maxRecDepth 1000000 in
theorem case17 : SX.lawN [.one (some .i64), .one (some .i64)] facts17 (SX.runPol SX.lk SX.U SX.X SX.sumsA (fun f => Nat.beq f 10) SX.never0 100000 40 10 (SX.startN [.one (some .i64), .one (some .i64)] 2 facts17).1 (SX.startN [.one (some .i64), .one (some .i64)] 2 facts17).2) = true := by kernel_rfl
end Go.Proofs.Ytchdlanichhkcaa.trigTurns
