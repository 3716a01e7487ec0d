/- astrolabelaw2.FxFlags: the cases. -/
import Derived.Test.YtchdlanichhkcaaAwakes
namespace Go.Proofs.Ytchdlanichhkcaa.fxFlags
open Go
def mcF : FuncId → Bool := (fun f => Nat.beq f 7 || Nat.beq f 34)
def mlF : FuncId → Nat := (fun f => bif Nat.beq f 7 || Nat.beq f 53 then 1 else 0)
def facts0 (n : Nat) : List (Bool × SX.A × SX.A × Bool) := [(false, .k (1152921504606846976), .x (n + 2), true)]
def facts1 (n : Nat) : List (Bool × SX.A × SX.A × Bool) := [(false, .x (n + 2), .k (-1152921504606846976), true)]
def facts2 (n : Nat) : List (Bool × SX.A × SX.A × Bool) := [(false, .k (1152921504606846976), .x (n + 2), false), (false, .x (n + 2), .k (-1152921504606846976), false), (false, .k (1152921504606846976), .x (n + 3), true)]
def facts3 (n : Nat) : List (Bool × SX.A × SX.A × Bool) := [(false, .k (1152921504606846976), .x (n + 2), false), (false, .x (n + 2), .k (-1152921504606846976), false), (false, .x (n + 3), .k (-1152921504606846976), true)]
def facts4 (n : Nat) : List (Bool × SX.A × SX.A × Bool) := [(false, .k (1152921504606846976), .x (n + 2), false), (false, .x (n + 2), .k (-1152921504606846976), false), (false, .k (1152921504606846976), .x (n + 3), false), (false, .x (n + 3), .k (-1152921504606846976), false)]
end Go.Proofs.Ytchdlanichhkcaa.fxFlags
