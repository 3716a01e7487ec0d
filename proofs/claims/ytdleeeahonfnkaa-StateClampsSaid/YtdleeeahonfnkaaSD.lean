/- The runner over this program. -/
import Derived.Test.YtdleeeahonfnkaaChecked
import Derived.Test.YtdleeeahonfnkaaSC
import Derived.KernelRfl
import Derived.Laws.Externs

/- SxL -/
namespace Go.Proofs.Ytdleeeahonfnkaa.SX
open Go
def X (f : FuncId) : Nat := match f with
  | 136 => 1
  | 155 => 2
  | _ => 0
def addE : Array Value → Sem Value := fun args => do
  let (x, y, c) ← Extern.MathBitsCarry.three "Add64" args
  pure (Extern.MathBitsCarry.pair ((x + y + c) % Extern.MathBitsCarry.m64) ((x + y + c) / Extern.MathBitsCarry.m64))
def subE : Array Value → Sem Value := fun args => do
  let (x, y, b) ← Extern.MathBitsCarry.three "Sub64" args
  pure (Extern.MathBitsCarry.pair ((x + Extern.MathBitsCarry.m64 - y - b) % Extern.MathBitsCarry.m64) (if x < y + b then 1 else 0))
theorem run_three (s : String) (k1 k2 k3 : IntKind) (a b c : Nat) (hc : c ≤ 1) (P : Program) (w : World) : (Extern.MathBitsCarry.three s #[.int k1 a, .int k2 b, .int k3 c]).run P w = .ok (a, b, c) w := by
  match c, hc with
  | 0, _ => rfl
  | 1, _ => rfl
theorem run_addE (k1 k2 k3 : IntKind) (a b c : Nat) (hc : c ≤ 1) (P : Program) (w : World) :
    (addE #[.int k1 a, .int k2 b, .int k3 c]).run P w = .ok (.tuple #[.int .u64 (((a + b + c) % 18446744073709551616 : Nat) : Int), .int .u64 (((a + b + c) / 18446744073709551616 : Nat) : Int)]) w := by
  unfold addE
  rw [Sem.run_bind, run_three _ _ _ _ _ _ _ hc]
  rfl
theorem run_subE (k1 k2 k3 : IntKind) (a b c : Nat) (hc : c ≤ 1) (P : Program) (w : World) :
    (subE #[.int k1 a, .int k2 b, .int k3 c]).run P w = .ok (.tuple #[.int .u64 (((a + 18446744073709551616 - b - c) % 18446744073709551616 : Nat) : Int), .int .u64 (((if a < b + c then 1 else 0 : Nat)) : Int)]) w := by
  unfold subE
  rw [Sem.run_bind, run_three _ _ _ _ _ _ _ hc]
  rfl
theorem all_names : Try.prog.funcs.toList.all (fun fn => !(fn.name == "runtime.NumGoroutine")) = true := by kernel_rfl
theorem mixed : Try.prog.follows .mixedOrders = true := by kernel_rfl
theorem namesOk : NamesOk Try.prog X where
  names f fn h := by
    have := List.all_eq_true.1 all_names fn (List.mem_of_getElem? (by rw [Array.getElem?_toList]; exact h))
    simpa using this
  add f h a b c hc k1 k2 k3 w := by
    unfold X at h
    split at h
    · rw [run_callFunc_extern Try.func136 (by kernel_rfl) (by kernel_rfl) (by kernel_rfl) (e := addE) (by kernel_rfl), run_addE k1 k2 k3 a b c hc]; rfl
    · cases h
    · cases h
  sub f h a b c hc k1 k2 k3 w := by
    unfold X at h
    split at h
    · cases h
    · rw [run_callFunc_extern Try.func155 (by kernel_rfl) (by kernel_rfl) (by kernel_rfl) (e := subE) (by kernel_rfl), run_subE k1 k2 k3 a b c hc]; rfl
    · cases h
def U0 : Nat → List Int → Int := fun _ _ => 0
end Go.Proofs.Ytdleeeahonfnkaa.SX
