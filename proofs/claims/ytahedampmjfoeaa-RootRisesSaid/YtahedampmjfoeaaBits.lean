/- Products of two numbers of 64 bits; sums and differences with a carry; leading zeros. -/
import Derived.Test.YtahedampmjfoeaaLen
import Derived.Test.YtahedampmjfoeaaInv
import Derived.Test.YtahedampmjfoeaaWnum
import Derived.Lib.Mul64
import Derived.Laws.Externs
import Derived.Laws.MathBits
namespace Go.Proofs.Ytahedampmjfoeaa
open Go.RowKit

theorem lead_any (n : Int) (w : World) (h0 : 0 ≤ n) (h1 : n ≤ 18446744073709551615) :
    Calls Try.prog 81 #[.int .u64 n] w fun e w' => e = .returned (.int .i64 (64 - (Lib.bitLen n.toNat : Int))) ∧ w = w' := by
  have hl := len_le64 n h0 h1
  go_enter Try.func81, Try.ntmps81
  go_wp2_with fail
  refine (len64_int n _ h0 h1).mono ?_
  rintro e w' ⟨rfl, rfl⟩
  go_wp2
  go_ret
  exact ⟨rfl, rfl⟩

/-! Sums and differences with a carry -/
theorem add64_run (x y : Int) (w : World) (hx : 0 ≤ x) (hy : 0 ≤ y) :
    (callFunc 67 #[.int .u64 x, .int .u64 y, .int .u64 0]).run Try.prog w = .ok (.value (.tuple #[.int .u64 (addLo x y), .int .u64 (addHi x y)])) w := by
  rw [run_callFunc_extern Try.func67 (by kernel_rfl) (by kernel_rfl) (by kernel_rfl) (e := add64Entry) (by kernel_rfl), run_add64 x y 0 hx hy (by omega) (by omega)]
  simp only [Result.andThen, Int.add_zero]
  rfl
def sub64Entry : Array Value → Sem Value := fun args => do
  let (x, y, b) ← Extern.MathBitsCarry.three "Sub64" args
  pure (Extern.MathBitsCarry.pair ((x + Extern.MathBitsCarry.m64 - y - b) % Extern.MathBitsCarry.m64) (if x < y + b then 1 else 0))
theorem run_sub64 (y : Nat) (w : World) (P : Program) :
    (sub64Entry #[.int .u64 0, .int .u64 y, .int .u64 0]).run P w = .ok (.tuple #[.int .u64 (((18446744073709551616 - y) % 18446744073709551616 : Nat) : Int), .int .u64 ((if 0 < y then 1 else 0 : Nat) : Int)]) w := by
  have : (sub64Entry #[.int .u64 0, .int .u64 y, .int .u64 0]).run P w = .ok (Extern.MathBitsCarry.pair ((0 + Extern.MathBitsCarry.m64 - y - 0) % Extern.MathBitsCarry.m64) (if 0 < y + 0 then 1 else 0)) w := rfl
  rw [this]
  simp only [Extern.MathBitsCarry.pair, Extern.MathBitsCarry.m64, Nat.zero_add, Nat.sub_zero, Nat.add_zero]
  rfl
theorem sub64_run (y : Int) (w : World) (h0 : 0 ≤ y) (h1 : y < 18446744073709551616) :
    (callFunc 80 #[.int .u64 0, .int .u64 y, .int .u64 0]).run Try.prog w = .ok (.value (.tuple #[.int .u64 (subLo y), .int .u64 (subBo y)])) w := by
  obtain ⟨n, rfl⟩ := Int.eq_ofNat_of_zero_le h0
  rw [run_callFunc_extern Try.func80 (by kernel_rfl) (by kernel_rfl) (by kernel_rfl) (e := sub64Entry) (by kernel_rfl), run_sub64]
  have e1 : (((18446744073709551616 - n) % 18446744073709551616 : Nat) : Int) = subLo n := by unfold subLo; omega
  have e2 : ((if 0 < n then 1 else 0 : Nat) : Int) = subBo n := by unfold subBo; split <;> omega
  rw [e1, e2]
  rfl

/-! The product -/
theorem mask_mod (e : Int) : bits .and .u64 (e % 18446744073709551616) 4294967295 = e % 18446744073709551616 % 4294967296 :=
  and_mask _ (Int.emod_nonneg _ (by decide)) (Int.emod_lt_of_pos _ (by decide))
set_option maxHeartbeats 1000000 in
theorem mul64_any (x y : Int) (w : World) (x0 : 0 ≤ x) (x1 : x < 18446744073709551616) (y0 : 0 ≤ y) (y1 : y < 18446744073709551616) :
    Calls Try.prog 60 #[.int .u64 x, .int .u64 y] w fun e w' => e = .returned (.tuple #[.int .u64 (x * y / 18446744073709551616), .int .u64 (x * y % 18446744073709551616)]) ∧ w = w' := by
  go_enter Try.func60, Try.ntmps60
  go_wp2
  go_ret2
  refine ⟨tuple2 ?_ (IntKind.wrap_u64 _), rfl⟩
  refine Eq.trans ?_ (mul64_arith x y x0 x1 y0 y1)
  simp only [IntKind.wrap_u64, and_mask x x0 x1, and_mask y y0 y1, mask_mod]
end Go.Proofs.Ytahedampmjfoeaa
