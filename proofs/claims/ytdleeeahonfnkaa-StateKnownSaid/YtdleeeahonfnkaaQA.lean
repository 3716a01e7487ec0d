/- The document's own numbers of 128 bits with a sign: products, sizes, comparison. -/
import Derived.Test.YtdleeeahonfnkaaPA
namespace Go.Proofs.Ytdleeeahonfnkaa
open Go.RowKit

abbrev Qv (b : Bool) (n : Int) : Value := .agg #[.int .u64 (wh n), .int .u64 (wl n), .bool b]
structure InQ (n : Int) : Prop where
  lo : 0 ≤ n
  hi : n < 340282366920938463463374607431768211456
theorem qh_lo {n : Int} (h : InQ n) : 0 ≤ wh n := by have := h.lo; unfold wh; omega
theorem qh_hi {n : Int} (h : InQ n) : wh n < 18446744073709551616 := by have := h.hi; unfold wh; omega

theorem or_disj (z x : Int) (z0 : 0 ≤ z) (x0 : 0 ≤ x) (x1 : x < 4294967296) : bits .or .u64 (z * 4294967296 % 18446744073709551616) x = (z * 4294967296 + x) % 18446744073709551616 := by
  obtain ⟨n, rfl⟩ := Int.eq_ofNat_of_zero_le z0
  obtain ⟨m, rfl⟩ := Int.eq_ofNat_of_zero_le x0
  show IntKind.u64.wrap ((BitVec.ofInt 64 _ ||| BitVec.ofInt 64 _).toNat : Int) = _
  have e : ((n : Int) * 4294967296 % 18446744073709551616) = ((n % 4294967296 * 4294967296 : Nat) : Int) := by omega
  rw [e, BitVec.toNat_or, BitVec.toNat_ofInt, BitVec.toNat_ofInt, IntKind.wrap_u64]
  have k := Nat.two_pow_add_eq_or_of_lt (i := 32) (b := m) (by omega) (n % 4294967296)
  have e1 : ((((n % 4294967296 * 4294967296 : Nat) : Int) % ((2 ^ 64 : Nat) : Int)).toNat) = 2 ^ 32 * (n % 4294967296) := by omega
  have e2 : (((m : Nat) : Int) % ((2 ^ 64 : Nat) : Int)).toNat = m := by omega
  rw [e1, e2, ← k]
  omega
set_option maxHeartbeats 1000000 in
theorem q_product (x y : Int) (w : World) (x0 : 0 ≤ x) (x1 : x < 18446744073709551616) (y0 : 0 ≤ y) (y1 : y < 18446744073709551616) :
    Calls Try.prog 150 #[.int .u64 x, .int .u64 y] w fun e w' => e = .returned (.tuple #[.int .u64 (wh (x * y)), .int .u64 (wl (x * y))]) ∧ w = w' := by
  go_enter Try.func150, Try.ntmps150
  go_wp2
  go_ret2
  refine ⟨tuple2 ?_ ?_, rfl⟩
  · refine Eq.trans ?_ (mul64_arith x y x0 x1 y0 y1)
    simp only [IntKind.wrap_u64, and_mask x x0 x1, and_mask y y0 y1, mask_mod]
    rw [Int.add_comm (x % 4294967296 * (y / 4294967296) % 18446744073709551616)]
  · simp only [IntKind.wrap_u64, and_mask x x0 x1, and_mask y y0 y1, mask_mod]
    have e : x * y = (x / 4294967296) * (y / 4294967296) * 18446744073709551616 + ((x / 4294967296) * (y % 4294967296) + (x % 4294967296) * (y / 4294967296)) * 4294967296 + (x % 4294967296) * (y % 4294967296) := by
      conv => lhs; rw [← Int.mul_ediv_add_emod x 4294967296, ← Int.mul_ediv_add_emod y 4294967296]
      rw [Int.add_mul, Int.mul_add, Int.mul_add]
      generalize x / 4294967296 = a
      generalize x % 4294967296 = b
      generalize y / 4294967296 = c
      generalize y % 4294967296 = d
      rw [show 4294967296 * a * (4294967296 * c) = a * c * 18446744073709551616 by rw [Int.mul_assoc, Int.mul_left_comm a, ← Int.mul_assoc, Int.mul_comm _ (a * c)]; rfl, show 4294967296 * a * d = a * d * 4294967296 by rw [Int.mul_assoc, Int.mul_comm], show b * (4294967296 * c) = b * c * 4294967296 by rw [Int.mul_left_comm, Int.mul_comm], Int.add_mul]
      omega
    rw [or_disj _ _ (Int.emod_nonneg _ (by decide)) (Int.emod_nonneg _ (by decide)) (Int.emod_lt_of_pos _ (by decide))]
    unfold wl
    rw [e]
    generalize x / 4294967296 * (y / 4294967296) = a
    generalize x / 4294967296 * (y % 4294967296) = b
    generalize x % 4294967296 * (y / 4294967296) = c
    generalize x % 4294967296 * (y % 4294967296) = d
    omega
theorem q_size (a : Int) (w : World) (h1 : -1152921504606846976 ≤ a) (h2 : a ≤ 1152921504606846976) :
    Calls Try.prog 147 #[.int .i64 a] w fun e w' => e = .returned (.int .u64 a.natAbs) ∧ w = w' := by
  by_cases h3 : a < 0
  · go_enter Try.func147, Try.ntmps147
    go_wp2
    go_ret
    refine ⟨ret_int ?_, rfl⟩
    omega
  · go_enter Try.func147, Try.ntmps147
    go_wp2
    go_ret
    refine ⟨ret_int ?_, rfl⟩
    omega
end Go.Proofs.Ytdleeeahonfnkaa
