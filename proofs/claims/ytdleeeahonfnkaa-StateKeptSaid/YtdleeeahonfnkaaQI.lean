/- The document's own numbers of 128 bits with a sign: what each bit of a quotient does. -/
import Derived.Test.YtdleeeahonfnkaaQH
namespace Go.Proofs.Ytdleeeahonfnkaa
open Go.RowKit

namespace Q2
theorem half_down (a i : Nat) : a / 2 ^ i = 2 * (a / 2 ^ (i + 1)) + a / 2 ^ i % 2 := by
  rw [Nat.pow_succ, ← Nat.div_div_eq_div_mul]
  omega
/-- The rest, with the next bit drawn down. -/
def dR (a d i : Nat) : Nat := 2 * (a / 2 ^ (i + 1) % d) + a / 2 ^ i % 2
theorem dR_lt (a d i : Nat) (hd : 0 < d) : dR a d i < 2 * d := by
  unfold dR
  have := Nat.mod_lt (a / 2 ^ (i + 1)) hd
  omega
theorem dR_ge (a d i : Nat) (hd : 0 < d) (h : d ≤ dR a d i) : a / 2 ^ i % d = dR a d i - d ∧ a / 2 ^ i / d * 2 ^ i = a / 2 ^ (i + 1) / d * 2 ^ (i + 1) + 2 ^ i := by
  have h2 := dR_lt a d i hd
  have e := half_down a i
  unfold dR at *
  have hm := Nat.div_add_mod (a / 2 ^ (i + 1)) d
  generalize a / 2 ^ i % 2 = b at *
  generalize a / 2 ^ (i + 1) = A at *
  rw [e]
  generalize hq : A / d = Q at *
  generalize hr : A % d = r at *
  have e2 : 2 * A + b = (2 * r + b - d) + d * (2 * Q + 1) := by
    rw [← hm, Nat.mul_add d, Nat.mul_left_comm d 2 Q]
    omega
  rw [e2, Nat.add_mul_mod_self_left, Nat.add_mul_div_left _ _ hd, Nat.mod_eq_of_lt (by omega), Nat.div_eq_of_lt (by omega)]
  refine ⟨rfl, ?_⟩
  rw [Nat.pow_succ, Nat.zero_add, Nat.add_mul, Nat.one_mul]
  generalize 2 ^ i = P
  grind
theorem dR_no (a d i : Nat) (hd : 0 < d) (h : dR a d i < d) : a / 2 ^ i % d = dR a d i ∧ a / 2 ^ i / d * 2 ^ i = a / 2 ^ (i + 1) / d * 2 ^ (i + 1) := by
  have e := half_down a i
  unfold dR at *
  have hm := Nat.div_add_mod (a / 2 ^ (i + 1)) d
  generalize a / 2 ^ i % 2 = b at *
  generalize a / 2 ^ (i + 1) = A at *
  rw [e]
  generalize hq : A / d = Q at *
  generalize hr : A % d = r at *
  have e2 : 2 * A + b = (2 * r + b) + d * (2 * Q) := by
    rw [← hm, Nat.mul_left_comm d 2 Q]
    omega
  rw [e2, Nat.add_mul_mod_self_left, Nat.add_mul_div_left _ _ hd, Nat.mod_eq_of_lt h, Nat.div_eq_of_lt h]
  refine ⟨rfl, ?_⟩
  rw [Nat.pow_succ, Nat.zero_add]
  generalize 2 ^ i = P
  grind

theorem and63 (i : Nat) (hi : i < 128) : bits .and .i64 (i : Int) 63 = ((i % 64 : Nat) : Int) := by
  have : ∀ k : Fin 128, bits .and .i64 ((k.1 : Nat) : Int) 63 = ((k.1 % 64 : Nat) : Int) := by decide +kernel
  exact this ⟨i, hi⟩
theorem and_one (n : Nat) (h1 : n < 18446744073709551616) : bits .and .u64 (n : Int) 1 = ((n % 2 : Nat) : Int) := by
  show IntKind.u64.wrap ((BitVec.ofInt 64 _ &&& BitVec.ofInt 64 _).toNat : Int) = _
  rw [BitVec.toNat_and, BitVec.toNat_ofInt, BitVec.toNat_ofInt, IntKind.wrap_u64]
  have e1 : (((n : Nat) : Int) % ((2 ^ 64 : Nat) : Int)).toNat = n := by omega
  have e2 : ((1 : Int) % ((2 ^ 64 : Nat) : Int)).toNat = 1 := by decide
  rw [e1, e2, Nat.and_one_is_mod]
  omega
theorem bit_lo (n i : Nat) (hi : i < 64) : bits .and .u64 (wl n / 2 ^ i) 1 = ((n / 2 ^ i % 2 : Nat) : Int) := by
  rw [wlN, div_pow_int, and_one _ (by have := Nat.div_le_self (n % 18446744073709551616) (2 ^ i); omega)]
  have e : n / 2 ^ i % 2 = n % 18446744073709551616 / 2 ^ i % 2 := by
    have hP : 0 < 2 ^ i := Nat.two_pow_pos i
    have hPQ : 18446744073709551616 = 2 ^ i * (2 ^ (63 - i) * 2) := by rw [← Nat.mul_assoc, ← Nat.pow_add, show i + (63 - i) = 63 by omega]
    have e2 : n = n % 18446744073709551616 + 2 ^ i * (2 ^ (63 - i) * 2 * (n / 18446744073709551616)) := by rw [← Nat.mul_assoc, ← hPQ]; omega
    rw [show n / 2 ^ i = (n % 18446744073709551616 + 2 ^ i * (2 ^ (63 - i) * 2 * (n / 18446744073709551616))) / 2 ^ i by rw [← e2], Nat.add_mul_div_left _ _ hP]
    rw [Nat.mul_comm (2 ^ (63 - i)), Nat.mul_assoc, Nat.add_mul_mod_self_left]
  rw [e]
theorem bit_hi (n i : Nat) (h1 : 64 ≤ i) (hn : n < 340282366920938463463374607431768211456) : bits .and .u64 (wh n / 2 ^ (i - 64)) 1 = ((n / 2 ^ i % 2 : Nat) : Int) := by
  rw [whN, div_pow_int, and_one _ (by have := Nat.div_le_self (n / 18446744073709551616) (2 ^ (i - 64)); omega)]
  rw [Nat.div_div_eq_div_mul, show (18446744073709551616 : Nat) = 2 ^ 64 by decide, ← Nat.pow_add, show 64 + (i - 64) = i by omega]
theorem or_even (r b : Nat) (hr : 2 * r < 18446744073709551616) (hb : b < 2) : bits .or .u64 ((2 * r : Nat) : Int) (b : Int) = ((2 * r + b : Nat) : Int) :=
  or_parts (2 * r) b 1 hr (by omega) (by omega) (by omega)
theorem set_lo (Q i : Nat) (hi : i < 64) : bits .or .u64 (wl (Q * 2 ^ (i + 1) : Nat)) (IntKind.u64.wrap (2 ^ i)) = wl (Q * 2 ^ (i + 1) + 2 ^ i : Nat) ∧ wh (Q * 2 ^ (i + 1) : Nat) = wh (Q * 2 ^ (i + 1) + 2 ^ i : Nat) := by
  have hP : 0 < 2 ^ i := Nat.two_pow_pos i
  have hp := pow_lt i 63 (by omega)
  have hPQ : 18446744073709551616 = 2 ^ (i + 1) * 2 ^ (63 - i) := by rw [← Nat.pow_add, show i + 1 + (63 - i) = 64 by omega]
  have hd : Q * 2 ^ (i + 1) % 18446744073709551616 % 2 ^ (i + 1) = 0 := by
    rw [Nat.mod_mod_of_dvd _ ⟨2 ^ (63 - i), hPQ⟩]; exact Nat.mul_mod_left _ _
  have hw : IntKind.u64.wrap (2 ^ i) = ((2 ^ i : Nat) : Int) := by rw [pow_int, IntKind.wrap_u64]; omega
  have hlt : 2 ^ i < 2 ^ (i + 1) := by rw [Nat.pow_succ]; omega
  have hup : Q * 2 ^ (i + 1) % 18446744073709551616 + 2 ^ i < 18446744073709551616 := by
    have h3 := Nat.mod_lt (Q * 2 ^ (i + 1)) (show 0 < 18446744073709551616 by omega)
    generalize Q * 2 ^ (i + 1) % 18446744073709551616 = X at *
    obtain ⟨c, hc⟩ := Nat.dvd_of_mod_eq_zero hd
    rw [hc] at h3 ⊢
    have h5 : c < 2 ^ (63 - i) := Nat.lt_of_mul_lt_mul_left (by rw [← hPQ]; exact h3)
    have h6 : 2 ^ (i + 1) * (c + 1) ≤ 2 ^ (i + 1) * 2 ^ (63 - i) := Nat.mul_le_mul_left _ h5
    rw [← hPQ, Nat.mul_add] at h6
    omega
  rw [wlN, wlN, whN, whN, hw, or_parts _ _ (i + 1) (Nat.mod_lt _ (by omega)) hlt (by omega) hd]
  generalize Q * 2 ^ (i + 1) = X at *
  generalize 2 ^ i = P at *
  constructor
  · congr 1; omega
  · congr 1; omega
theorem set_hi (Q i : Nat) (h1 : 64 ≤ i) (h2 : i < 128) (hQ : Q * 2 ^ (i + 1) < 340282366920938463463374607431768211456) : bits .or .u64 (wh (Q * 2 ^ (i + 1) : Nat)) (IntKind.u64.wrap (2 ^ (i - 64))) = wh (Q * 2 ^ (i + 1) + 2 ^ i : Nat) ∧ wl (Q * 2 ^ (i + 1) : Nat) = wl (Q * 2 ^ (i + 1) + 2 ^ i : Nat) := by
  have e1 : 2 ^ i = 2 ^ (i - 64) * 18446744073709551616 := by rw [show (18446744073709551616 : Nat) = 2 ^ 64 by decide, ← Nat.pow_add, show i - 64 + 64 = i by omega]
  have e2 : Q * 2 ^ (i + 1) = Q * 2 ^ (i - 64 + 1) * 18446744073709551616 := by rw [show (18446744073709551616 : Nat) = 2 ^ 64 by decide, Nat.mul_assoc, ← Nat.pow_add, show i - 64 + 1 + 64 = i + 1 by omega]
  have hp := pow_lt (i - 64) 63 (by omega)
  have hw : IntKind.u64.wrap (2 ^ (i - 64)) = ((2 ^ (i - 64) : Nat) : Int) := by rw [pow_int, IntKind.wrap_u64]; omega
  have hd : Q * 2 ^ (i - 64 + 1) % 2 ^ (i - 64 + 1) = 0 := Nat.mul_mod_left _ _
  have hlt : 2 ^ (i - 64) < 2 ^ (i - 64 + 1) := by rw [Nat.pow_succ]; have := Nat.two_pow_pos (i - 64); omega
  rw [e2] at hQ
  have hX : Q * 2 ^ (i - 64 + 1) < 18446744073709551616 := by omega
  rw [e2, e1, whN, whN, wlN, wlN, hw, Nat.mul_div_cancel _ (by omega), or_parts _ _ (i - 64 + 1) hX hlt (by omega) hd]
  generalize Q * 2 ^ (i - 64 + 1) = X at *
  generalize 2 ^ (i - 64) = P at *
  constructor
  · congr 1; omega
  · rw [show X * 18446744073709551616 % 18446744073709551616 = (X * 18446744073709551616 + P * 18446744073709551616) % 18446744073709551616 by omega]
end Q2
end Go.Proofs.Ytdleeeahonfnkaa
