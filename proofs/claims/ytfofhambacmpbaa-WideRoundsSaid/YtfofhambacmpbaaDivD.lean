/- Dividing numbers bit by bit: what each bit does. Nothing of a program is used. -/
import Derived.Test.YtfofhambacmpbaaRefF
namespace Go.Proofs.Ytfofhambacmpbaa
open Go.RowKit

theorem half_down (a i : Nat) : a / 2 ^ i = 2 * (a / 2 ^ (i + 1)) + a / 2 ^ i % 2 := by
  rw [Nat.pow_succ, ← Nat.div_div_eq_div_mul]
  omega
/-- The rest, with the next bit drawn down. -/
def dR (a d i : Nat) : Nat := 2 * (a / 2 ^ (i + 1) % d) + a / 2 ^ i % 2
theorem dR_lt (a d i : Nat) (hd : 0 < d) : dR a d i < 2 * d := by
  unfold dR
  have := Nat.mod_lt (a / 2 ^ (i + 1)) hd
  omega
theorem dR_ge (a d i : Nat) (hd : 0 < d) (h : d ≤ dR a d i) : a / 2 ^ i % d = dR a d i - d ∧ a / 2 ^ i / d * 2 ^ i = a / 2 ^ (i + 1) / d * 2 ^ (i + 1) + 2 ^ i := by
  have h2 := dR_lt a d i hd
  have e := half_down a i
  unfold dR at *
  have hm := Nat.div_add_mod (a / 2 ^ (i + 1)) d
  generalize a / 2 ^ i % 2 = b at *
  generalize a / 2 ^ (i + 1) = A at *
  rw [e]
  generalize hq : A / d = Q at *
  generalize hr : A % d = r at *
  have e2 : 2 * A + b = (2 * r + b - d) + d * (2 * Q + 1) := by
    rw [← hm, Nat.mul_add d, Nat.mul_left_comm d 2 Q]
    omega
  rw [e2, Nat.add_mul_mod_self_left, Nat.add_mul_div_left _ _ hd, Nat.mod_eq_of_lt (by omega), Nat.div_eq_of_lt (by omega)]
  refine ⟨rfl, ?_⟩
  rw [Nat.pow_succ, Nat.zero_add, Nat.add_mul, Nat.one_mul]
  generalize 2 ^ i = P
  grind
theorem dR_no (a d i : Nat) (hd : 0 < d) (h : dR a d i < d) : a / 2 ^ i % d = dR a d i ∧ a / 2 ^ i / d * 2 ^ i = a / 2 ^ (i + 1) / d * 2 ^ (i + 1) := by
  have e := half_down a i
  unfold dR at *
  have hm := Nat.div_add_mod (a / 2 ^ (i + 1)) d
  generalize a / 2 ^ i % 2 = b at *
  generalize a / 2 ^ (i + 1) = A at *
  rw [e]
  generalize hq : A / d = Q at *
  generalize hr : A % d = r at *
  have e2 : 2 * A + b = (2 * r + b) + d * (2 * Q) := by
    rw [← hm, Nat.mul_left_comm d 2 Q]
    omega
  rw [e2, Nat.add_mul_mod_self_left, Nat.add_mul_div_left _ _ hd, Nat.mod_eq_of_lt h, Nat.div_eq_of_lt h]
  refine ⟨rfl, ?_⟩
  rw [Nat.pow_succ, Nat.zero_add]
  generalize 2 ^ i = P
  grind
/-- A bit set in a digit. -/
theorem set_bit (Q i j : Nat) : dg (Q * 2 ^ (i + 1) + 2 ^ i) j = if j = i / 32 then dg (Q * 2 ^ (i + 1)) j + 2 ^ (i % 32) else dg (Q * 2 ^ (i + 1)) j := by
  unfold dg
  rw [pow32]
  have e : Q * 2 ^ (i + 1) + 2 ^ i = (2 * Q + 1) * 2 ^ i := by rw [Nat.pow_succ]; generalize 2 ^ i = P; grind
  have e0 : Q * 2 ^ (i + 1) = (2 * Q) * 2 ^ i := by rw [Nat.pow_succ]; generalize 2 ^ i = P; grind
  rw [e, e0]
  rcases Nat.lt_trichotomy j (i / 32) with h | h | h
  · rw [if_neg (by omega)]
    have hs : 2 ^ i = 2 ^ (i - 32 * j - 32) * 2 ^ 32 * 2 ^ (32 * j) := by rw [← Nat.pow_add, ← Nat.pow_add]; congr 1; omega
    rw [hs, ← Nat.mul_assoc, ← Nat.mul_assoc, ← Nat.mul_assoc, ← Nat.mul_assoc, Nat.mul_div_cancel _ (Nat.pow_pos (by omega)), Nat.mul_div_cancel _ (Nat.pow_pos (by omega)), Nat.mul_mod_left, Nat.mul_mod_left]
  · rw [if_pos h]
    subst h
    have hs : 2 ^ i = 2 ^ (i % 32) * 2 ^ (32 * (i / 32)) := by rw [← Nat.pow_add]; congr 1; omega
    rw [hs, ← Nat.mul_assoc, ← Nat.mul_assoc, Nat.mul_div_cancel _ (Nat.pow_pos (by omega)), Nat.mul_div_cancel _ (Nat.pow_pos (by omega))]
    have hr : i % 32 < 32 := Nat.mod_lt _ (by omega)
    generalize i % 32 = r at *
    have h32 : (4294967296 : Nat) = 2 ^ r * 2 * 2 ^ (31 - r) := by rw [← Nat.pow_succ, ← Nat.pow_add]; rw [show r.succ + (31 - r) = 32 by omega]
    have a1 : (2 * Q + 1) * 2 ^ r % 4294967296 = 2 * Q * 2 ^ r % 4294967296 + 2 ^ r := by
      have b1 : 2 * Q * 2 ^ r % 4294967296 = 2 ^ r * 2 * (Q % 2 ^ (31 - r)) := by
        rw [show 2 * Q * 2 ^ r = 2 ^ r * 2 * Q by rw [Nat.mul_comm (2 * Q), Nat.mul_assoc]]
        conv => lhs; rw [h32]
        rw [Nat.mul_mod_mul_left]
      have b2 : (2 * Q + 1) * 2 ^ r = 2 * Q * 2 ^ r + 2 ^ r := by rw [Nat.add_mul, Nat.one_mul]
      have b3 : 2 ^ r * 2 * (Q % 2 ^ (31 - r)) + 2 ^ r < 4294967296 := by
        have c1 : Q % 2 ^ (31 - r) + 1 ≤ 2 ^ (31 - r) := Nat.mod_lt _ (Nat.pow_pos (by omega))
        have c2 : 2 ^ r * 2 * (Q % 2 ^ (31 - r) + 1) ≤ 2 ^ r * 2 * 2 ^ (31 - r) := Nat.mul_le_mul_left _ c1
        rw [← h32, Nat.mul_add, Nat.mul_one] at c2
        have c3 : 1 ≤ 2 ^ r := Nat.pow_pos (by omega)
        omega
      rw [b2, ← Nat.mod_add_mod, b1, Nat.mod_eq_of_lt b3]
    rw [a1]
    simp
  · rw [if_neg (by omega)]
    have hs : 2 ^ (32 * j) = 2 ^ i * 2 ^ (32 * j - i) := by rw [← Nat.pow_add]; congr 1; omega
    have hp : 0 < 2 ^ i := Nat.pow_pos (by omega)
    rw [hs, ← Nat.div_div_eq_div_mul, ← Nat.div_div_eq_div_mul, Nat.mul_div_cancel _ hp, Nat.mul_div_cancel _ hp]
    obtain ⟨k, hk⟩ : ∃ k, 32 * j - i = k + 1 := ⟨32 * j - i - 1, by omega⟩
    rw [hk, Nat.pow_succ, Nat.mul_comm (2 ^ k), ← Nat.div_div_eq_div_mul, ← Nat.div_div_eq_div_mul]
    congr 3
    omega
theorem or_bit (Q i : Nat) : bits .or .u64 (dg (Q * 2 ^ (i + 1)) (i / 32)) (IntKind.u64.wrap (2 ^ (i % 32))) = dg (Q * 2 ^ (i + 1) + 2 ^ i) (i / 32) := by
  rw [set_bit, if_pos rfl]
  have hr : i % 32 < 32 := Nat.mod_lt _ (by omega)
  have hd : dg (Q * 2 ^ (i + 1)) (i / 32) = ((2 ^ (i % 32 + 1) * (Q % 2 ^ (31 - i % 32)) : Nat) : Int) := by
    unfold dg
    rw [pow32]
    have hs : 2 ^ (i + 1) = 2 ^ (i % 32 + 1) * 2 ^ (32 * (i / 32)) := by rw [← Nat.pow_add]; congr 1; omega
    rw [hs, ← Nat.mul_assoc, Nat.mul_div_cancel _ (Nat.pow_pos (by omega))]
    have h32 : (4294967296 : Nat) = 2 ^ (i % 32 + 1) * 2 ^ (31 - i % 32) := by rw [← Nat.pow_add, show i % 32 + 1 + (31 - i % 32) = 32 by omega]
    conv => lhs; rw [h32]
    rw [Nat.mul_comm Q, Nat.mul_mod_mul_left]
  rw [hd]
  generalize i % 32 = r at *
  have h1 : 2 ^ r < 4294967296 := Nat.pow_lt_pow_right (m := r) (n := 32) (by omega) (by omega)
  have e : ((2 : Int) ^ r) = ((2 ^ r : Nat) : Int) := by simp
  have hw : IntKind.u64.wrap (2 ^ r) = ((2 ^ r : Nat) : Int) := by
    rw [IntKind.wrap_u64, e]
    clear e hd
    generalize 2 ^ r = q at *
    omega
  rw [hw, e]
  have h2 : 2 ^ (r + 1) * (Q % 2 ^ (31 - r)) < 4294967296 := by
    have h32 : (4294967296 : Nat) = 2 ^ (r + 1) * 2 ^ (31 - r) := by rw [← Nat.pow_add, show r + 1 + (31 - r) = 32 by omega]
    conv => rhs; rw [h32]
    exact Nat.mul_lt_mul_of_pos_left (Nat.mod_lt _ (Nat.pow_pos (by omega))) (Nat.pow_pos (by omega))
  have h := bits_or_u64_nat (2 ^ (r + 1) * (Q % 2 ^ (31 - r))) (2 ^ r) (by omega) (by omega)
  refine h.trans ?_
  rw [← Nat.two_pow_add_eq_or_of_lt (Nat.pow_lt_pow_right (by omega) (by omega))]
  simp
/-- The lowest bit set in an even number. -/
theorem or_low (r b : Nat) (hb : b < 2) : bits .or .u64 (dg (2 * r) 0) (b : Int) = dg (2 * r + b) 0 := by
  unfold dg
  rw [Nat.pow_zero, Nat.div_one, Nat.div_one]
  have h := bits_or_u64_nat (2 * r % 4294967296) b (by omega) (by omega)
  refine h.trans ?_
  have e : 2 * r % 4294967296 = 2 ^ 1 * (r % 2147483648) := by omega
  rw [e, ← Nat.two_pow_add_eq_or_of_lt (by omega)]
  have : (2 * r + b) % 4294967296 = 2 ^ 1 * (r % 2147483648) + b := by omega
  rw [this]
theorem low_other (r b j : Nat) (hb : b < 2) (hj : j ≠ 0) : dg (2 * r + b) j = dg (2 * r) j := by
  unfold dg
  obtain ⟨k, rfl⟩ : ∃ k, j = k + 1 := ⟨j - 1, by omega⟩
  rw [Nat.pow_succ, Nat.mul_comm (4294967296 ^ k), ← Nat.div_div_eq_div_mul, ← Nat.div_div_eq_div_mul, show (2 * r + b) / 4294967296 = 2 * r / 4294967296 by omega]
theorem low_row (r b j : Nat) (hb : b < 2) : upd (dg (2 * r)) 0 (dg (2 * r + b) 0) j = dg (2 * r + b) j := by
  unfold upd
  by_cases h : j = 0
  · subst h; simp
  · rw [if_neg h, low_other r b j hb h]
theorem bit_row (Q i j : Nat) : upd (dg (Q * 2 ^ (i + 1))) (i / 32) (dg (Q * 2 ^ (i + 1) + 2 ^ i) (i / 32)) j = dg (Q * 2 ^ (i + 1) + 2 ^ i) j := by
  unfold upd
  by_cases h : j = i / 32
  · subst h; simp
  · rw [if_neg h, set_bit, if_neg h]
theorem div_start (a d : Nat) (ha : a < B8) : a / 2 ^ 256 % d = 0 ∧ a / 2 ^ 256 / d * 2 ^ 256 = 0 := by
  have : a / 2 ^ 256 = 0 := Nat.div_eq_of_lt (by unfold B8 at ha; rw [show (2 : Nat) ^ 256 = 4294967296 ^ 8 by decide]; exact ha)
  rw [this]
  simp
end Go.Proofs.Ytfofhambacmpbaa
