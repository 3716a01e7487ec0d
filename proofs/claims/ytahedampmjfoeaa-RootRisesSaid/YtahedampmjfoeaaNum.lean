/- Numbers written with eight digits to the base 2 to the 32: what the school's ways of adding, taking away, comparing and multiplying come to, digit by digit. Nothing of a program is used. -/
import Derived.Test.YtahedampmjfoeaaBase
namespace Go.Proofs.Ytahedampmjfoeaa

/-! Adding -/
def cy (m n k : Nat) : Int := (((m % 4294967296 ^ k + n % 4294967296 ^ k) / 4294967296 ^ k : Nat) : Int)
theorem pow_pos32 (k : Nat) : 0 < 4294967296 ^ k := Nat.pow_pos (by omega)
theorem cy_zero (m n : Nat) : cy m n 0 = 0 := by unfold cy; simp [Nat.mod_one]
theorem cy_lo (m n k : Nat) : 0 ≤ cy m n k := Int.natCast_nonneg _
theorem cy_hi (m n k : Nat) : cy m n k ≤ 1 := by
  unfold cy
  have h1 := Nat.mod_lt m (pow_pos32 k)
  have h2 := Nat.mod_lt n (pow_pos32 k)
  have : (m % 4294967296 ^ k + n % 4294967296 ^ k) / 4294967296 ^ k < 2 := Nat.div_lt_of_lt_mul (by omega)
  omega
theorem add_step (m n k : Nat) : ((m % 4294967296 ^ k + n % 4294967296 ^ k) / 4294967296 ^ k + m / 4294967296 ^ k % 4294967296 + n / 4294967296 ^ k % 4294967296) / 4294967296 = (m % 4294967296 ^ (k + 1) + n % 4294967296 ^ (k + 1)) / 4294967296 ^ (k + 1) ∧
    ((m % 4294967296 ^ k + n % 4294967296 ^ k) / 4294967296 ^ k + m / 4294967296 ^ k % 4294967296 + n / 4294967296 ^ k % 4294967296) % 4294967296 = (m + n) / 4294967296 ^ k % 4294967296 := by
  have hP := pow_pos32 k
  rw [Nat.pow_succ]
  generalize 4294967296 ^ k = P at *
  constructor
  · rw [Nat.mod_mul, Nat.mod_mul, ← Nat.div_div_eq_div_mul]
    congr 1
    rw [show m % P + P * (m / P % 4294967296) + (n % P + P * (n / P % 4294967296)) = (m % P + n % P) + P * (m / P % 4294967296 + n / P % 4294967296) by rw [Nat.mul_add]; omega, Nat.add_mul_div_left _ _ hP]
    omega
  · have e : (m + n) / P = (m % P + n % P) / P + (m / P + n / P) := by
      have e0 : m + n = (m % P + n % P) + P * (m / P + n / P) := by
        have := Nat.mod_add_div m P; have := Nat.mod_add_div n P; rw [Nat.mul_add]; omega
      rw [show (m + n) / P = ((m % P + n % P) + P * (m / P + n / P)) / P by rw [← e0], Nat.add_mul_div_left _ _ hP]
    rw [e]
    omega
theorem add_dg (m n k : Nat) : (cy m n k + dg m k + dg n k) % 4294967296 = dg (m + n) k := by
  have := (add_step m n k).2
  unfold cy dg; omega
theorem add_cy (m n k : Nat) : (cy m n k + dg m k + dg n k) / 4294967296 = cy m n (k + 1) := by
  have := (add_step m n k).1
  unfold cy dg; omega
def mix (f g : Nat → Int) (k j : Nat) : Int := if j < k then f j else g j
theorem mix_at (f g : Nat → Int) (k : Nat) : mix f g k k = g k := by simp [mix]
theorem mix_zero (f g : Nat → Int) (j : Nat) : mix f g 0 j = g j := by simp [mix]
theorem mix_all (f g : Nat → Int) (k j : Nat) (h : j < k) : mix f g k j = f j := by simp [mix, h]
theorem mix_upd (f g : Nat → Int) (k j : Nat) : upd (mix f g k) k (f k) j = mix f g (k + 1) j := by
  unfold upd mix
  by_cases h : j = k
  · subst h; simp
  · rw [if_neg h]
    by_cases h2 : j < k
    · rw [if_pos h2, if_pos (by omega)]
    · rw [if_neg h2, if_neg (by omega)]

/-! Taking away: the borrow is 1 or 0 -/
def bw (m n k : Nat) : Int := if m % 4294967296 ^ k < n % 4294967296 ^ k then 1 else 0
theorem bw_lo (m n k : Nat) : 0 ≤ bw m n k := by unfold bw; split <;> omega
theorem bw_hi (m n k : Nat) : bw m n k ≤ 1 := by unfold bw; split <;> omega
theorem bw_zero (m n : Nat) : bw m n 0 = 0 := by unfold bw; simp [Nat.mod_one]
theorem sub_step (m n k : Nat) (h : n ≤ m) : ∃ q : Int, dg m k - dg n k - bw m n k = dg (m - n) k + 4294967296 * q ∧ bw m n (k + 1) = - q := by
  unfold dg bw
  rw [Nat.pow_succ]
  have hP := pow_pos32 k
  generalize 4294967296 ^ k = P at *
  rw [Nat.mod_mul, Nat.mod_mul]
  have a1 := Nat.mod_lt m hP
  have a2 := Nat.mod_lt n hP
  have a3 := Nat.div_add_mod m P
  have a4 := Nat.div_add_mod n P
  generalize m % P = mr at *
  generalize n % P = nr at *
  generalize m / P = mq at *
  generalize n / P = nq at *
  subst a3 a4
  have nqm : nq ≤ mq := by
    rcases Nat.lt_or_ge mq nq with hlt | hge
    · have : P * (mq + 1) ≤ P * nq := Nat.mul_le_mul_left P hlt
      rw [Nat.mul_add] at this
      omega
    · exact hge
  have key : ∀ x y : Nat, x < 4294967296 → y < 4294967296 → (mr + P * x < nr + P * y ↔ (x < y ∨ (x = y ∧ mr < nr))) := by
    intro x y _ _
    constructor
    · intro hh
      rcases Nat.lt_trichotomy x y with h1 | h1 | h1
      · exact .inl h1
      · subst h1; exact .inr ⟨rfl, by omega⟩
      · have : P * (y + 1) ≤ P * x := Nat.mul_le_mul_left P h1
        rw [Nat.mul_add] at this
        omega
    · rintro (h1 | ⟨rfl, h1⟩)
      · have : P * (x + 1) ≤ P * y := Nat.mul_le_mul_left P h1
        rw [Nat.mul_add] at this
        omega
      · omega
  have k1 := key (mq % 4294967296) (nq % 4294967296) (by omega) (by omega)
  have ed : (P * mq + mr - (P * nq + nr)) / P = mq - nq - (if mr < nr then 1 else 0) := by
    split
    · rename_i hh
      have hq : nq + 1 ≤ mq := by
        rcases Nat.lt_or_ge nq mq with hlt | hge
        · exact hlt
        · have : nq = mq := by omega
          subst this; omega
      have e1 : P * mq = P * nq + P + P * (mq - nq - 1) := by
        rw [← Nat.mul_succ, ← Nat.mul_add]; congr 1; omega
      rw [show P * mq + mr - (P * nq + nr) = (P + mr - nr) + P * (mq - nq - 1) by omega, Nat.add_mul_div_left _ _ hP, Nat.div_eq_of_lt (by omega)]
      omega
    · rename_i hh
      have e1 : P * mq = P * nq + P * (mq - nq) := by rw [← Nat.mul_add]; congr 1; omega
      rw [show P * mq + mr - (P * nq + nr) = (mr - nr) + P * (mq - nq) by omega, Nat.add_mul_div_left _ _ hP, Nat.div_eq_of_lt (by omega)]
      omega
  rw [ed]
  by_cases c : mr < nr
  · rw [if_pos c, if_pos c]
    have hq : nq + 1 ≤ mq := by
      rcases Nat.lt_or_ge nq mq with hlt | hge
      · exact hlt
      · have : nq = mq := by omega
        subst this; omega
    by_cases d : mr + P * (mq % 4294967296) < nr + P * (nq % 4294967296)
    · rw [if_pos d]; have := k1.1 d; exact ⟨-1, by omega, by omega⟩
    · rw [if_neg d]; have := mt k1.2 d; exact ⟨0, by omega, by omega⟩
  · rw [if_neg c, if_neg c]
    by_cases d : mr + P * (mq % 4294967296) < nr + P * (nq % 4294967296)
    · rw [if_pos d]; have := k1.1 d; exact ⟨-1, by omega, by omega⟩
    · rw [if_neg d]; have := mt k1.2 d; exact ⟨0, by omega, by omega⟩
theorem sub_out (m n k : Nat) (h : n ≤ m) : IntKind.u64.wrap (IntKind.u64.wrap (dg m k - dg n k) - bw m n k) % 4294967296 = dg (m - n) k ∧
    IntKind.u64.wrap (IntKind.u64.wrap (dg m k - dg n k) - bw m n k) / 9223372036854775808 = bw m n (k + 1) := by
  obtain ⟨q, e1, e2⟩ := sub_step m n k h
  have := dg_lo m k; have := dg_hi m k; have := dg_lo n k; have := dg_hi n k; have := bw_lo m n k; have := bw_hi m n k; have := bw_lo m n (k + 1); have := bw_hi m n (k + 1)
  have := dg_lo (m - n) k; have := dg_hi (m - n) k
  simp only [IntKind.wrap_u64]
  omega

/-! Comparing -/
@[irreducible] def B8 : Nat := 4294967296 ^ 8
theorem dg_split (n k : Nat) : (n / 4294967296 ^ k : Nat) = (n / 4294967296 ^ (k + 1)) * 4294967296 + (dg n k).toNat := by
  unfold dg
  rw [Nat.pow_succ, ← Nat.div_div_eq_div_mul]
  omega
theorem less_top (m n : Nat) (hm : m < B8) (hn : n < B8) : m / 4294967296 ^ 8 = n / 4294967296 ^ 8 := by
  unfold B8 at *
  rw [Nat.div_eq_of_lt hm, Nat.div_eq_of_lt hn]
theorem less_ne (m n k : Nat) (h : m / 4294967296 ^ (k + 1) = n / 4294967296 ^ (k + 1)) (hne : dg m k ≠ dg n k) : decide (dg m k < dg n k) = decide (m < n) := by
  have e1 := dg_split m k
  have e2 := dg_split n k
  have l1 := dg_lo m k; have l2 := dg_lo n k
  rw [h] at e1
  rcases Int.lt_or_gt_of_ne hne with hl | hl
  · rw [decide_eq_true hl, decide_eq_true]
    exact Nat.lt_of_not_le fun hle => by
      have := Nat.div_le_div_right (c := 4294967296 ^ k) hle
      omega
  · rw [decide_eq_false (by omega), decide_eq_false]
    intro hlt
    have := Nat.div_le_div_right (c := 4294967296 ^ k) (Nat.le_of_lt hlt)
    omega
theorem less_eq (m n k : Nat) (h : m / 4294967296 ^ (k + 1) = n / 4294967296 ^ (k + 1)) (he : dg m k = dg n k) : m / 4294967296 ^ k = n / 4294967296 ^ k := by
  rw [dg_split m k, dg_split n k, h, he]
theorem less_end (m n : Nat) (h : m / 4294967296 ^ 0 = n / 4294967296 ^ 0) : decide (m < n) = false := by
  simp only [Nat.pow_zero, Nat.div_one] at h
  simp [h]

theorem dg_zero64 (n : Nat) : dg n 0 = ((n % 4294967296 : Nat) : Int) := by unfold dg; simp
theorem dg_one64 (n : Nat) (h : n < 18446744073709551616) : dg n 1 = ((n / 4294967296 : Nat) : Int) := by
  unfold dg; rw [Nat.pow_one, Nat.mod_eq_of_lt (by omega)]
theorem dg_two64 (n : Nat) (h : n < 18446744073709551616) (k : Nat) : dg n (k + 2) = 0 := by
  unfold dg
  rw [Nat.pow_add, Nat.mul_comm, ← Nat.div_div_eq_div_mul, Nat.div_eq_of_lt (a := n) (b := 4294967296 ^ 2) (by omega)]
  simp
theorem A8_of64 (n : Nat) (h : n < 18446744073709551616) (p q : Int) (hp : p = (n : Int) % 4294967296) (hq : q = (n : Int) / 4294967296) :
    Value.agg #[.int .u64 p, .int .u64 q, .int .u64 0, .int .u64 0, .int .u64 0, .int .u64 0, .int .u64 0, .int .u64 0] = A8 n := by
  unfold A8
  rw [dg_zero64, dg_one64 n h, dg_two64 n h 0, dg_two64 n h 1, dg_two64 n h 2, dg_two64 n h 3, dg_two64 n h 4, dg_two64 n h 5, hp, hq]
  rfl
theorem B8_big : 18446744073709551616 < B8 := by unfold B8; decide
/-! Is it 0? -/
theorem zero_step (n k : Nat) (h : n % 4294967296 ^ k = 0) (hd : dg n k = 0) : n % 4294967296 ^ (k + 1) = 0 := by
  unfold dg at hd
  rw [Nat.pow_succ, Nat.mod_mul, h]
  have : n / 4294967296 ^ k % 4294967296 = 0 := by omega
  rw [this]; simp
theorem zero_ne (n k : Nat) (hd : dg n k ≠ 0) : decide (n = 0) = false := by
  refine decide_eq_false fun h => hd ?_
  subst h; unfold dg; simp
theorem zero_end (n : Nat) (hn : n < B8) (h : n % 4294967296 ^ 8 = 0) : decide (n = 0) = true := by
  unfold B8 at hn
  rw [Nat.mod_eq_of_lt hn] at h
  simp [h]

/-! Powers of two, bits -/
theorem pow32 (j : Nat) : 4294967296 ^ j = 2 ^ (32 * j) := by rw [Nat.pow_mul]
theorem pow_dg (k j : Nat) : dg (2 ^ k) j = if j = k / 32 then IntKind.u64.wrap (2 ^ (k % 32)) else 0 := by
  have hl : 2 ^ (k % 32) < 4294967296 := Nat.pow_lt_pow_right (m := k % 32) (n := 32) (a := 2) (by omega) (by omega)
  unfold dg
  rw [pow32]
  split
  · rename_i h
    subst h
    rw [Nat.pow_div (by omega) (by omega), show k - 32 * (k / 32) = k % 32 by omega, Nat.mod_eq_of_lt hl, IntKind.wrap_u64]
    have e : ((2 : Int) ^ (k % 32)) = ((2 ^ (k % 32) : Nat) : Int) := by simp
    rw [e]
    generalize 2 ^ (k % 32) = q at *
    omega
  · rename_i h
    rcases Nat.lt_or_gt_of_ne h with h1 | h1
    · rw [Nat.pow_div (by omega) (by omega), show k - 32 * j = (k - 32 * j - 32) + 32 by omega, Nat.pow_add]
      have : 2 ^ (k - 32 * j - 32) * 2 ^ 32 % 4294967296 = 0 := Nat.mul_mod_left _ _
      rw [this]; rfl
    · rw [Nat.div_eq_of_lt (Nat.pow_lt_pow_right (by omega) (by omega))]
      rfl
theorem pow_row (k j : Nat) : upd (fun _ => 0) (k / 32) (IntKind.u64.wrap (2 ^ (k % 32))) j = dg (2 ^ k) j := by
  rw [pow_dg]; rfl
theorem bit_dg (n k : Nat) : bits .and .u64 (dg n (k / 32) / 2 ^ (k % 32)) 1 = ((n / 2 ^ k % 2 : Nat) : Int) := by
  unfold dg
  rw [pow32]
  have e : (((n / 2 ^ (32 * (k / 32)) % 4294967296 : Nat) : Int) / 2 ^ (k % 32)) = ((n / 2 ^ (32 * (k / 32)) % 4294967296 / 2 ^ (k % 32) : Nat) : Int) := by simp
  rw [e]
  have hb : n / 2 ^ (32 * (k / 32)) % 4294967296 / 2 ^ (k % 32) < 18446744073709551616 := Nat.lt_of_le_of_lt (Nat.div_le_self _ _) (by omega)
  have h := bits_and_u64_nat _ 1 hb (by omega)
  rw [Nat.and_one_is_mod] at h
  refine h.trans ?_
  congr 1
  have hs : (4294967296 : Nat) = 2 ^ (k % 32) * 2 ^ (32 - k % 32) := by rw [← Nat.pow_add, show k % 32 + (32 - k % 32) = 32 by omega]
  rw [hs, Nat.mod_mul_right_div_self, Nat.div_div_eq_div_mul, ← Nat.pow_add, show 32 * (k / 32) + k % 32 = k by omega]
  exact Nat.mod_mod_of_dvd _ ⟨2 ^ (31 - k % 32), by rw [← Nat.pow_succ', show (31 - k % 32).succ = 32 - k % 32 by omega]⟩
theorem or_join (a b : Int) (a0 : 0 ≤ a) (a1 : a ≤ 4294967295) (b0 : 0 ≤ b) (b1 : b ≤ 4294967295) : bits .or .u64 (b * 4294967296) a = b * 4294967296 + a := by
  obtain ⟨a, rfl⟩ := Int.eq_ofNat_of_zero_le a0
  obtain ⟨b, rfl⟩ := Int.eq_ofNat_of_zero_le b0
  have h := bits_or_u64_nat (b * 4294967296) a (by omega) (by omega)
  rw [nat_join 32 (b * 4294967296) a (by omega) (by omega)] at h
  have e : ((b : Int) * 4294967296) = ((b * 4294967296 : Nat) : Int) := by simp
  rw [e]
  exact h.trans (by omega)
theorem two_digits (n : Nat) (h : n < 18446744073709551616) : dg n 1 * 4294967296 + dg n 0 = n := by
  rw [dg_zero64, dg_one64 n h]; omega
theorem A8_up64 (n : Nat) (h : n < 18446744073709551616) :
    Value.agg #[.int .u64 0, .int .u64 0, .int .u64 (dg n 0), .int .u64 (dg n 1), .int .u64 0, .int .u64 0, .int .u64 0, .int .u64 0] = A8 (n * 18446744073709551616) := by
  have up : ∀ k, dg (n * 18446744073709551616) (k + 2) = dg n k := fun k => by
    unfold dg
    rw [Nat.pow_add, Nat.mul_comm (4294967296 ^ k), ← Nat.div_div_eq_div_mul, show (4294967296 : Nat) ^ 2 = 18446744073709551616 by decide, Nat.mul_div_cancel _ (by omega)]
  have e0 : dg (n * 18446744073709551616) 0 = 0 := by unfold dg; rw [Nat.pow_zero, Nat.div_one]; omega
  have e1 : dg (n * 18446744073709551616) 1 = 0 := by unfold dg; rw [Nat.pow_one]; omega
  unfold A8
  rw [e0, e1, up 0, up 1, up 2, up 3, up 4, up 5, dg_two64 n h 0, dg_two64 n h 1, dg_two64 n h 2, dg_two64 n h 3]
theorem B8_val : B8 = 115792089237316195423570985008687907853269984665640564039457584007913129639936 := by unfold B8; decide
end Go.Proofs.Ytahedampmjfoeaa
