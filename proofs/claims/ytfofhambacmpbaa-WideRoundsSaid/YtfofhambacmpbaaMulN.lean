/- The school's way of multiplying numbers written with digits to the base 2 to the 32. Nothing of a program is used. -/
import Derived.Test.YtfofhambacmpbaaNum
namespace Go.Proofs.Ytfofhambacmpbaa

def mP (n m i : Nat) : Nat := n % 4294967296 ^ i * m
def mE (n m i k : Nat) : Nat := mP n m i % 4294967296 ^ (i + k) + (n / 4294967296 ^ i % 4294967296) * (m % 4294967296 ^ k) * 4294967296 ^ i
def mC (n m i k : Nat) : Int := ((mE n m i k / 4294967296 ^ (i + k) : Nat) : Int)
theorem mE_zero (n m i : Nat) : mE n m i 0 = mP n m i % 4294967296 ^ i := by unfold mE; simp [Nat.mod_one]
theorem mC_zero (n m i : Nat) : mC n m i 0 = 0 := by
  unfold mC
  rw [mE_zero, Nat.add_zero, Nat.div_eq_of_lt (Nat.mod_lt _ (pow_pos32 i))]
  rfl
theorem dg_mod (n i j : Nat) (h : j < i) : dg (n % 4294967296 ^ i) j = dg n j := by
  unfold dg
  obtain ⟨d, rfl⟩ : ∃ d, i = j + (d + 1) := ⟨i - j - 1, by omega⟩
  rw [Nat.pow_add, Nat.mod_mul_right_div_self, Nat.pow_succ, Nat.mul_comm (4294967296 ^ d), Nat.mod_mul_right_mod]
theorem dg_congr {n m : Nat} (j : Nat) (hj : j < 8) (h : n % 4294967296 ^ 8 = m % 4294967296 ^ 8) : dg n j = dg m j := by
  rw [← dg_mod n 8 j hj, h, dg_mod m 8 j hj]
theorem mE_succ (n m i k : Nat) : mE n m i (k + 1) = mE n m i k + 4294967296 ^ (i + k) * (mP n m i / 4294967296 ^ (i + k) % 4294967296 + (n / 4294967296 ^ i % 4294967296) * (m / 4294967296 ^ k % 4294967296)) := by
  unfold mE
  rw [show i + (k + 1) = (i + k) + 1 by omega, Nat.pow_succ 4294967296 (i + k), Nat.pow_succ 4294967296 k, Nat.mod_mul, Nat.mod_mul, Nat.pow_add]
  generalize 4294967296 ^ i = P
  generalize 4294967296 ^ k = R
  generalize mP n m i % (P * R) = x
  generalize mP n m i / (P * R) % 4294967296 = y
  generalize n / P % 4294967296 = a
  generalize m % R = z
  generalize m / R % 4294967296 = b
  grind
theorem mC_lt (n m i k : Nat) : mE n m i k / 4294967296 ^ (i + k) < 4294967296 := by
  refine Nat.div_lt_of_lt_mul ?_
  unfold mE
  have hI := pow_pos32 i
  have hK := pow_pos32 k
  have h1 := Nat.mod_lt (mP n m i) (pow_pos32 (i + k))
  have h2 : n / 4294967296 ^ i % 4294967296 ≤ 4294967295 := by omega
  have h3 : m % 4294967296 ^ k + 1 ≤ 4294967296 ^ k := Nat.mod_lt m hK
  rw [Nat.pow_add] at *
  generalize 4294967296 ^ i = P at *
  generalize 4294967296 ^ k = R at *
  generalize mP n m i % (P * R) = x at *
  generalize n / P % 4294967296 = a at *
  generalize m % R = z at *
  have h4 : a * z * P ≤ 4294967295 * z * P := Nat.mul_le_mul_right _ (Nat.mul_le_mul_right _ h2)
  have h5 : (z + 1) * P ≤ R * P := Nat.mul_le_mul_right _ h3
  have h6 : 4294967295 * z * P = 4294967295 * (z * P) := Nat.mul_assoc _ _ _
  have h7 : R * P = P * R := Nat.mul_comm _ _
  rw [Nat.add_mul] at h5
  generalize z * P = zp at *
  generalize P * R = pr at *
  omega
theorem mC_lo (n m i k : Nat) : 0 ≤ mC n m i k := Int.natCast_nonneg _
theorem mC_hi (n m i k : Nat) : mC n m i k ≤ 4294967295 := by have := mC_lt n m i k; unfold mC; omega
theorem mul_step (n m i k : Nat) : (mC n m i k + dg (mP n m i) (i + k) + dg n i * dg m k) % 4294967296 = dg (mE n m i (k + 1)) (i + k) ∧
    (mC n m i k + dg (mP n m i) (i + k) + dg n i * dg m k) / 4294967296 = mC n m i (k + 1) := by
  have e : (mE n m i k / 4294967296 ^ (i + k) + mP n m i / 4294967296 ^ (i + k) % 4294967296 + (n / 4294967296 ^ i % 4294967296) * (m / 4294967296 ^ k % 4294967296)) = mE n m i (k + 1) / 4294967296 ^ (i + k) := by
    rw [mE_succ, Nat.add_mul_div_left _ _ (pow_pos32 _), Nat.add_assoc]
  unfold mC dg
  rw [show i + (k + 1) = (i + k) + 1 by omega, Nat.pow_succ, ← Nat.div_div_eq_div_mul, ← e]
  have e2 : ((n / 4294967296 ^ i % 4294967296 : Nat) : Int) * ((m / 4294967296 ^ k % 4294967296 : Nat) : Int) = (((n / 4294967296 ^ i % 4294967296) * (m / 4294967296 ^ k % 4294967296) : Nat) : Int) := by simp
  rw [e2]
  generalize (n / 4294967296 ^ i % 4294967296) * (m / 4294967296 ^ k % 4294967296) = t
  generalize mE n m i k / 4294967296 ^ (i + k) = c
  generalize mP n m i / 4294967296 ^ (i + k) % 4294967296 = d
  omega
theorem mE_dg (n m i k j : Nat) (h : j < i + k) : dg (mE n m i (k + 1)) j = dg (mE n m i k) j := by
  rw [mE_succ]
  unfold dg
  obtain ⟨d, hd⟩ : ∃ d, i + k = j + (d + 1) := ⟨i + k - j - 1, by omega⟩
  rw [hd, Nat.pow_add, Nat.mul_assoc, Nat.add_mul_div_left _ _ (pow_pos32 j), Nat.pow_succ, Nat.mul_comm (4294967296 ^ d), Nat.mul_assoc, Nat.add_mul_mod_self_left]
/-- What the row holds inside the inner loop. -/
def mRow (n m i k j : Nat) : Int := mix (dg (mE n m i k)) (dg (mP n m i)) (i + k) j
theorem mRow_start (n m i j : Nat) : dg (mP n m i) j = mRow n m i 0 j := by
  unfold mRow mix
  split
  · rename_i h
    rw [mE_zero, dg_mod _ _ _ (by omega)]
  · rfl
theorem mRow_at (n m i k : Nat) : mRow n m i k (i + k) = dg (mP n m i) (i + k) := by unfold mRow; exact mix_at _ _ _
theorem mRow_step (n m i k j : Nat) : upd (mRow n m i k) (i + k) (dg (mE n m i (k + 1)) (i + k)) j = mRow n m i (k + 1) j := by
  unfold mRow upd mix
  by_cases h : j = i + k
  · subst h; rw [if_pos rfl, if_pos (by omega)]
  · rw [if_neg h]
    show (if j < i + k then dg (mE n m i k) j else dg (mP n m i) j) = _
    by_cases h2 : j < i + k
    · rw [if_pos h2, if_pos (by omega), mE_dg _ _ _ _ _ h2]
    · rw [if_neg h2, if_neg (by omega)]
theorem mP_succ (n m i : Nat) : mP n m (i + 1) = mP n m i + 4294967296 ^ i * (n / 4294967296 ^ i % 4294967296) * m := by
  unfold mP
  rw [Nat.pow_succ, Nat.mod_mul, Nat.add_mul]
theorem mRow_end (n m i j : Nat) (hi : i < 8) (hj : j < 8) : mRow n m i (8 - i) j = dg (mP n m (i + 1)) j := by
  unfold mRow mix
  rw [if_pos (by omega)]
  refine dg_congr j hj ?_
  unfold mE
  rw [show i + (8 - i) = 8 by omega, mP_succ]
  have e : 4294967296 ^ i * (n / 4294967296 ^ i % 4294967296) * m = (n / 4294967296 ^ i % 4294967296) * (m % 4294967296 ^ (8 - i)) * 4294967296 ^ i + 4294967296 ^ 8 * ((n / 4294967296 ^ i % 4294967296) * (m / 4294967296 ^ (8 - i))) := by
    have h8 : (4294967296 : Nat) ^ 8 = 4294967296 ^ (8 - i) * 4294967296 ^ i := by rw [← Nat.pow_add]; congr 1; omega
    have hm := Nat.div_add_mod m (4294967296 ^ (8 - i))
    rw [h8]
    generalize 4294967296 ^ (8 - i) = R at *
    generalize 4294967296 ^ i = P at *
    generalize n / P % 4294967296 = a at *
    generalize m % R = z at *
    generalize m / R = q at *
    subst hm
    grind
  rw [e, ← Nat.add_assoc, Nat.add_mul_mod_self_left, Nat.mod_add_mod]
theorem mP_zero (n m j : Nat) : dg (mP n m 0) j = 0 := by unfold mP dg; simp [Nat.mod_one]
theorem mP_all (n m : Nat) (hn : n < B8) : mP n m 8 = n * m := by unfold mP; unfold B8 at hn; rw [Nat.mod_eq_of_lt hn]
end Go.Proofs.Ytfofhambacmpbaa
