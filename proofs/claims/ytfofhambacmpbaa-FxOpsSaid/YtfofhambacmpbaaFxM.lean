/- Whole numbers: quotients that come out even; rounding keeps order. Nothing of a program is used. -/
import Derived.Test.YtfofhambacmpbaaFxG
namespace Go.Proofs.Ytfofhambacmpbaa
theorem dq_even (n D : Nat) (hD : 0 < D) : dq (n * D) D = n := by
  unfold dq
  rw [Nat.mul_mod_left, Nat.mul_div_cancel _ hD, if_neg (by omega)]
  rfl
theorem divZ_even (q d : Int) (hd : d ≠ 0) : divZ (q * d) d = q := by
  rw [divZ_sign, Int.natAbs_mul, dq_even _ _ (by omega)]
  unfold withSign
  by_cases hq : q < 0
  · by_cases h : d < 0
    · have := Int.mul_pos_of_neg_of_neg hq h
      rw [decide_eq_false (by omega : ¬ q * d < 0), decide_eq_true h]
      simp; omega
    · have := Int.mul_neg_of_neg_of_pos hq (by omega : 0 < d)
      rw [decide_eq_true this, decide_eq_false h]
      simp; omega
  · by_cases hq0 : q = 0
    · subst hq0; simp
    · by_cases h : d < 0
      · have := Int.mul_neg_of_pos_of_neg (by omega : 0 < q) h
        rw [decide_eq_true this, decide_eq_true h]
        simp; omega
      · have := Int.mul_pos (by omega : 0 < q) (by omega : 0 < d)
        rw [decide_eq_false (by omega : ¬ q * d < 0), decide_eq_false h]
        simp; omega
theorem rq_up (n s j : Nat) : rq (n * 2 ^ j) (s + j) = rq n s := by
  unfold rq
  have hp : 0 < 2 ^ j := Nat.pow_pos (by omega)
  rcases Nat.eq_zero_or_pos s with h | h
  · subst h
    have h0 : halfOf 0 = 0 := rfl
    rw [h0, Nat.add_zero, Nat.pow_zero, Nat.div_one, Nat.zero_add]
    unfold halfOf
    split
    · rename_i hj; subst hj; simp
    · rename_i hj
      have h1 : 2 ^ (j - 1) < 2 ^ j := Nat.pow_lt_pow_right (by omega) (by omega)
      rw [Nat.mul_comm, Nat.mul_add_div hp, Nat.div_eq_of_lt h1]
      omega
  · have h1 : halfOf (s + j) = halfOf s * 2 ^ j := by
      unfold halfOf
      rw [if_neg (by omega), if_neg (by omega), ← Nat.pow_add]
      congr 1
      omega
    rw [h1, ← Nat.add_mul, Nat.pow_add]
    exact Nat.mul_div_mul_right _ _ hp
theorem rnd_up (v : Int) (s j : Nat) : rnd (v * 2 ^ j) (s + j) = rnd v s := by
  have e : ((2 : Int) ^ j) = ((2 ^ j : Nat) : Int) := by simp
  have hp : 0 < 2 ^ j := Nat.pow_pos (by omega)
  have h1 : (v * ((2 ^ j : Nat) : Int)).natAbs = v.natAbs * 2 ^ j := by rw [Int.natAbs_mul]; rfl
  have h2 : v * ((2 ^ j : Nat) : Int) < 0 ↔ v < 0 := by
    constructor
    · intro h
      by_cases h3 : v < 0
      · exact h3
      · have := Int.mul_nonneg (Int.not_lt.1 h3) (Int.natCast_nonneg (2 ^ j)); omega
    · intro h
      exact Int.mul_neg_of_neg_of_pos h (by omega)
  unfold rnd
  rw [e, h1, rq_up, show decide (v * ((2 ^ j : Nat) : Int) < 0) = decide (v < 0) from decide_eq_decide.2 h2]
theorem rq_mono {m n : Nat} (s : Nat) (h : m ≤ n) : rq m s ≤ rq n s := by
  unfold rq
  exact Nat.div_le_div_right (by omega)
theorem rnd_mono {u v : Int} (s : Nat) (h : u ≤ v) : rnd u s ≤ rnd v s := by
  unfold rnd withSign
  by_cases hu : u < 0
  · by_cases hv : v < 0
    · have := rq_mono s (show v.natAbs ≤ u.natAbs by omega)
      simp [hu, hv]; omega
    · simp [hu, hv] <;> omega
  · have hv : ¬ v < 0 := by omega
    have := rq_mono s (show u.natAbs ≤ v.natAbs by omega)
    simp [hu, hv]; omega
theorem rq_le' (n s : Nat) : rq n s ≤ n := by
  unfold rq halfOf
  split
  · rename_i h; subst h; simp
  · rename_i h
    rcases Nat.eq_zero_or_pos n with h0 | h0
    · subst h0
      rw [Nat.zero_add, Nat.div_eq_of_lt (Nat.pow_lt_pow_right (by omega) (by omega))]
      omega
    · have h2 : 2 ^ s = 2 * 2 ^ (s - 1) := by rw [← Nat.pow_succ']; congr 1; omega
      refine Nat.div_le_of_le_mul ?_
      rw [h2]
      have : 1 ≤ 2 ^ (s - 1) := Nat.pow_pos (by omega)
      generalize 2 ^ (s - 1) = q at *
      have : q ≤ n * q := Nat.le_mul_of_pos_left q h0
      have : n ≤ n * q := Nat.le_mul_of_pos_right n (by omega)
      have e : 2 * q * n = n * q + n * q := by rw [Nat.mul_assoc, Nat.mul_comm q n]; omega
      omega
theorem rnd_within {v k : Int} (s : Nat) (h1 : -k ≤ v) (h2 : v ≤ k) : -k ≤ rnd v s ∧ rnd v s ≤ k := by
  have h := rq_le' v.natAbs s
  unfold rnd withSign
  by_cases hv : v < 0 <;> simp [hv] <;> omega
theorem rnd_neg (v : Int) (s : Nat) : rnd (-v) s = -rnd v s := by
  unfold rnd withSign
  rw [Int.natAbs_neg]
  rcases Int.lt_trichotomy v 0 with h | h | h
  · rw [decide_eq_true h, decide_eq_false (by omega : ¬ -v < 0)]
    simp
  · subst h; simp [rq_zero]
  · rw [decide_eq_false (by omega : ¬ v < 0), decide_eq_true (by omega : -v < 0)]
    simp
end Go.Proofs.Ytfofhambacmpbaa
