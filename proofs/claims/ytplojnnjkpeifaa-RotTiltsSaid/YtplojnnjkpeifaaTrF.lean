/- What the accelerometer feels, turned upright: bounds. Numbers alone. -/
import Derived.Test.YtplojnnjkpeifaaTrD
namespace Go.Proofs.Ytplojnnjkpeifaa.Tr
open Go SX
/-- A vector made of length one: how its squares miss. -/
theorem feel_T {f0 f1 f2 n u0 u1 u2 : Int} (n1 : 16777216 ≤ n) (hs : Nm.Sp n (f0 * f0 + f1 * f1 + f2 * f2)) (h0 : -n ≤ 2 * (n * u0 - f0 * 1073741824) ∧ 2 * (n * u0 - f0 * 1073741824) ≤ n) (h1 : -n ≤ 2 * (n * u1 - f1 * 1073741824) ∧ 2 * (n * u1 - f1 * 1073741824) ≤ n) (h2 : -n ≤ 2 * (n * u2 - f2 * 1073741824) ∧ 2 * (n * u2 - f2 * 1073741824) ≤ n) :
    -70866960800 ≤ u0 * u0 + u1 * u1 + u2 * u2 - 1152921504606846976 ∧ u0 * u0 + u1 * u1 + u2 * u2 - 1152921504606846976 ≤ 70866960800 := by
  have us := Nm.unit_sum (n := n) (K := 1073741824) (rs := [u0, u1, u2]) (qs := [f0, f1, f2]) (by decide) (by omega) ⟨h0, h1, h2, trivial⟩ (show 3 ≤ 4 by decide) (by
    have e : Nm.sq [f0, f1, f2] = f0 * f0 + f1 * f1 + f2 * f2 := by show ((0 + f2 * f2) + f1 * f1) + f0 * f0 = _; omega
    rw [e]; exact hs)
  have e : Nm.sq [u0, u1, u2] = u0 * u0 + u1 * u1 + u2 * u2 := by show ((0 + u2 * u2) + u1 * u1) + u0 * u0 = _; omega
  rw [e] at us
  generalize u0 * u0 + u1 * u1 + u2 * u2 = q at *
  constructor
  · refine Int.not_lt.1 fun hc => ?_
    have k := Int.mul_le_mul_of_nonneg_left (show q - 1073741824 * 1073741824 ≤ -70866960801 by omega) (show 0 ≤ n by omega)
    generalize n * (q - 1073741824 * 1073741824) = a at *
    omega
  · refine Int.not_lt.1 fun hc => ?_
    have k := Int.mul_le_mul_of_nonneg_left (show 70866960801 ≤ q - 1073741824 * 1073741824 by omega) (show 0 ≤ n by omega)
    generalize n * (q - 1073741824 * 1073741824) = a at *
    omega
/-- Nearly upright, yet not quite: what lies across is not small. -/
theorem cross_T {f0 f1 f2 n u0 u1 u2 : Int} (n1 : 16777216 ≤ n) (hs : Nm.Sp n (f0 * f0 + f1 * f1 + f2 * f2)) (h0 : -n ≤ 2 * (n * u0 - f0 * 1073741824) ∧ 2 * (n * u0 - f0 * 1073741824) ≤ n) (h1 : -n ≤ 2 * (n * u1 - f1 * 1073741824) ∧ 2 * (n * u1 - f1 * 1073741824) ≤ n) (h2 : -n ≤ 2 * (n * u2 - f2 * 1073741824) ∧ 2 * (n * u2 - f2 * 1073741824) ≤ n)
    (a1 : 17 ≤ 1073741824 - u2) (a2 : 1073741824 - u2 ≤ 34) : 1000000000 ≤ u0 * u0 + u1 * u1 := by
  have lo : n * n - n < f0 * f0 + f1 * f1 + f2 * f2 := by rcases hs.lo with h | h <;> omega
  obtain ⟨j, hj⟩ : ∃ j, f2 = n - j := ⟨n - f2, by omega⟩
  -- n - f2 is about n (2^30 - u2) / 2^30
  have e2 : n * u2 - f2 * 1073741824 = 1073741824 * j - n * (1073741824 - u2) := by rw [hj]; grind
  rw [e2] at h2
  have p1 := Int.mul_le_mul_of_nonneg_left a1 (show 0 ≤ n by omega)
  have p2 := Int.mul_le_mul_of_nonneg_left a2 (show 0 ≤ n by omega)
  have j1 : 1 ≤ j := by omega
  have j2 : 16 * n ≤ 1073741824 * j := by omega
  have j3 : 16777216 * j ≤ n := by omega
  have g : n * j ≤ 2 * (f0 * f0 + f1 * f1) := by
    have e : f2 * f2 = n * n - 2 * (n * j) + j * j := by rw [hj]; grind
    have q2 : n * 1 ≤ n * j := Int.mul_le_mul_of_nonneg_left j1 (by omega)
    have q3 := Int.mul_nonneg (show 0 ≤ j by omega) (show 0 ≤ n - 16777216 * j by omega)
    have e3 : j * (n - 16777216 * j) = n * j - 16777216 * (j * j) := by grind
    have q4 := Nm.sqnn j
    omega
  have S : ∀ {u f : Int}, -n ≤ 2 * (n * u - f * 1073741824) ∧ 2 * (n * u - f * 1073741824) ≤ n → 4611686018427387904 * (f * f) - 2 * (n * n) ≤ 8 * (n * n * (u * u)) := fun {u f} h => by
    obtain ⟨d, hd⟩ : ∃ d, 2 * (n * u) = 2147483648 * f + d := ⟨2 * (n * u) - 2147483648 * f, by omega⟩
    have k := bil (u := d) (d := d) (B := n) (S := n) (by omega) (by omega) (by omega) (by omega)
    have q := Nm.sqnn (2147483648 * f + 2 * d)
    have e : 8 * (n * n * (u * u)) = 4611686018427387904 * (f * f) - 2 * (d * d) + (2147483648 * f + 2 * d) * (2147483648 * f + 2 * d) := by
      have e1 : 8 * (n * n * (u * u)) = 2 * (2 * (n * u)) * (2 * (n * u)) := by grind
      rw [e1, hd]; grind
    omega
  have s0 := S h0
  have s1 := S h1
  have nj := Int.mul_le_mul_of_nonneg_left j2 (show 0 ≤ n by omega)
  have e4 : n * (16 * n) = 16 * (n * n) := by grind
  have e5 : n * (1073741824 * j) = 1073741824 * (n * j) := by grind
  have nn : 0 < n * n := Int.mul_pos (by omega) (by omega)
  refine Int.not_lt.1 fun hc => ?_
  have k := Int.mul_le_mul_of_nonneg_left (show u0 * u0 + u1 * u1 ≤ 999999999 by omega) (Int.le_of_lt nn)
  have e6 : n * n * (u0 * u0 + u1 * u1) = n * n * (u0 * u0) + n * n * (u1 * u1) := by grind
  omega
/-- The angle that is missed, in units. -/
theorem miss_T {a κ Ls : Int} (a1 : 17 ≤ a) (a2 : a ≤ 2147483700) (k1 : -70866960800 ≤ κ) (hk : Ls = 2147483648 * a + κ) (h34 : a ≤ 34 → 1000000000 ≤ Ls) : -κ * a ≤ 3800 * Ls := by
  rcases Int.lt_or_le κ 0 with h | h
  · have p := bil (u := -κ) (B := 70866960800) (by omega) (by omega) (d := a) (S := a) (by omega) (by omega)
    rcases Int.lt_or_le a 35 with h' | h'
    · have := h34 (by omega)
      omega
    · omega
  · have p := Int.mul_nonneg h (show 0 ≤ a by omega)
    have e : -κ * a = -(κ * a) := by grind
    omega
end Go.Proofs.Ytplojnnjkpeifaa.Tr
