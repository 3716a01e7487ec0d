/- Quotients and roots, rounded. Nothing of a program is used. -/
import Derived.Test.YtahedampmjfoeaaWnum
namespace Go.Proofs.Ytahedampmjfoeaa

def dq (n D : Nat) : Nat := n / D + (if D ≤ 2 * (n % D) then 1 else 0)

/-! The root, by steps from above -/
def isq : Nat → Nat
  | 0 => 0
  | n + 1 => if (isq n + 1) * (isq n + 1) ≤ n + 1 then isq n + 1 else isq n
theorem isq_spec : ∀ n, isq n * isq n ≤ n ∧ n < (isq n + 1) * (isq n + 1)
  | 0 => by simp [isq]
  | n + 1 => by
    obtain ⟨h1, h2⟩ := isq_spec n
    unfold isq
    split
    · rename_i h
      refine ⟨h, ?_⟩
      have : (isq n + 1 + 1) * (isq n + 1 + 1) = (isq n + 1) * (isq n + 1) + 2 * (isq n + 1) + 1 := by grind
      omega
    · rename_i h
      exact ⟨by omega, by omega⟩
theorem isq_uniq {n r : Nat} (h1 : r * r ≤ n) (h2 : n < (r + 1) * (r + 1)) : r = isq n := by
  obtain ⟨g1, g2⟩ := isq_spec n
  rcases Nat.lt_trichotomy r (isq n) with h | h | h
  · have := Nat.mul_le_mul (show r + 1 ≤ isq n from h) (show r + 1 ≤ isq n from h)
    omega
  · exact h
  · have := Nat.mul_le_mul (show isq n + 1 ≤ r from h) (show isq n + 1 ≤ r from h)
    omega
theorem isq_le {n x : Nat} (h : n < (x + 1) * (x + 1)) : isq n ≤ x := by
  obtain ⟨g1, _⟩ := isq_spec n
  rcases Nat.lt_or_ge x (isq n) with h2 | h2
  · have := Nat.mul_le_mul (show x + 1 ≤ isq n from h2) (show x + 1 ≤ isq n from h2)
    omega
  · exact h2
theorem newton_end {n x : Nat} (hx : 0 < x) (h : isq n ≤ x) (hq : x ≤ n / x) : x = isq n := by
  refine isq_uniq ((Nat.le_div_iff_mul_le hx).1 hq) ?_
  obtain ⟨_, g2⟩ := isq_spec n
  exact Nat.lt_of_lt_of_le g2 (Nat.mul_le_mul (by omega) (by omega))
theorem newton_step {n x : Nat} (hx : 0 < x) : isq n ≤ (x + n / x) / 2 := by
  obtain ⟨g1, _⟩ := isq_spec n
  generalize isq n = r at *
  rw [Nat.le_div_iff_mul_le (by omega)]
  have hz := Nat.zero_le (n / x)
  generalize hQ : n / x = Q at *
  rcases Nat.lt_or_ge (2 * r) x with h | h
  · omega
  · have h1 : 2 * r - x ≤ Q := by
      rw [← hQ, Nat.le_div_iff_mul_le hx]
      refine Nat.le_trans ?_ g1
      obtain ⟨k, hk⟩ : ∃ k, 2 * r = x + k := ⟨2 * r - x, by omega⟩
      rw [hk, Nat.add_sub_cancel_left]
      have e4 : 4 * (k * x) ≤ (x + k) * (x + k) := by
        rcases Nat.le_total x k with hh | hh
        · obtain ⟨d, rfl⟩ : ∃ d, k = x + d := ⟨k - x, by omega⟩
          have : (x + (x + d)) * (x + (x + d)) = 4 * ((x + d) * x) + d * d := by grind
          omega
        · obtain ⟨d, rfl⟩ : ∃ d, x = k + d := ⟨x - k, by omega⟩
          have : (k + d + k) * (k + d + k) = 4 * (k * (k + d)) + d * d := by grind
          omega
      have e5 : (x + k) * (x + k) = 4 * (r * r) := by rw [← hk]; grind
      omega
    omega
/-- What Div64 asks of its divisor. -/
theorem newton_room {n x : Nat} (hn : n < 85070591730234615865843651857942052864) (h : isq n ≤ x) (hx : 0 < x) : n / 18446744073709551616 < x := by
  obtain ⟨g1, g2⟩ := isq_spec n
  have h1 := Nat.mul_le_mul (show isq n + 1 ≤ x + 1 by omega) (show isq n + 1 ≤ x + 1 by omega)
  rw [Nat.div_lt_iff_lt_mul (by omega)]
  rcases Nat.lt_or_ge x 9223372036854775808 with h2 | h2
  · have h3 : (x + 1) * (x + 1) = x * (x + 2) + 1 := by grind
    have h4 : x * (x + 2) ≤ x * 9223372036854775810 := Nat.mul_le_mul_left _ (by omega)
    omega
  · omega
end Go.Proofs.Ytahedampmjfoeaa
