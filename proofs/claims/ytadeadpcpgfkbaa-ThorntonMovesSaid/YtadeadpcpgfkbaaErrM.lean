/- A place carried on by its velocity: the numbers alone. Nothing of a program is used. -/
import Derived.Test.YtadeadpcpgfkbaaERR
namespace Go.Proofs.Ytadeadpcpgfkbaa.EA
open Go.RowKit

theorem sqm_le {m dt a b s : Int} (ha : 1073741824 ≤ a ∧ a ≤ 281474976710656) (hb : 1073741824 ≤ b) (hm0 : 0 ≤ m) (hma : m ≤ a)
    (hm : 1073741824 * m ≤ dt * a + 536870912) (hs : dt * m ≤ 1073741824 * s + 536870912) : m * m ≤ a * (b + s) := by
  have h1 : m * (1073741824 * m) ≤ m * (dt * a + 536870912) := Int.mul_le_mul_of_nonneg_left hm hm0
  have h2 : a * (dt * m) ≤ a * (1073741824 * s + 536870912) := Int.mul_le_mul_of_nonneg_left hs (by omega)
  have h3 : a * 1073741824 ≤ a * b := Int.mul_le_mul_of_nonneg_left hb (by omega)
  have e1 : m * (1073741824 * m) = 1073741824 * (m * m) := by grind
  have e2 : m * (dt * a + 536870912) = a * (dt * m) + 536870912 * m := by grind
  have e3 : a * (1073741824 * s + 536870912) = 1073741824 * (a * s) + 536870912 * a := by grind
  have e4 : a * (b + s) = a * b + a * s := by grind
  rw [e4]
  rw [e1, e2] at h1
  rw [e3] at h2
  generalize m * m = mm at *
  generalize a * (dt * m) = x at *
  generalize a * s = y at *
  generalize a * b = z at *
  omega
/-- The number u is at most 2^39. -/
theorem mu_le {m a d u : Int} (ha : a ≤ 281474976710656) (hd : 1073741824 ≤ d) (hm0 : 0 ≤ m) (hmm : m * m ≤ a * d)
    (hu : -d ≤ 2 * (u * d - 1073741824 * m) ∧ 2 * (u * d - 1073741824 * m) ≤ d) : 0 ≤ u ∧ u ≤ 549755813888 := by
  constructor
  · rcases (show u ≤ -1 ∨ 0 ≤ u by omega) with h | h
    · exfalso
      have : u * d ≤ -1 * d := Int.mul_le_mul_of_nonneg_right h (by omega)
      omega
    · exact h
  · rcases (show 549755813889 ≤ u ∨ u ≤ 549755813888 by omega) with h | h
    · exfalso
      have h1 : 549755813889 * d ≤ u * d := Int.mul_le_mul_of_nonneg_right h (by omega)
      have h2 : 512 * d + 1 ≤ m := by omega
      have h3 : (512 * d + 1) * (512 * d + 1) ≤ m * m := Int.mul_le_mul h2 h2 (by omega) (by omega)
      have h4 : a * d ≤ 281474976710656 * d := Int.mul_le_mul_of_nonneg_right ha (by omega)
      have h5 : 1073741824 * d ≤ d * d := Int.mul_le_mul_of_nonneg_right hd (by omega)
      have e1 : (512 * d + 1) * (512 * d + 1) = 262144 * (d * d) + 1024 * d + 1 := by grind
      rw [e1] at h3
      generalize d * d = dd at *
      generalize m * m = mm at *
      generalize a * d = ad at *
      omega
    · exact h
theorem mv_id (H a b dt m s u v y4 y7 V w t : Int) : H * H * H * H * (t - a) =
    2 * H * H * (u * (u * (b + s) - H * m)) + 2 * H * H * (u * (H * m - dt * a)) - H * (u * u * (H * s - dt * m)) - u * u * dt * (H * m - dt * a) - 2 * H * ((H - v) * a * (H * v - u * dt)) - a * ((H * v - u * dt) * (H * v - u * dt))
    + H * H * ((H - v) * (H * y4 - (H - v) * a)) + H * H * (u * (H * y7 - u * b)) + H * H * H * (H * V - ((H - v) * y4 + u * y7)) + H * H * (u * (H * w - u * (b + s))) + H * H * H * (H * t - (H * V + u * w)) := by grind
/-- The sum that the place's own variance is: near a. -/
theorem mv_near {a b dt m s u v y4 y7 V w t : Int} (ha : 1073741824 ≤ a ∧ a ≤ 281474976710656) (hb : 1073741824 ≤ b ∧ b ≤ 281474976710656) (ht : 0 ≤ dt ∧ dt ≤ 1073741824)
    (hm0 : 0 ≤ m) (hma : m ≤ a) (_ : 0 ≤ s) (hsa : s ≤ a)
    (hm : -536870912 ≤ 1073741824 * m - dt * a ∧ 1073741824 * m - dt * a ≤ 536870912) (hs : -536870912 ≤ 1073741824 * s - dt * m ∧ 1073741824 * s - dt * m ≤ 536870912)
    (hu : -(b + s) ≤ 2 * (u * (b + s) - 1073741824 * m) ∧ 2 * (u * (b + s) - 1073741824 * m) ≤ b + s)
    (hu0 : 0 ≤ u ∧ u ≤ 549755813888)
    (hv : -536870912 ≤ 1073741824 * v - u * dt ∧ 1073741824 * v - u * dt ≤ 536870912) (hzb : -2 ≤ 1073741824 - v ∧ 1073741824 - v ≤ 1073741824)
    (h4 : -536870912 ≤ 1073741824 * y4 - (1073741824 - v) * a ∧ 1073741824 * y4 - (1073741824 - v) * a ≤ 536870912) (h7 : -536870912 ≤ 1073741824 * y7 - u * b ∧ 1073741824 * y7 - u * b ≤ 536870912)
    (hV : -536870912 ≤ 1073741824 * V - ((1073741824 - v) * y4 + u * y7) ∧ 1073741824 * V - ((1073741824 - v) * y4 + u * y7) ≤ 536870912)
    (hw : -536870912 ≤ 1073741824 * w - u * (b + s) ∧ 1073741824 * w - u * (b + s) ≤ 536870912)
    (htt : -536870912 ≤ 1073741824 * t - (1073741824 * V + u * w) ∧ 1073741824 * t - (1073741824 * V + u * w) ≤ 536870912) : -4194304 ≤ t - a ∧ t - a ≤ 4194304 := by
  have key := mv_id 1073741824 a b dt m s u v y4 y7 V w t
  have hd0 : u * (u * (b + s) - 1073741824 * m) * 2 = u * (2 * (u * (b + s) - 1073741824 * m)) := by grind
  have q1 : -(u * (b + s)) ≤ u * (2 * (u * (b + s) - 1073741824 * m)) ∧ u * (2 * (u * (b + s) - 1073741824 * m)) ≤ u * (b + s) := by
    have a1 := Int.mul_le_mul_of_nonneg_left hu.1 hu0.1
    have a2 := Int.mul_le_mul_of_nonneg_left hu.2 hu0.1
    rw [Int.mul_neg] at a1
    exact ⟨a1, a2⟩
  have huu : 0 ≤ u * u ∧ u * u ≤ 302231454903657293676544 := ⟨Int.mul_nonneg hu0.1 hu0.1, Int.mul_le_mul hu0.2 hu0.2 hu0.1 (by omega)⟩
  have q2 := mul_bd (a := u) (A := 549755813888) (by omega) hm
  have q3 := mul_bd (a := u * u) (A := 302231454903657293676544) (by omega) hs
  have q4 := mul_bd (mul_bd (a := u * u) (b := dt) (A := 302231454903657293676544) (B := 1073741824) (by omega) (by omega)) hm
  have q5 := mul_bd (mul_bd (a := 1073741824 - v) (b := a) (A := 1073741824) (B := 281474976710656) (by omega) (by omega)) hv
  have q6 := mul_bd (a := a) (A := 281474976710656) (by omega) (mul_bd hv hv)
  have q7 := mul_bd (a := 1073741824 - v) (A := 1073741824) (by omega) h4
  have q8 := mul_bd (a := u) (A := 549755813888) (by omega) h7
  have q9 := mul_bd (a := u) (A := 549755813888) (by omega) hw
  generalize u * (2 * (u * (b + s) - 1073741824 * m)) = p1' at *
  generalize u * (u * (b + s) - 1073741824 * m) = p1 at *
  generalize u * (1073741824 * m - dt * a) = p2 at *
  generalize u * u * (1073741824 * s - dt * m) = p3 at *
  generalize u * u * dt * (1073741824 * m - dt * a) = p4 at *
  generalize (1073741824 - v) * a * (1073741824 * v - u * dt) = p5 at *
  generalize a * ((1073741824 * v - u * dt) * (1073741824 * v - u * dt)) = p6 at *
  generalize (1073741824 - v) * (1073741824 * y4 - (1073741824 - v) * a) = p7 at *
  generalize u * (1073741824 * y7 - u * b) = p8 at *
  generalize u * (1073741824 * w - u * (b + s)) = p9 at *
  generalize 1073741824 * V - ((1073741824 - v) * y4 + u * y7) = p10 at *
  generalize 1073741824 * t - (1073741824 * V + u * w) = p11 at *
  generalize u * (b + s) = ub at *
  clear hv h4 h7 hw hm hs huu
  omega
end Go.Proofs.Ytadeadpcpgfkbaa.EA
