/- Half a rotation twice. Numbers alone. -/
import Derived.Test.YtbpccdagmaiblaaTrV
namespace Go.Proofs.Ytbpccdagmaiblaa.Tr
open Go SX
/-- Lengths of a vector and of its double. -/
theorem len_double {n m P : Int} (h1 : Nm.Sp n P) (h2 : Nm.Sp m (4 * P)) (n0 : 1 ≤ n) : -1 ≤ m - 2 * n ∧ m - 2 * n ≤ 1 := by
  have l1 : n * n - n < P := by rcases h1.lo with h | h <;> omega
  have u1 := h1.hi
  have u2 := h2.hi
  have m0 := h2.nn
  constructor
  · refine Int.not_lt.1 fun hc => ?_
    have k := Int.mul_le_mul (show m ≤ 2 * n - 2 by omega) (show m ≤ 2 * n - 2 by omega) m0 (by omega)
    have e : (2 * n - 2) * (2 * n - 2) = 4 * (n * n) - 8 * n + 4 := by grind
    omega
  · refine Int.not_lt.1 fun hc => ?_
    rcases h2.lo with h | h
    · omega
    · have k := Int.mul_le_mul (show 2 * n + 2 ≤ m by omega) (show 2 * n + 1 ≤ m - 1 by omega) (by omega) (by omega)
      have e : (2 * n + 2) * (2 * n + 1) = 4 * (n * n) + 6 * n + 2 := by grind
      have e2 : m * (m - 1) = m * m - m := by grind
      omega
theorem tiny {d : Int} (d1 : -2 ≤ d) (d2 : d ≤ 2) : (-32770 ≤ sT d ∧ sT d ≤ 32770) ∧ (17592186044406 ≤ cT d ∧ cT d ≤ 17592186044416) := by
  rcases (show d = -2 ∨ d = -1 ∨ d = 0 ∨ d = 1 ∨ d = 2 by omega) with h | h | h | h | h <;> subst h
  · have e : sT (-2) = -32769 ∨ sT (-2) = -32768 := by decide +kernel
    have e2 : 17592186044406 ≤ cT (-2) ∧ cT (-2) ≤ 17592186044416 := by decide +kernel
    omega
  · have e : sT (-1) = -16385 ∨ sT (-1) = -16384 := by decide +kernel
    have e2 : 17592186044406 ≤ cT (-1) ∧ cT (-1) ≤ 17592186044416 := by decide +kernel
    omega
  · have e : sT 0 = 0 := by decide +kernel
    have e2 : 17592186044406 ≤ cT 0 ∧ cT 0 ≤ 17592186044416 := by decide +kernel
    omega
  · have e : 16382 ≤ sT 1 ∧ sT 1 ≤ 16384 := by decide +kernel
    have e2 : 17592186044406 ≤ cT 1 ∧ cT 1 ≤ 17592186044416 := by decide +kernel
    omega
  · have e : 32766 ≤ sT 2 ∧ sT 2 ≤ 32768 := by decide +kernel
    have e2 : 17592186044406 ≤ cT 2 ∧ cT 2 ≤ 17592186044416 := by decide +kernel
    omega
/-- Angles two apart. -/
theorem shift2 {x y : Int} (x1 : -3373259420 ≤ x) (x2 : x ≤ 3373259420) (h1 : -2 ≤ y - x) (h2 : y - x ≤ 2) : (-32800 ≤ sT y - sT x ∧ sT y - sT x ≤ 32800) ∧ (-32800 ≤ cT y - cT x ∧ cT y - cT x ≤ 32800) := by
  have t := tiny h1 h2
  have b1 := sT_in (x := x) (by omega) (by omega)
  have b2 := cT_in (x := x) (by omega) (by omega)
  have k1 := sum_s (x := x) (y := y - x) (by omega) (by omega) (by omega) (by omega)
  have k2 := sum_c (x := x) (y := y - x) (by omega) (by omega) (by omega) (by omega)
  rw [show x + (y - x) = y by omega] at k1 k2
  have p1 := bil (u := sT x) (B := 17592186044418) (by omega) (by omega) (d := cT (y - x) - 17592186044416) (S := 10) (by omega) (by omega)
  have p2 := bil (u := cT x) (B := 17592186044418) (by omega) (by omega) t.1.1 t.1.2
  have p3 := bil (u := cT x) (B := 17592186044418) (by omega) (by omega) (d := cT (y - x) - 17592186044416) (S := 10) (by omega) (by omega)
  have p4 := bil (u := sT x) (B := 17592186044418) (by omega) (by omega) t.1.1 t.1.2
  have i1 : sT x * (cT (y - x) - 17592186044416) = sT x * cT (y - x) - 17592186044416 * sT x := by grind
  have i2 : cT x * (cT (y - x) - 17592186044416) = cT x * cT (y - x) - 17592186044416 * cT x := by grind
  rw [i1] at p1
  rw [i2] at p3
  omega
theorem sq_step {r c : Int} (h1 : -24 ≤ r - c) (h2 : r - c ≤ 24) (c1 : -1073743000 ≤ c) (c2 : c ≤ 1073743000) : -51539664576 ≤ r * r - c * c ∧ r * r - c * c ≤ 51539664576 := by
  have k := bil (u := r + c) (B := 2147486024) (by omega) (by omega) h1 h2
  have e : (r + c) * (r - c) = r * r - c * c := by grind
  rw [e] at k
  omega
theorem mul_step {r c s v : Int} (h1 : -24 ≤ r - c) (h2 : r - c ≤ 24) (h3 : -24 ≤ s - v) (h4 : s - v ≤ 24) (c1 : -1073743000 ≤ c) (c2 : c ≤ 1073743000) (v1 : -1073743000 ≤ v) (v2 : v ≤ 1073743000) : -51539664576 ≤ r * s - c * v ∧ r * s - c * v ≤ 51539664576 := by
  have k1 := bil (u := r) (B := 1073743024) (by omega) (by omega) h3 h4
  have k2 := bil (u := v) v1 v2 h1 h2
  have e : r * s - c * v = r * (s - v) + v * (r - c) := by grind
  rw [e]
  omega
/-- One of the axis's numbers of the product. -/
theorem twice_c {n p S2 a r0 r c v s : Int} (n0 : 1 ≤ n) (p1 : -n ≤ p) (p2 : p ≤ n) (a1 : -536870912 ≤ 1073741824 * a - 2 * (r0 * r)) (a2 : 1073741824 * a - 2 * (r0 * r) ≤ 536870912)
    (h1 : -24 ≤ r0 - c ∧ r0 - c ≤ 24) (h2 : -24 ≤ r - v ∧ r - v ≤ 24) (c1 : -1073743000 ≤ c) (c2 : c ≤ 1073743000) (v1 : -1073743000 ≤ v) (v2 : v ≤ 1073743000)
    (hv : -(2 * n) ≤ n * v - p * s ∧ n * v - p * s ≤ 2 * n) (g1 : -2574000000000000000 ≤ 17592186044416 * S2 - 536870912 * (c * s)) (g2 : 17592186044416 * S2 - 536870912 * (c * s) ≤ 2574000000000000000) :
    -(n * 1801500) ≤ n * (16384 * a) - p * S2 ∧ n * (16384 * a) - p * S2 ≤ n * 1801500 := by
  have m := mul_step h1.1 h1.2 h2.1 h2.2 c1 c2 v1 v2
  have k1 := bil (u := n) (B := n) (by omega) (by omega) a1 a2
  have k2 := bil (u := n) (B := n) (by omega) (by omega) m.1 m.2
  have k3 := bil c1 c2 hv.1 hv.2
  have k4 := bil p1 p2 g1 g2
  have e : 17592186044416 * (n * (16384 * a) - p * S2) = 268435456 * (n * (1073741824 * a - 2 * (r0 * r))) + 536870912 * (n * (r0 * r - c * v)) + 536870912 * (c * (n * v - p * s)) - p * (17592186044416 * S2 - 536870912 * (c * s)) := by grind
  generalize n * (1073741824 * a - 2 * (r0 * r)) = q1 at *
  generalize n * (r0 * r - c * v) = q2 at *
  generalize c * (n * v - p * s) = q3 at *
  generalize p * (17592186044416 * S2 - 536870912 * (c * s)) = q4 at *
  generalize n * (16384 * a) - p * S2 = X at *
  omega
theorem once_c {n p S2 R V s : Int} (n0 : 1 ≤ n) (p1 : -n ≤ 2 * p) (p2 : 2 * p ≤ n) (h : -24 ≤ R - V ∧ R - V ≤ 24) (hv : -(2 * n) ≤ n * V - 2 * p * s ∧ n * V - 2 * p * s ≤ 2 * n) (g1 : -69400 ≤ 16384 * s - S2) (g2 : 16384 * s - S2 ≤ 69400) :
    -(n * 495500) ≤ n * (16384 * R) - 2 * p * S2 ∧ n * (16384 * R) - 2 * p * S2 ≤ n * 495500 := by
  have k1 := bil (u := n) (B := n) (by omega) (by omega) h.1 h.2
  have k2 := bil (u := 2 * p) p1 p2 g1 g2
  have e : n * (16384 * R) - 2 * p * S2 = 16384 * (n * (R - V)) + 16384 * (n * V - 2 * p * s) + 2 * p * (16384 * s - S2) := by grind
  rw [e]
  generalize n * (R - V) = q1 at *
  generalize n * V - 2 * p * s = q2 at *
  generalize 2 * p * (16384 * s - S2) = q3 at *
  omega
/-- Twice the half and the whole: their numbers are near. -/
theorem both_c {n m p S2 a R : Int} (n0 : 1 ≤ n) (m0 : 1 ≤ m) (h : -1 ≤ m - 2 * n) (h' : m - 2 * n ≤ 1) (p1 : -n ≤ p) (p2 : p ≤ n) (s1 : -(24085 * (n + 1)) ≤ S2) (s2 : S2 ≤ 24085 * (n + 1))
    (k1 : -(n * 1801500) ≤ n * (16384 * a) - p * S2) (k2 : n * (16384 * a) - p * S2 ≤ n * 1801500) (l1 : -(m * 495500) ≤ m * (16384 * R) - 2 * p * S2) (l2 : m * (16384 * R) - 2 * p * S2 ≤ m * 495500) : -400 ≤ a - R ∧ a - R ≤ 400 := by
  have b1 := bil (u := m) (B := m) (by omega) (by omega) k1 k2
  have b2 := bil (u := n) (B := n) (by omega) (by omega) l1 l2
  have b3 := bil p1 p2 s1 s2
  have b4 := bil (u := m - 2 * n) (B := 1) h h' b3.2 b3.1
  have hm : n * (24085 * (n + 1)) ≤ 72255 * (m * n) := by
    have e : n * (72255 * m - 24085 * (n + 1)) = 72255 * (m * n) - n * (24085 * (n + 1)) := by grind
    have k := Int.mul_nonneg (show 0 ≤ n by omega) (show 0 ≤ 72255 * m - 24085 * (n + 1) by omega)
    omega
  have b5 : -(n * (24085 * (n + 1))) ≤ (m - 2 * n) * (p * S2) ∧ (m - 2 * n) * (p * S2) ≤ n * (24085 * (n + 1)) := by
    rcases (show m - 2 * n = -1 ∨ m - 2 * n = 0 ∨ m - 2 * n = 1 by omega) with e | e | e <;> rw [e] <;> omega
  have e : m * n * (16384 * (a - R)) = m * (n * (16384 * a) - p * S2) - n * (m * (16384 * R) - 2 * p * S2) + (m - 2 * n) * (p * S2) := by grind
  have e1 : m * (n * 1801500) = 1801500 * (m * n) := by grind
  have e2 : n * (m * 495500) = 495500 * (m * n) := by grind
  have hp : 0 < m * n := Int.mul_pos (by omega) (by omega)
  have e3 : m * -(n * 1801500) = -(m * (n * 1801500)) := by grind
  rw [e1] at b1
  rw [e2] at b2
  have u1 : m * n * (16384 * (a - R)) ≤ m * n * 2400000 := by omega
  have u2 : m * n * -2400000 ≤ m * n * (16384 * (a - R)) := by omega
  have w1 := Int.le_of_mul_le_mul_left u1 hp
  have w2 := Int.le_of_mul_le_mul_left u2 hp
  omega
theorem first_c {a R r0 r1 r2 r3 c v1 v2 v3 s C C2 : Int} (a1 : -536870912 ≤ 1073741824 * a - (r0 * r0 - (r1 * r1 + r2 * r2 + r3 * r3))) (a2 : 1073741824 * a - (r0 * r0 - (r1 * r1 + r2 * r2 + r3 * r3)) ≤ 536870912)
    (h0 : -24 ≤ r0 - c ∧ r0 - c ≤ 24) (h1 : -24 ≤ r1 - v1 ∧ r1 - v1 ≤ 24) (h2 : -24 ≤ r2 - v2 ∧ r2 - v2 ≤ 24) (h3 : -24 ≤ r3 - v3 ∧ r3 - v3 ≤ 24)
    (bc : -1073743000 ≤ c ∧ c ≤ 1073743000) (b1 : -1073743000 ≤ v1 ∧ v1 ≤ 1073743000) (b2 : -1073743000 ≤ v2 ∧ v2 ≤ 1073743000) (b3 : -1073743000 ≤ v3 ∧ v3 ≤ 1073743000)
    (hs : -(21 * 1073741824 + 12) ≤ v1 * v1 + v2 * v2 + v3 * v3 - s * s ∧ v1 * v1 + v2 * v2 + v3 * v3 - s * s ≤ 21 * 1073741824 + 12)
    (g1 : -2714000000000000000 ≤ 17592186044416 * C2 - 268435456 * (c * c - s * s)) (g2 : 17592186044416 * C2 - 268435456 * (c * c - s * s) ≤ 2714000000000000000) (hR : -24 ≤ R - C ∧ R - C ≤ 24) (k1 : -69400 ≤ 16384 * C - C2) (k2 : 16384 * C - C2 ≤ 69400) : -400 ≤ a - R ∧ a - R ≤ 400 := by
  have s0 := sq_step h0.1 h0.2 bc.1 bc.2
  have s1 := sq_step h1.1 h1.2 b1.1 b1.2
  have s2 := sq_step h2.1 h2.2 b2.1 b2.2
  have s3 := sq_step h3.1 h3.2 b3.1 b3.2
  omega
end Go.Proofs.Ytbpccdagmaiblaa.Tr
