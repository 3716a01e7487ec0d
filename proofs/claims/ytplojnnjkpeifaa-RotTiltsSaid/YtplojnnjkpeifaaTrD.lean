/- What the accelerometer feels, turned upright. Numbers alone. -/
import Derived.Test.YtplojnnjkpeifaaTD
namespace Go.Proofs.Ytplojnnjkpeifaa.Tr
open Go SX
/-- Divided twice: in one. -/
theorem twice_div {a L p m r : Int} (L1 : 1 ≤ L) (m1 : 536870912 ≤ m) (h1 : -L ≤ 2 * (L * p - a * 1073741824) ∧ 2 * (L * p - a * 1073741824) ≤ L) (h2 : -m ≤ 2 * (m * r - p * 1073741824) ∧ 2 * (m * r - p * 1073741824) ≤ m) :
    -(3 * (L * m)) ≤ 2 * (1152921504606846976 * a - L * m * r) ∧ 2 * (1152921504606846976 * a - L * m * r) ≤ 3 * (L * m) := by
  have k := bil (u := L) (B := L) (by omega) (by omega) h2.1 h2.2
  have e : 2 * (1152921504606846976 * a - L * m * r) = -(1073741824 * (2 * (L * p - a * 1073741824))) - L * (2 * (m * r - p * 1073741824)) := by grind
  have q : L * 536870912 ≤ L * m := Int.mul_le_mul_of_nonneg_left m1 (by omega)
  rw [e]
  generalize L * (2 * (m * r - p * 1073741824)) = x at *
  generalize L * p - a * 1073741824 = y at *
  omega
/-- The sum of the squares, and how r misses its angle. -/
theorem gap_T {a b c Z r x y N κ Ls Ea Eb Ec : Int} (ea : 1152921504606846976 * a = Z * r + Ea) (eb : 1152921504606846976 * b = Z * x + Eb) (ec : 1152921504606846976 * c = Z * y + Ec) (Z0 : 0 ≤ Z) (Z1 : Z ≤ 4800000000000000000)
    (ha : -(3 * Z) ≤ 2 * Ea ∧ 2 * Ea ≤ 3 * Z) (hb : -(3 * Z) ≤ 2 * Eb ∧ 2 * Eb ≤ 3 * Z) (hc : -(3 * Z) ≤ 2 * Ec ∧ 2 * Ec ≤ 3 * Z) (hr : Wi 1073741900 r) (hx : Wi 1073741900 x) (hy : Wi 1073741900 y)
    (hN : N = r * r + x * x + y * y) (hL : Ls = a * a + b * b + c * c) (hk : Ls = 2147483648 * a + κ) :
    Wi (Z * (10 * 1073741824 * Z)) (1329227995784915872903807060280344576 * Ls - Z * Z * N) ∧ Wi (Z * (48 * 1237940039285380274899124224)) (Z * (2 * 1237940039285380274899124224 * r - Z * N) + 1329227995784915872903807060280344576 * κ) := by
  have p1 := bil hr.1 hr.2 ha.1 ha.2
  have p2 := bil hx.1 hx.2 hb.1 hb.2
  have p3 := bil hy.1 hy.2 hc.1 hc.2
  have s1 := bil ha.1 ha.2 ha.1 ha.2
  have s2 := bil hb.1 hb.2 hb.1 hb.2
  have s3 := bil hc.1 hc.2 hc.1 hc.2
  have id : 4 * (1329227995784915872903807060280344576 * Ls - Z * Z * N) = 4 * (Z * (r * (2 * Ea))) + 4 * (Z * (x * (2 * Eb))) + 4 * (Z * (y * (2 * Ec))) + 2 * Ea * (2 * Ea) + 2 * Eb * (2 * Eb) + 2 * Ec * (2 * Ec) := by
    have e1 : 1329227995784915872903807060280344576 * Ls = 1152921504606846976 * a * (1152921504606846976 * a) + 1152921504606846976 * b * (1152921504606846976 * b) + 1152921504606846976 * c * (1152921504606846976 * c) := by rw [hL]; grind
    rw [e1, ea, eb, ec, hN]; grind
  have z1 := bil (u := Z) (B := Z) (by omega) (by omega) p1.2 p1.1
  have z2 := bil (u := Z) (B := Z) (by omega) (by omega) p2.2 p2.1
  have z3 := bil (u := Z) (B := Z) (by omega) (by omega) p3.2 p3.1
  have n1 : 3 * Z * (3 * Z) = 9 * (Z * Z) := by grind
  have n2 : Z * (1073741900 * (3 * Z)) = 3221225700 * (Z * Z) := by grind
  have n3 : Z * (10 * 1073741824 * Z) = 10737418240 * (Z * Z) := by grind
  have zz := Nm.sqnn Z
  rw [n1] at s1 s2 s3
  rw [n2] at z1 z2 z3
  have first : Wi (Z * (10 * 1073741824 * Z)) (1329227995784915872903807060280344576 * Ls - Z * Z * N) := by
    rw [n3]
    unfold Wi
    generalize Z * (r * (2 * Ea)) = q1 at *
    generalize Z * (x * (2 * Eb)) = q2 at *
    generalize Z * (y * (2 * Ec)) = q3 at *
    generalize 2 * Ea * (2 * Ea) = q4 at *
    generalize 2 * Eb * (2 * Eb) = q5 at *
    generalize 2 * Ec * (2 * Ec) = q6 at *
    generalize Z * Z * N = q7 at *
    generalize Z * Z = q8 at *
    omega
  refine ⟨first, ?_⟩
  have id2 : Z * (2 * 1237940039285380274899124224 * r - Z * N) + 1329227995784915872903807060280344576 * κ = -(1237940039285380274899124224 * (2 * Ea)) + (1329227995784915872903807060280344576 * Ls - Z * Z * N) := by
    have e1 : κ = Ls - 2147483648 * a := by omega
    have e2 : 2 * 1237940039285380274899124224 * (Z * r) = 2 * 1237940039285380274899124224 * (1152921504606846976 * a - Ea) := by rw [ea]; grind
    have e3 : Z * (2 * 1237940039285380274899124224 * r - Z * N) = 2 * 1237940039285380274899124224 * (Z * r) - Z * Z * N := by grind
    rw [e3, e2, e1]; grind
  rw [id2]
  rw [n3] at first
  have z4 : Z * Z ≤ 4800000000000000000 * Z := Int.mul_le_mul_of_nonneg_right Z1 Z0
  unfold Wi at *
  generalize 1329227995784915872903807060280344576 * Ls - Z * Z * N = q at *
  generalize Z * Z = q8 at *
  omega
/-- The three rows, but for rounding: what is left of the vector. -/
theorem rows_T {a b c Z r x y N Ea Eb Ec : Int} (ea : 1152921504606846976 * a = Z * r + Ea) (eb : 1152921504606846976 * b = Z * x + Eb) (ec : 1152921504606846976 * c = Z * y + Ec) (Z0 : 0 ≤ Z) (Z1 : Z ≤ 4800000000000000000)
    (ha : -(3 * Z) ≤ 2 * Ea ∧ 2 * Ea ≤ 3 * Z) (hb : -(3 * Z) ≤ 2 * Eb ∧ 2 * Eb ≤ 3 * Z) (hc : -(3 * Z) ≤ 2 * Ec ∧ 2 * Ec ≤ 3 * Z) (hr : Wi 1073741900 r) (hx : Wi 1073741900 x) (hy : Wi 1073741900 y) (hN : N = r * r + x * x + y * y) :
    Wi (41 * 1329227995784915872903807060280344576) (1152921504606846976 * (c * (2 * (r * y)) + b * (2 * (r * x)) - (1073741824 - a) * (r * r - x * x - y * y)) - (1237940039285380274899124224 * N - r * (2 * 1237940039285380274899124224 * r - Z * N))) ∧
    Wi (41 * 1329227995784915872903807060280344576) (1152921504606846976 * (c * (r * r + x * x - y * y) - b * (2 * (x * y)) + (1073741824 - a) * (2 * (r * y))) - y * (2 * 1237940039285380274899124224 * r - Z * N)) ∧
    Wi (41 * 1329227995784915872903807060280344576) (1152921504606846976 * (c * (2 * (x * y)) - b * (r * r + y * y - x * x) - (1073741824 - a) * (2 * (r * x))) + x * (2 * 1237940039285380274899124224 * r - Z * N)) := by
  have rr := bil hr.1 hr.2 hr.1 hr.2
  have xx := bil hx.1 hx.2 hx.1 hx.2
  have yy := bil hy.1 hy.2 hy.1 hy.2
  have ry := bil hr.1 hr.2 hy.1 hy.2
  have rx := bil hr.1 hr.2 hx.1 hx.2
  have xy := bil hx.1 hx.2 hy.1 hy.2
  have r0 := Nm.sqnn r
  have x0 := Nm.sqnn x
  have y0 := Nm.sqnn y
  have B : ∀ {E q : Int}, -(3 * Z) ≤ 2 * E ∧ 2 * E ≤ 3 * Z → Wi 2305843362000000000 q → Wi 16602072206400000000000000000000000000 (E * q) := fun {E q} h k => by
    have w := bil (u := 2 * E) (B := 3 * 4800000000000000000) (by omega) (by omega) k.1 k.2
    have e : 2 * E * q = 2 * (E * q) := by grind
    rw [e] at w
    unfold Wi
    omega
  have i1 : 1152921504606846976 * (c * (2 * (r * y)) + b * (2 * (r * x)) - (1073741824 - a) * (r * r - x * x - y * y)) - (1237940039285380274899124224 * N - r * (2 * 1237940039285380274899124224 * r - Z * N)) = Ec * (2 * (r * y)) + Eb * (2 * (r * x)) + Ea * (r * r - x * x - y * y) := by
    have e : 1152921504606846976 * (c * (2 * (r * y)) + b * (2 * (r * x)) - (1073741824 - a) * (r * r - x * x - y * y)) = 1152921504606846976 * c * (2 * (r * y)) + 1152921504606846976 * b * (2 * (r * x)) - (1237940039285380274899124224 - 1152921504606846976 * a) * (r * r - x * x - y * y) := by grind
    rw [e, ea, eb, ec, hN]; grind
  have i2 : 1152921504606846976 * (c * (r * r + x * x - y * y) - b * (2 * (x * y)) + (1073741824 - a) * (2 * (r * y))) - y * (2 * 1237940039285380274899124224 * r - Z * N) = Ec * (r * r + x * x - y * y) - Eb * (2 * (x * y)) - Ea * (2 * (r * y)) := by
    have e : 1152921504606846976 * (c * (r * r + x * x - y * y) - b * (2 * (x * y)) + (1073741824 - a) * (2 * (r * y))) = 1152921504606846976 * c * (r * r + x * x - y * y) - 1152921504606846976 * b * (2 * (x * y)) + (1237940039285380274899124224 - 1152921504606846976 * a) * (2 * (r * y)) := by grind
    rw [e, ea, eb, ec, hN]; grind
  have i3 : 1152921504606846976 * (c * (2 * (x * y)) - b * (r * r + y * y - x * x) - (1073741824 - a) * (2 * (r * x))) + x * (2 * 1237940039285380274899124224 * r - Z * N) = Ec * (2 * (x * y)) - Eb * (r * r + y * y - x * x) + Ea * (2 * (r * x)) := by
    have e : 1152921504606846976 * (c * (2 * (x * y)) - b * (r * r + y * y - x * x) - (1073741824 - a) * (2 * (r * x))) = 1152921504606846976 * c * (2 * (x * y)) - 1152921504606846976 * b * (r * r + y * y - x * x) - (1237940039285380274899124224 - 1152921504606846976 * a) * (2 * (r * x)) := by grind
    rw [e, ea, eb, ec, hN]; grind
  rw [i1, i2, i3]
  have W : ∀ {q : Int}, -2305843362000000000 ≤ q → q ≤ 2305843362000000000 → Wi 2305843362000000000 q := fun h k => ⟨h, k⟩
  have a1 := B hc (W (q := 2 * (r * y)) (by omega) (by omega))
  have a2 := B hb (W (q := 2 * (r * x)) (by omega) (by omega))
  have a3 := B ha (W (q := r * r - x * x - y * y) (by omega) (by omega))
  have b1 := B hc (W (q := r * r + x * x - y * y) (by omega) (by omega))
  have b2 := B hb (W (q := 2 * (x * y)) (by omega) (by omega))
  have b3 := B ha (W (q := 2 * (r * y)) (by omega) (by omega))
  have c1 := B hc (W (q := 2 * (x * y)) (by omega) (by omega))
  have c2 := B hb (W (q := r * r + y * y - x * x) (by omega) (by omega))
  have c3 := B ha (W (q := 2 * (r * x)) (by omega) (by omega))
  unfold Wi at *
  refine ⟨by omega, by omega, by omega⟩
end Go.Proofs.Ytplojnnjkpeifaa.Tr
