/- A vector of rotation made a quaternion. Numbers alone. -/
import Derived.Test.YtbpccdagmaiblaaTB
namespace Go.Proofs.Ytbpccdagmaiblaa.Tr
open Go SX
theorem sq_sp3 {a b c : Int} (a1 : -1152921504606846976 ≤ a) (a2 : a ≤ 1152921504606846976) (b1 : -1152921504606846976 ≤ b) (b2 : b ≤ 1152921504606846976) (c1 : -1152921504606846976 ≤ c) (c2 : c ≤ 1152921504606846976) :
    ∃ r, U 32 [a, b, c] = satv r ∧ Nm.Sp r (a * a + b * b + c * c) := by
  refine ⟨((rootN (sqL [a, b, c]).toNat : Nat) : Int), ?_, ?_⟩
  · show satv ((rootF (sqL [a, b, c]).toNat : Nat) : Int) = _
    rw [rootF_eq]
  · have h := sp_root (sqL [a, b, c]).toNat
    have e : sqL [a, b, c] = a * a + b * b + c * c := by
      show ((0 + satv c * satv c) + satv b * satv b) + satv a * satv a = _
      rw [satv_id (a := a) (by unfold mx; omega) (by unfold mx; omega), satv_id (a := b) (by unfold mx; omega) (by unfold mx; omega), satv_id (a := c) (by unfold mx; omega) (by unfold mx; omega)]
      omega
    have k1 := Nm.sqnn a
    have k2 := Nm.sqnn b
    have k3 := Nm.sqnn c
    rw [e] at h ⊢
    rw [show (((a * a + b * b + c * c).toNat : Nat) : Int) = a * a + b * b + c * c from Int.toNat_of_nonneg (by omega)] at h
    exact h
theorem sq_sp4 {a b c d : Int} (a1 : -1152921504606846976 ≤ a) (a2 : a ≤ 1152921504606846976) (b1 : -1152921504606846976 ≤ b) (b2 : b ≤ 1152921504606846976) (c1 : -1152921504606846976 ≤ c) (c2 : c ≤ 1152921504606846976) (d1 : -1152921504606846976 ≤ d) (d2 : d ≤ 1152921504606846976) :
    ∃ r, U 32 [a, b, c, d] = satv r ∧ Nm.Sp r (a * a + b * b + c * c + d * d) := by
  refine ⟨((rootN (sqL [a, b, c, d]).toNat : Nat) : Int), ?_, ?_⟩
  · show satv ((rootF (sqL [a, b, c, d]).toNat : Nat) : Int) = _
    rw [rootF_eq]
  · have h := sp_root (sqL [a, b, c, d]).toNat
    have e : sqL [a, b, c, d] = a * a + b * b + c * c + d * d := by
      show (((0 + satv d * satv d) + satv c * satv c) + satv b * satv b) + satv a * satv a = _
      rw [satv_id (a := a) (by unfold mx; omega) (by unfold mx; omega), satv_id (a := b) (by unfold mx; omega) (by unfold mx; omega), satv_id (a := c) (by unfold mx; omega) (by unfold mx; omega), satv_id (a := d) (by unfold mx; omega) (by unfold mx; omega)]
      omega
    have k1 := Nm.sqnn a
    have k2 := Nm.sqnn b
    have k3 := Nm.sqnn c
    have k4 := Nm.sqnn d
    rw [e] at h ⊢
    rw [show (((a * a + b * b + c * c + d * d).toNat : Nat) : Int) = a * a + b * b + c * c + d * d from Int.toNat_of_nonneg (by omega)] at h
    exact h
theorem abs_of_sq {x B : Int} (hB : 0 ≤ B) (h : x * x ≤ B * B) : -B ≤ x ∧ x ≤ B := by
  constructor
  · refine Int.not_lt.1 fun hc => ?_
    have k := Int.mul_le_mul (show B + 1 ≤ -x by omega) (show B + 1 ≤ -x by omega) (by omega) (by omega)
    have e : -x * -x = x * x := by grind
    have e2 : (B + 1) * (B + 1) = B * B + 2 * B + 1 := by grind
    omega
  · refine Int.not_lt.1 fun hc => ?_
    have k := Int.mul_le_mul (show B + 1 ≤ x by omega) (show B + 1 ≤ x by omega) (by omega) (by omega)
    have e2 : (B + 1) * (B + 1) = B * B + 2 * B + 1 := by grind
    omega
/-- Four numbers whose squares' sum is near one, made of length one. -/
theorem unit4_T {a b c d n p0 p1 p2 p3 m r0 r1 r2 r3 D : Int} (D0 : 0 ≤ D) (D1 : D ≤ 100) (h1 : 1152921504606846976 - 2147483648 * D ≤ a * a + b * b + c * c + d * d) (h2 : a * a + b * b + c * c + d * d ≤ 1152921504606846976 + 2147483648 * D)
    (en : n = U 32 [a, b, c, d]) (e0 : p0 = U 4 [a, n, 30]) (e1 : p1 = U 4 [b, n, 30]) (e2 : p2 = U 4 [c, n, 30]) (e3 : p3 = U 4 [d, n, 30])
    (em : m = U 32 [p0, p1, p2, p3]) (f0 : r0 = U 4 [p0, m, 30]) (f1 : r1 = U 4 [p1, m, 30]) (f2 : r2 = U 4 [p2, m, 30]) (f3 : r3 = U 4 [p3, m, 30]) :
    (1073741824 - D - 2 ≤ n ∧ n ≤ 1073741824 + D + 2) ∧ (1073741820 ≤ m ∧ m ≤ 1073741828) ∧ (-(D + 8) ≤ r0 - a ∧ r0 - a ≤ D + 8) ∧ (-(D + 8) ≤ r1 - b ∧ r1 - b ≤ D + 8) ∧ (-(D + 8) ≤ r2 - c ∧ r2 - c ≤ D + 8) ∧ (-(D + 8) ≤ r3 - d ∧ r3 - d ≤ D + 8) := by
  have k1 := Nm.sqnn a
  have k2 := Nm.sqnn b
  have k3 := Nm.sqnn c
  have k4 := Nm.sqnn d
  have ha := abs_of_sq (x := a) (B := 1073742000) (by decide) (by omega)
  have hb := abs_of_sq (x := b) (B := 1073742000) (by decide) (by omega)
  have hc := abs_of_sq (x := c) (B := 1073742000) (by decide) (by omega)
  have hd := abs_of_sq (x := d) (B := 1073742000) (by decide) (by omega)
  obtain ⟨n', hn', spn⟩ := sq_sp4 (a := a) (b := b) (c := c) (d := d) (by omega) (by omega) (by omega) (by omega) (by omega) (by omega) (by omega) (by omega)
  have ln := len_near spn (d := D) (by omega) (by omega) (by omega) (by omega)
  rw [hn', satv_id (by unfold mx; omega) (by unfold mx; omega)] at en
  subst en
  obtain ⟨x0, g0, n01, n02⟩ := quot_near (c := a) (n := n) (by omega) (by omega) (by omega) (by omega)
  obtain ⟨x1, g1, n11, n12⟩ := quot_near (c := b) (n := n) (by omega) (by omega) (by omega) (by omega)
  obtain ⟨x2, g2, n21, n22⟩ := quot_near (c := c) (n := n) (by omega) (by omega) (by omega) (by omega)
  obtain ⟨x3, g3, n31, n32⟩ := quot_near (c := d) (n := n) (by omega) (by omega) (by omega) (by omega)
  rw [g0] at e0
  rw [g1] at e1
  rw [g2] at e2
  rw [g3] at e3
  subst e0 e1 e2 e3
  have s0 := quot_step (c := a) (n := n) (p := p0) (d := D + 2) (by omega) (by omega) (by omega) (by omega) (by omega) (by omega) n01 n02
  have s1 := quot_step (c := b) (n := n) (p := p1) (d := D + 2) (by omega) (by omega) (by omega) (by omega) (by omega) (by omega) n11 n12
  have s2 := quot_step (c := c) (n := n) (p := p2) (d := D + 2) (by omega) (by omega) (by omega) (by omega) (by omega) (by omega) n21 n22
  have s3 := quot_step (c := d) (n := n) (p := p3) (d := D + 2) (by omega) (by omega) (by omega) (by omega) (by omega) (by omega) n31 n32
  have us := Nm.unit_sum (n := n) (K := 1073741824) (rs := [p0, p1, p2, p3]) (qs := [a, b, c, d]) (by decide) (by omega) ⟨⟨n01, n02⟩, ⟨n11, n12⟩, ⟨n21, n22⟩, ⟨n31, n32⟩, trivial⟩ (show 4 ≤ 4 by decide) (by
    have e : Nm.sq [a, b, c, d] = a * a + b * b + c * c + d * d := by show (((0 + d * d) + c * c) + b * b) + a * a = _; omega
    rw [e]; exact spn)
  have e : Nm.sq [p0, p1, p2, p3] = p0 * p0 + p1 * p1 + p2 * p2 + p3 * p3 := by show (((0 + p3 * p3) + p2 * p2) + p1 * p1) + p0 * p0 = _; omega
  rw [e] at us
  have lo : 1152921504606846976 - 2147483648 * 2 ≤ p0 * p0 + p1 * p1 + p2 * p2 + p3 * p3 := by
    refine Int.not_lt.1 fun hc => ?_
    have k := Int.mul_le_mul_of_nonneg_left (show p0 * p0 + p1 * p1 + p2 * p2 + p3 * p3 - 1073741824 * 1073741824 ≤ -4294967297 by omega) (show 0 ≤ n by omega)
    generalize n * (p0 * p0 + p1 * p1 + p2 * p2 + p3 * p3 - 1073741824 * 1073741824) = a at *
    omega
  have hi : p0 * p0 + p1 * p1 + p2 * p2 + p3 * p3 ≤ 1152921504606846976 + 2147483648 * 2 := by
    refine Int.not_lt.1 fun hc => ?_
    have k := Int.mul_le_mul_of_nonneg_left (show 4294967297 ≤ p0 * p0 + p1 * p1 + p2 * p2 + p3 * p3 - 1073741824 * 1073741824 by omega) (show 0 ≤ n by omega)
    generalize n * (p0 * p0 + p1 * p1 + p2 * p2 + p3 * p3 - 1073741824 * 1073741824) = a at *
    omega
  obtain ⟨m', hm', spm⟩ := sq_sp4 (a := p0) (b := p1) (c := p2) (d := p3) (by omega) (by omega) (by omega) (by omega) (by omega) (by omega) (by omega) (by omega)
  have lm := len_near spm (d := 2) (by decide) (by decide) (by omega) (by omega)
  rw [hm', satv_id (by unfold mx; omega) (by unfold mx; omega)] at em
  subst em
  obtain ⟨y0, j0, m01, m02⟩ := quot_near (c := p0) (n := m) (by omega) (by omega) (by omega) (by omega)
  obtain ⟨y1, j1, m11, m12⟩ := quot_near (c := p1) (n := m) (by omega) (by omega) (by omega) (by omega)
  obtain ⟨y2, j2, m21, m22⟩ := quot_near (c := p2) (n := m) (by omega) (by omega) (by omega) (by omega)
  obtain ⟨y3, j3, m31, m32⟩ := quot_near (c := p3) (n := m) (by omega) (by omega) (by omega) (by omega)
  rw [j0] at f0
  rw [j1] at f1
  rw [j2] at f2
  rw [j3] at f3
  subst f0 f1 f2 f3
  have t0 := quot_step (c := p0) (n := m) (p := r0) (d := 4) (by omega) (by omega) (by decide) (by decide) (by omega) (by omega) m01 m02
  have t1 := quot_step (c := p1) (n := m) (p := r1) (d := 4) (by omega) (by omega) (by decide) (by decide) (by omega) (by omega) m11 m12
  have t2 := quot_step (c := p2) (n := m) (p := r2) (d := 4) (by omega) (by omega) (by decide) (by decide) (by omega) (by omega) m21 m22
  have t3 := quot_step (c := p3) (n := m) (p := r3) (d := 4) (by omega) (by omega) (by decide) (by decide) (by omega) (by omega) m31 m32
  omega
/-- One of the axis's numbers. -/
theorem axis_c {n p s q v : Int} (n0 : 1 ≤ n) (n1 : n ≤ 2800000000) (p1 : -n ≤ p) (p2 : p ≤ n) (hq1 : -n ≤ 2 * (n * q - s * 1073741824)) (hq2 : 2 * (n * q - s * 1073741824) ≤ n) (hv1 : -1073741824 ≤ 2 * (1073741824 * v - p * q)) (hv2 : 2 * (1073741824 * v - p * q) ≤ 1073741824) :
    -(2 * n) ≤ n * v - p * s ∧ n * v - p * s ≤ 2 * n := by
  have k1 := bil (u := n) (B := n) (by omega) (by omega) hv1 hv2
  have k2 := bil (u := p) (B := n) (by omega) (by omega) hq1 hq2
  have k3 := Int.mul_le_mul_of_nonneg_left n1 (show 0 ≤ n by omega)
  have e : 2 * 1073741824 * (n * v - p * s) = n * (2 * (1073741824 * v - p * q)) + p * (2 * (n * q - s * 1073741824)) := by grind
  generalize n * (2 * (1073741824 * v - p * q)) = a at *
  generalize p * (2 * (n * q - s * 1073741824)) = b at *
  generalize n * v - p * s = c at *
  generalize n * n = d at *
  omega
/-- The sum of the squares of the axis's numbers. -/
theorem axis_sum {n p1 p2 p3 s S v1 v2 v3 : Int} (n0 : 1 ≤ n) (hs : Nm.Sp n (p1 * p1 + p2 * p2 + p3 * p3)) (S1 : -S ≤ s) (S2 : s ≤ S) (S3 : S ≤ n + 8)
    (a1 : -n ≤ p1) (b1 : p1 ≤ n) (a2 : -n ≤ p2) (b2 : p2 ≤ n) (a3 : -n ≤ p3) (b3 : p3 ≤ n)
    (h1 : -(2 * n) ≤ n * v1 - p1 * s ∧ n * v1 - p1 * s ≤ 2 * n) (h2 : -(2 * n) ≤ n * v2 - p2 * s ∧ n * v2 - p2 * s ≤ 2 * n) (h3 : -(2 * n) ≤ n * v3 - p3 * s ∧ n * v3 - p3 * s ≤ 2 * n) :
    -(21 * S + 12) ≤ v1 * v1 + v2 * v2 + v3 * v3 - s * s ∧ v1 * v1 + v2 * v2 + v3 * v3 - s * s ≤ 21 * S + 12 := by
  have S0 : 0 ≤ S := by omega
  have lo : n * n - n < p1 * p1 + p2 * p2 + p3 * p3 := by
    rcases hs.lo with h | h
    · omega
    · exact h
  have hi := hs.hi
  obtain ⟨d1, e1⟩ : ∃ d, n * v1 = p1 * s + d := ⟨n * v1 - p1 * s, by omega⟩
  obtain ⟨d2, e2⟩ : ∃ d, n * v2 = p2 * s + d := ⟨n * v2 - p2 * s, by omega⟩
  obtain ⟨d3, e3⟩ : ∃ d, n * v3 = p3 * s + d := ⟨n * v3 - p3 * s, by omega⟩
  have q1 := bil a1 b1 (d := d1) (S := 2 * n) (by omega) (by omega)
  have q2 := bil a2 b2 (d := d2) (S := 2 * n) (by omega) (by omega)
  have q3 := bil a3 b3 (d := d3) (S := 2 * n) (by omega) (by omega)
  have w1 := bil (u := d1) (B := 2 * n) (by omega) (by omega) (d := d1) (S := 2 * n) (by omega) (by omega)
  have w2 := bil (u := d2) (B := 2 * n) (by omega) (by omega) (d := d2) (S := 2 * n) (by omega) (by omega)
  have w3 := bil (u := d3) (B := 2 * n) (by omega) (by omega) (d := d3) (S := 2 * n) (by omega) (by omega)
  have r1 := Nm.sqnn d1
  have r2 := Nm.sqnn d2
  have r3 := Nm.sqnn d3
  have ss := bil S1 S2 S1 S2
  have s0 := Nm.sqnn s
  have x1 := bil (u := s * s) (B := S * S) (by omega) (by omega) (d := p1 * p1 + p2 * p2 + p3 * p3 - n * n) (S := n) (by omega) (by omega)
  have m0 : n * (2 * n) = 2 * (n * n) := by grind
  have m1 : 2 * n * (2 * n) = 4 * (n * n) := by grind
  rw [m0] at q1 q2 q3
  rw [m1] at w1 w2 w3
  have x2 := bil S1 S2 (d := p1 * d1 + p2 * d2 + p3 * d3) (S := 6 * (n * n)) (by omega) (by omega)
  have key : n * (n * (v1 * v1 + v2 * v2 + v3 * v3 - s * s)) = s * s * (p1 * p1 + p2 * p2 + p3 * p3 - n * n) + 2 * (s * (p1 * d1 + p2 * d2 + p3 * d3)) + (d1 * d1 + d2 * d2 + d3 * d3) := by
    have i1 : n * (n * (v1 * v1 + v2 * v2 + v3 * v3 - s * s)) = n * v1 * (n * v1) + n * v2 * (n * v2) + n * v3 * (n * v3) - n * n * (s * s) := by grind
    rw [i1, e1, e2, e3]; grind
  have n3 : 0 < n := by omega
  have y1 : S * S * n = n * (S * S) := by grind
  have y2 : S * (6 * (n * n)) = 6 * (n * (n * S)) := by grind
  have y3 : n * (12 * n) = 12 * (n * n) := by grind
  -- under n once
  have u1 : -(S * S + 12 * (n * S) + 12 * n) ≤ n * (v1 * v1 + v2 * v2 + v3 * v3 - s * s) ∧ n * (v1 * v1 + v2 * v2 + v3 * v3 - s * s) ≤ S * S + 12 * (n * S) + 12 * n := by
    generalize v1 * v1 + v2 * v2 + v3 * v3 - s * s = D at *
    constructor
    · refine Int.le_of_mul_le_mul_left (a := n) ?_ n3
      have e : n * -(S * S + 12 * (n * S) + 12 * n) = -(n * (S * S) + 12 * (n * (n * S)) + 12 * (n * n)) := by grind
      rw [e, key]
      omega
    · refine Int.le_of_mul_le_mul_left (a := n) ?_ n3
      have e : n * (S * S + 12 * (n * S) + 12 * n) = n * (S * S) + 12 * (n * (n * S)) + 12 * (n * n) := by grind
      rw [e, key]
      omega
  have z1 := Int.mul_le_mul_of_nonneg_left S3 S0
  have z2 := Int.mul_le_mul_of_nonneg_right n0 S0
  have z3 : S * (n + 8) = n * S + 8 * S := by grind
  generalize v1 * v1 + v2 * v2 + v3 * v3 - s * s = D at *
  constructor
  · refine Int.le_of_mul_le_mul_left (a := n) ?_ n3
    have e : n * -(21 * S + 12) = -(21 * (n * S) + 12 * n) := by grind
    rw [e]; omega
  · refine Int.le_of_mul_le_mul_left (a := n) ?_ n3
    have e : n * (21 * S + 12) = 21 * (n * S) + 12 * n := by grind
    rw [e]; omega
theorem U2_near {p q : Int} (p1 : -4000000000 ≤ p) (p2 : p ≤ 4000000000) (q1 : -17179869184 ≤ q) (q2 : q ≤ 17179869184) : ∃ v, U 2 [p, q, 30] = v ∧ -1073741824 ≤ 2 * (1073741824 * v - p * q) ∧ 2 * (1073741824 * v - p * q) ≤ 1073741824 := by
  refine ⟨_, rfl, ?_⟩
  have b := bil p1 p2 (d := q) (S := 17179869184) (by omega) (by omega)
  show _ ≤ 2 * (1073741824 * satv (rnd (satv p * satv q) (30 : Int).toNat) - _) ∧ 2 * (1073741824 * satv (rnd (satv p * satv q) (30 : Int).toNat) - _) ≤ _
  rw [satv_id (a := p) (by unfold mx; omega) (by unfold mx; omega), satv_id (a := q) (by unfold mx; omega) (by unfold mx; omega)]
  have hr := rnd_nr (p * q) 30
  have e : ((2 ^ 30 : Nat) : Int) = 1073741824 := by decide
  have e' : (30 : Int).toNat = 30 := by decide
  rw [e] at hr
  rw [e', satv_id (by unfold mx; omega) (by unfold mx; omega)]
  omega
/-- A rotation of a vector p, not nought. -/
theorem exp_T {p1 p2 p3 n h s c q v1 v2 v3 N a0 a1 a2 a3 M r0 r1 r2 r3 : Int} (l1 : -1610612736 ≤ p1) (u1 : p1 ≤ 1610612736) (l2 : -1610612736 ≤ p2) (u2 : p2 ≤ 1610612736) (l3 : -1610612736 ≤ p3) (u3 : p3 ≤ 1610612736)
    (en : n = U 32 [p1, p2, p3]) (h0 : p1 ≠ 0 ∨ p2 ≠ 0 ∨ p3 ≠ 0) (eh : h = U 2 [n, 536870912, 30]) (es : s = sinF h) (ec : c = sinF (1686629713 + h)) (eq : q = U 4 [s, n, 30])
    (e1 : v1 = U 2 [p1, q, 30]) (e2 : v2 = U 2 [p2, q, 30]) (e3 : v3 = U 2 [p3, q, 30]) (eN : N = U 32 [c, v1, v2, v3]) (f0 : a0 = U 4 [c, N, 30]) (f1 : a1 = U 4 [v1, N, 30]) (f2 : a2 = U 4 [v2, N, 30]) (f3 : a3 = U 4 [v3, N, 30])
    (eM : M = U 32 [a0, a1, a2, a3]) (g0 : r0 = U 4 [a0, M, 30]) (g1 : r1 = U 4 [a1, M, 30]) (g2 : r2 = U 4 [a2, M, 30]) (g3 : r3 = U 4 [a3, M, 30]) :
    (Nm.Sp n (p1 * p1 + p2 * p2 + p3 * p3) ∧ 1 ≤ n ∧ n ≤ 2800000000 ∧ (-n ≤ p1 ∧ p1 ≤ n) ∧ (-n ≤ p2 ∧ p2 ≤ n) ∧ (-n ≤ p3 ∧ p3 ≤ n)) ∧ (-1 ≤ 2 * h - n ∧ 2 * h - n ≤ 1) ∧ (-36561 ≤ 16384 * c - cT h ∧ 16384 * c - cT h ≤ 36561) ∧ (-36561 ≤ 16384 * s - sT h ∧ 16384 * s - sT h ≤ 36561) ∧ 100000000 < c ∧ (-8 ≤ s ∧ s ≤ n + 8 ∧ s ≤ 1073741824) ∧ (-17179869184 < q ∧ q < 17179869184) ∧ U 5 [s, n, 30] = 0 ∧
    (-(2 * n) ≤ n * v1 - p1 * s ∧ n * v1 - p1 * s ≤ 2 * n) ∧ (-(2 * n) ≤ n * v2 - p2 * s ∧ n * v2 - p2 * s ≤ 2 * n) ∧ (-(2 * n) ≤ n * v3 - p3 * s ∧ n * v3 - p3 * s ≤ 2 * n) ∧ (-(21 * 1073741824 + 12) ≤ v1 * v1 + v2 * v2 + v3 * v3 - s * s ∧ v1 * v1 + v2 * v2 + v3 * v3 - s * s ≤ 21 * 1073741824 + 12) ∧
    (1073741000 < N ∧ N < 1073743000) ∧ (1073741000 < M ∧ M < 1073743000) ∧ (-24 ≤ r0 - c ∧ r0 - c ≤ 24) ∧ (-24 ≤ r1 - v1 ∧ r1 - v1 ≤ 24) ∧ (-24 ≤ r2 - v2 ∧ r2 - v2 ≤ 24) ∧ (-24 ≤ r3 - v3 ∧ r3 - v3 ≤ 24) := by
  obtain ⟨n', hn', sp⟩ := sq_sp3 (a := p1) (b := p2) (c := p3) (by omega) (by omega) (by omega) (by omega) (by omega) (by omega)
  have k1 := Nm.sqnn p1
  have k2 := Nm.sqnn p2
  have k3 := Nm.sqnn p3
  have y1 := bil l1 u1 l1 u1
  have y2 := bil l2 u2 l2 u2
  have y3 := bil l3 u3 l3 u3
  have nn := sp.nn
  have nb : n' ≤ 2800000000 := by
    refine Int.not_lt.1 fun hc => ?_
    have k := Int.mul_le_mul (show 2800000000 ≤ n' by omega) (show 2800000000 ≤ n' - 1 by omega) (by omega) (by omega)
    have e : n' * (n' - 1) = n' * n' - n' := by grind
    rcases sp.lo with h | h <;> omega
  have npos : 1 ≤ n' := by
    refine Int.not_lt.1 fun hc => ?_
    have hz : n' = 0 := by omega
    have hh := sp.hi
    rw [hz] at hh
    have z : ∀ {x : Int}, x * x ≤ 0 → x = 0 := fun {x} hx => by
      have := abs_of_sq (x := x) (B := 0) (by decide) (by omega)
      omega
    have z1 := z (x := p1) (by omega)
    have z2 := z (x := p2) (by omega)
    have z3 := z (x := p3) (by omega)
    omega
  rw [hn', satv_id (by unfold mx; omega) (by unfold mx; omega)] at en
  subst en
  have inb : ∀ {x : Int}, x * x ≤ p1 * p1 + p2 * p2 + p3 * p3 → -n ≤ x ∧ x ≤ n := fun {x} hx => Nm.abs_le_of nn (by have := sp.hi; omega)
  have i1 := inb (x := p1) (by omega)
  have i2 := inb (x := p2) (by omega)
  have i3 := inb (x := p3) (by omega)
  obtain ⟨h', hh', b1, b2⟩ := half_is (a := n) (by omega) (by omega)
  rw [hh'] at eh
  subst eh
  have fs := sinF_in (w := h) (by omega) (by omega)
  have fc := cosF_in (w := h) (by omega) (by omega)
  rw [← es] at fs
  rw [← ec] at fc
  have sl := sT_le (z := h) (by omega) (by omega)
  have sb : s ≤ 1073741824 := by rw [es]; exact (sinF_bd _).2
  have cb : 100000000 < c := by
    have j := jord (z := -h + 1686629713) (by omega) (by omega)
    have m2 := sQ (x := -h) (by omega) (by omega)
    rw [cT_neg] at m2
    omega
  have hs : -8 ≤ s ∧ s ≤ n + 8 := by omega
  have z5 : U 5 [s, n, 30] = 0 := U5_no (by omega) (by omega) npos (by omega) (by omega) (by omega)
  rw [U4_is (by omega) (by omega) npos (by omega)] at eq
  have hi := divZ_in (v := s * 1073741824) (d := n) (B := 12884901888) npos (by decide) (by omega) (by omega)
  have hd := divv_nr (v := s * 1073741824) (d := n) npos (by omega)
  rw [← eq] at hd
  have qb : -17179869184 < q ∧ q < 17179869184 := by
    have e : q = divZ (s * 1073741824) n := by
      rw [eq]; unfold divv
      rw [if_neg (by omega), satv_id (by unfold mx; omega) (by unfold mx; omega)]
    omega
  obtain ⟨w1, x1, nv1, mv1⟩ := U2_near (p := p1) (q := q) (by omega) (by omega) (by omega) (by omega)
  obtain ⟨w2, x2, nv2, mv2⟩ := U2_near (p := p2) (q := q) (by omega) (by omega) (by omega) (by omega)
  obtain ⟨w3, x3, nv3, mv3⟩ := U2_near (p := p3) (q := q) (by omega) (by omega) (by omega) (by omega)
  rw [x1] at e1
  rw [x2] at e2
  rw [x3] at e3
  subst e1 e2 e3
  have A1 := axis_c (p := p1) (v := v1) npos nb i1.1 i1.2 hd.1 hd.2 nv1 mv1
  have A2 := axis_c (p := p2) (v := v2) npos nb i2.1 i2.2 hd.1 hd.2 nv2 mv2
  have A3 := axis_c (p := p3) (v := v3) npos nb i3.1 i3.2 hd.1 hd.2 nv3 mv3
  have AS : -(21 * 1073741824 + 12) ≤ v1 * v1 + v2 * v2 + v3 * v3 - s * s ∧ v1 * v1 + v2 * v2 + v3 * v3 - s * s ≤ 21 * 1073741824 + 12 := by
    rcases Int.lt_or_le s 0 with hn0 | hn0
    · have := axis_sum (S := -s) npos sp (by omega) (by omega) (by omega) i1.1 i1.2 i2.1 i2.2 i3.1 i3.2 A1 A2 A3
      omega
    · have := axis_sum (S := s) npos sp (by omega) (by omega) (by omega) i1.1 i1.2 i2.1 i2.2 i3.1 i3.2 A1 A2 A3
      omega
  have bc := cT_in (x := h) (by omega) (by omega)
  have bs := sT_in (x := h) (by omega) (by omega)
  have g := diff_c (x := h) (y := h) (by omega) (by omega) (by omega) (by omega)
  rw [Int.sub_self, cT0] at g
  have o1 := prod_near (u := 16384 * c) (p := cT h) (v := 16384 * c) (q := cT h) (F := 36561) (by omega) (by omega) (by omega) (by omega) (by decide) (by omega) (by omega) (by omega) (by omega)
  have o2 := prod_near (u := 16384 * s) (p := sT h) (v := 16384 * s) (q := sT h) (F := 36561) (by omega) (by omega) (by omega) (by omega) (by decide) (by omega) (by omega) (by omega) (by omega)
  have t1 : 16384 * c * (16384 * c) = 268435456 * (c * c) := by grind
  have t2 : 16384 * s * (16384 * s) = 268435456 * (s * s) := by grind
  rw [t1] at o1
  rw [t2] at o2
  have un := unit4_T (D := 16) (a := c) (b := v1) (c := v2) (d := v3) (by decide) (by decide) (by omega) (by omega) eN f0 f1 f2 f3 eM g0 g1 g2 g3
  refine ⟨⟨sp, npos, nb, i1, i2, i3⟩, ⟨b1, b2⟩, fc, by omega, cb, ⟨hs.1, hs.2, sb⟩, qb, z5, A1, A2, A3, AS, ?_⟩
  clear o1 o2 g AS A1 A2 A3 hd hi y1 y2 y3 k1 k2 k3
  omega
end Go.Proofs.Ytbpccdagmaiblaa.Tr
