/- What the accelerometer feels, turned upright, by the program's names. Numbers alone. -/
import Derived.Test.YtplojnnjkpeifaaTrF
namespace Go.Proofs.Ytplojnnjkpeifaa.Tr
open Go SX
/-- How far the third row is off, and the others. -/
theorem off_T {a b c Z r x y N κ Ls Ea Eb Ec : Int} (ea : 1152921504606846976 * a = Z * r + Ea) (eb : 1152921504606846976 * b = Z * x + Eb) (ec : 1152921504606846976 * c = Z * y + Ec) (Z0 : 9000000000 ≤ Z) (Z1 : Z ≤ 4800000000000000000)
    (ha : -(3 * Z) ≤ 2 * Ea ∧ 2 * Ea ≤ 3 * Z) (hb : -(3 * Z) ≤ 2 * Eb ∧ 2 * Eb ≤ 3 * Z) (hc : -(3 * Z) ≤ 2 * Ec ∧ 2 * Ec ≤ 3 * Z) (hr : Wi 1073741900 r) (hx : Wi 1073741900 x) (hy : Wi 1073741900 y)
    (hN : N = r * r + x * x + y * y) (_n1 : 1152921504606846976 - 4294967296 ≤ N) (n2 : N ≤ 1152921504606846976 + 4294967296) (hL : Ls = a * a + b * b + c * c) (hk : Ls = 2147483648 * a + κ) (k1 : -70866960800 ≤ κ) (k2 : κ ≤ 70866960800) (_r0 : 0 ≤ r) (hm : -κ * a ≤ 3800 * Ls) :
    r * (2 * 1237940039285380274899124224 * r - Z * N) ≤ 3960 * 1329227995784915872903807060280344576 ∧
    (1048576 ≤ a → Wi (1640 * 1329227995784915872903807060280344576) (r * (2 * 1237940039285380274899124224 * r - Z * N)) ∧ Wi (1640 * 1329227995784915872903807060280344576) (x * (2 * 1237940039285380274899124224 * r - Z * N)) ∧ Wi (1640 * 1329227995784915872903807060280344576) (y * (2 * 1237940039285380274899124224 * r - Z * N))) := by
  obtain ⟨g1, g2⟩ := gap_T ea eb ec (by omega) Z1 ha hb hc hr hx hy hN hL hk
  have zz := Nm.sqnn Z
  -- the length of all, below
  have low : 10000 * (1152921504606846976 * Ls) ≤ 10001 * (Z * Z) := by
    have p := Int.mul_le_mul_of_nonneg_left n2 zz
    have e1 : Z * (10 * 1073741824 * Z) = 10737418240 * (Z * Z) := by grind
    have e2 : Z * Z * N = Z * Z * N := rfl
    rw [e1] at g1
    unfold Wi at g1
    generalize Z * Z * N = q at *
    have e3 : Z * Z * (1152921504606846976 + 4294967296) = 1152921508901814272 * (Z * Z) := by grind
    omega
  generalize hG : 2 * 1237940039285380274899124224 * r - Z * N = G at *
  have Zp : 0 < Z := by omega
  have T : ∀ {q : Int}, Wi 1073741900 q → Wi (Z * (49 * 1329227995784915872903807060280344576)) (Z * (q * G) + 1329227995784915872903807060280344576 * (κ * q)) := fun {q} h => by
    have p := bil h.1 h.2 g2.1 g2.2
    have e : q * (Z * G + 1329227995784915872903807060280344576 * κ) = Z * (q * G) + 1329227995784915872903807060280344576 * (κ * q) := by grind
    have e2 : 1073741900 * (Z * (48 * 1237940039285380274899124224)) = Z * (48 * 1237940039285380274899124224 * 1073741900) := by grind
    rw [e, e2] at p
    unfold Wi
    generalize Z * (q * G) = A at *
    omega
  constructor
  · have t := T hr
    have bound : -(κ * r) ≤ 3905 * Z := by
      refine Int.le_of_mul_le_mul_left (a := Z) ?_ Zp
      have e1 : Z * -(κ * r) = 1152921504606846976 * (-κ * a) + κ * Ea := by
        have : κ * Ea = κ * (1152921504606846976 * a - Z * r) := by rw [ea]; grind
        rw [this]; grind
      have p := bil (u := κ) (B := 70866960800) k1 k2 ha.1 ha.2
      have e2 : κ * (2 * Ea) = 2 * (κ * Ea) := by grind
      have e3 : Z * (3905 * Z) = 3905 * (Z * Z) := by grind
      have z2 : 9000000000 * Z ≤ Z * Z := Int.mul_le_mul_of_nonneg_right Z0 (by omega)
      rw [e1, e3]
      rw [e2] at p
      omega
    refine Int.le_of_mul_le_mul_left (a := Z) ?_ Zp
    unfold Wi at t
    generalize Z * (r * G) = A at *
    generalize κ * r = B at *
    omega
  · intro ha2
    have zlo : 48000000000000000 ≤ Z := by
      refine Int.not_lt.1 fun hc => ?_
      have p := Int.mul_le_mul (show Z ≤ 48000000000000000 by omega) (show Z ≤ 48000000000000000 by omega) (by omega) (by decide)
      omega
    have F : ∀ {q : Int}, Wi 1073741900 q → Wi (1640 * 1329227995784915872903807060280344576) (q * G) := fun {q} h => by
      have t := T h
      have p := bil (u := κ) (B := 70866960800) k1 k2 h.1 h.2
      constructor
      · refine Int.le_of_mul_le_mul_left (a := Z) ?_ Zp
        unfold Wi at t
        generalize Z * (q * G) = A at *
        generalize κ * q = B at *
        omega
      · refine Int.le_of_mul_le_mul_left (a := Z) ?_ Zp
        unfold Wi at t
        generalize Z * (q * G) = A at *
        generalize κ * q = B at *
        omega
    exact ⟨F hr, F hx, F hy⟩
theorem fin1 {X V q N : Int} (z : Wi (3 * (1073741824 * 536870912) + 576460752303423488) (1152921504606846976 * X - V)) (w : Wi (41 * 1329227995784915872903807060280344576) (1152921504606846976 * V - (1237940039285380274899124224 * N - q))) (h : q ≤ 3960 * 1329227995784915872903807060280344576) (n : 1152921504606846976 - 4294967296 ≤ N) : 1073737800 ≤ X := by
  unfold Wi at *; omega
theorem fin2 {X V q N : Int} (z : Wi (3 * (1073741824 * 536870912) + 576460752303423488) (1152921504606846976 * X - V)) (w : Wi (41 * 1329227995784915872903807060280344576) (1152921504606846976 * V - (1237940039285380274899124224 * N - q))) (h : Wi (1640 * 1329227995784915872903807060280344576) q) (n : N ≤ 1152921504606846976 + 4294967296) : X ≤ 1073745824 := by
  unfold Wi at *; omega
theorem fin3 {X V q : Int} (z : Wi (3 * (1073741824 * 536870912) + 576460752303423488) (1152921504606846976 * X - V)) (w : Wi (41 * 1329227995784915872903807060280344576) (1152921504606846976 * V - q)) (h : Wi (1640 * 1329227995784915872903807060280344576) q) : Wi 4000 X := by
  unfold Wi at *; omega
theorem fin4 {X V q : Int} (z : Wi (3 * (1073741824 * 536870912) + 576460752303423488) (1152921504606846976 * X - V)) (w : Wi (41 * 1329227995784915872903807060280344576) (1152921504606846976 * V + q)) (h : Wi (1640 * 1329227995784915872903807060280344576) q) : Wi 4000 X := by
  unfold Wi at *; omega
theorem tilt_T {f0 f1 f2 n u0 u1 u2 w b L p0 p1 p2 m r x y m54 m55 m56 m57 m58 m61 X0 X1 X2 : Int} (hf0 : Wi 549755813888 f0) (hf1 : Wi 549755813888 f1) (hf2 : Wi 549755813888 f2) (en : n = U 32 [f0, f1, f2]) (n1 : 16777216 ≤ n)
    (e0 : u0 = U 4 [f0, n, 30]) (e1 : u1 = U 4 [f1, n, 30]) (e2 : u2 = U 4 [f2, n, 30]) (ew : w = 1073741824 - u2) (eb : b = -u1) (hw : 17 ≤ w)
    (eL : L = U 32 [w, b, u0]) (g0 : p0 = U 4 [w, L, 30]) (g1 : p1 = U 4 [b, L, 30]) (g2 : p2 = U 4 [u0, L, 30]) (em : m = U 32 [p0, p1, p2]) (j0 : r = U 4 [p0, m, 30]) (j1 : x = U 4 [p1, m, 30]) (j2 : y = U 4 [p2, m, 30])
    (h56 : m56 = U 16 [30, r, y, r, y]) (h58 : m58 = U 16 [30, r, x, r, x]) (h61 : m61 = U 18 [30, 1, r, r, x, x, y, y]) (hX2 : X2 = U 18 [30, 1, u0, m56, u1, m58, u2, m61]) :
    1073737800 ≤ X2 ∧ (1048576 ≤ w → X2 ≤ 1073745824 ∧ (m54 = U 18 [30, 2, r, r, x, x, y, y] → m55 = U 16 [30, x, y, x, y] → m57 = U 18 [30, 2, r, r, y, y, x, x] → X0 = U 16 [30, u0, m54, u1, m55, u2, m56] → X1 = U 18 [30, 2, u0, m55, u1, m57, u2, m58] → Wi 4000 X0 ∧ Wi 4000 X1)) := by
  -- the length
  obtain ⟨n', hn', sp⟩ := sq_sp3 (a := f0) (b := f1) (c := f2) (by unfold Wi at *; omega) (by unfold Wi at *; omega) (by unfold Wi at *; omega) (by unfold Wi at *; omega) (by unfold Wi at *; omega) (by unfold Wi at *; omega)
  have y0 := bil hf0.1 hf0.2 hf0.1 hf0.2
  have y1 := bil hf1.1 hf1.2 hf1.1 hf1.2
  have y2 := bil hf2.1 hf2.2 hf2.1 hf2.2
  have q0 := Nm.sqnn f0
  have q1 := Nm.sqnn f1
  have q2 := Nm.sqnn f2
  have nn := sp.nn
  have nb : n' ≤ 1099511627776 := by
    refine Int.not_lt.1 fun hc => ?_
    rcases sp.lo with h | h
    · omega
    · have k := Int.mul_le_mul (show 1099511627776 ≤ n' by omega) (show 1099511627776 ≤ n' - 1 by omega) (by omega) (by omega)
      have e : n' * (n' - 1) = n' * n' - n' := by grind
      omega
  rw [hn', satv_id (by unfold mx; omega) (by unfold mx; omega)] at en
  subst en
  have inn : ∀ {x : Int}, x * x ≤ f0 * f0 + f1 * f1 + f2 * f2 → -n ≤ x ∧ x ≤ n := fun {x} hx => Nm.abs_le_of nn (by have := sp.hi; omega)
  have i0 := inn (x := f0) (by omega)
  have i1 := inn (x := f1) (by omega)
  have i2 := inn (x := f2) (by omega)
  obtain ⟨z0, k0, s0, c0⟩ := quotU (a := f0) (n := n) (by omega) (by omega) i0.1 i0.2
  obtain ⟨z1, k1, s1, c1⟩ := quotU (a := f1) (n := n) (by omega) (by omega) i1.1 i1.2
  obtain ⟨z2, k2, s2, c2⟩ := quotU (a := f2) (n := n) (by omega) (by omega) i2.1 i2.2
  rw [k0] at e0
  rw [k1] at e1
  rw [k2] at e2
  subst e0 e1 e2
  have ft := feel_T n1 sp s0 s1 s2
  have ct : w ≤ 34 → 1000000000 ≤ u0 * u0 + u1 * u1 := fun h => cross_T n1 sp s0 s1 s2 (by omega) (by omega)
  clear y0 y1 y2 q0 q1 q2 inn i0 i1 i2 k0 k1 k2 sp nb nn hn'
  -- its squares
  obtain ⟨κ, hκ⟩ : ∃ κ, w * w + b * b + u0 * u0 = 2147483648 * w + κ := ⟨w * w + b * b + u0 * u0 - 2147483648 * w, by omega⟩
  have hκ2 : κ = u0 * u0 + u1 * u1 + u2 * u2 - 1152921504606846976 := by
    have : w * w + b * b + u0 * u0 = 2147483648 * w + (u0 * u0 + u1 * u1 + u2 * u2 - 1152921504606846976) := by rw [ew, eb]; grind
    omega
  have bb : b * b = u1 * u1 := by rw [eb]; grind
  have w0 := Nm.sqnn w
  have v0 := Nm.sqnn u0
  have v1 := Nm.sqnn b
  have wb := bil (u := w) (d := w) (B := 2147483648) (S := 2147483648) (by omega) (by omega) (by omega) (by omega)
  obtain ⟨L', hL', spL⟩ := sq_sp3 (a := w) (b := b) (c := u0) (by omega) (by omega) (by omega) (by omega) (by omega) (by omega)
  have L0 := spL.nn
  have Lb : L' ≤ 2147483700 := by
    refine Int.not_lt.1 fun hc => ?_
    rcases spL.lo with h | h
    · omega
    · have k := Int.mul_le_mul (show 2147483701 ≤ L' by omega) (show 2147483700 ≤ L' - 1 by omega) (by omega) (by omega)
      have e : L' * (L' - 1) = L' * L' - L' := by grind
      omega
  rw [hL', satv_id (by unfold mx; omega) (by unfold mx; omega)] at eL
  subst eL
  have inL : ∀ {x : Int}, x * x ≤ w * w + b * b + u0 * u0 → -L ≤ x ∧ x ≤ L := fun {x} hx => Nm.abs_le_of L0 (by have := spL.hi; omega)
  have l0 := inL (x := w) (by omega)
  have l1 := inL (x := b) (by omega)
  have l2 := inL (x := u0) (by omega)
  obtain ⟨z0, k0, t0, d0⟩ := quotU (a := w) (n := L) (by omega) (by omega) l0.1 l0.2
  obtain ⟨z1, k1, t1, d1⟩ := quotU (a := b) (n := L) (by omega) (by omega) l1.1 l1.2
  obtain ⟨z2, k2, t2, d2⟩ := quotU (a := u0) (n := L) (by omega) (by omega) l2.1 l2.2
  rw [k0] at g0
  rw [k1] at g1
  rw [k2] at g2
  subst g0 g1 g2
  have a0 := Nm.sqnn p0
  have a1 := Nm.sqnn p1
  have a2 := Nm.sqnn p2
  have b0 := bil d0.1 d0.2 d0.1 d0.2
  have b1 := bil d1.1 d1.2 d1.1 d1.2
  have b2 := bil d2.1 d2.2 d2.1 d2.2
  obtain ⟨m', hm', spm⟩ := sq_sp3 (a := p0) (b := p1) (c := p2) (by omega) (by omega) (by omega) (by omega) (by omega) (by omega)
  have m0 := spm.nn
  have mb : m' ≤ 1860000000 := by
    refine Int.not_lt.1 fun hc => ?_
    rcases spm.lo with h | h
    · omega
    · have k := Int.mul_le_mul (show 1860000001 ≤ m' by omega) (show 1860000000 ≤ m' - 1 by omega) (by omega) (by omega)
      have e : m' * (m' - 1) = m' * m' - m' := by grind
      omega
  rw [hm', satv_id (by unfold mx; omega) (by unfold mx; omega)] at em
  subst em
  have Llo : L * L - L < w * w + b * b + u0 * u0 := by rcases spL.lo with h | h <;> omega
  have eA : Nm.sq [w, b, u0] = w * w + b * b + u0 * u0 := by show ((0 + u0 * u0) + b * b) + w * w = _; omega
  have eP : Nm.sq [p0, p1, p2] = p0 * p0 + p1 * p1 + p2 * p2 := by show ((0 + p2 * p2) + p1 * p1) + p0 * p0 = _; omega
  have nearP : Nm.Near L 1073741824 [p0, p1, p2] [w, b, u0] := ⟨t0, t1, t2, trivial⟩
  have spm' : Nm.Sp m (Nm.sq [p0, p1, p2]) := by rw [eP]; exact spm
  have low := Nm.unit_low (by omega) nearP (show 3 ≤ 4 by decide) (by rw [eA]; exact Llo) spm'
  have inm : ∀ {x : Int}, x * x ≤ p0 * p0 + p1 * p1 + p2 * p2 → -m ≤ x ∧ x ≤ m := fun {x} hx => Nm.abs_le_of m0 (by have := spm.hi; omega)
  have o0 := inm (x := p0) (by omega)
  have o1 := inm (x := p1) (by omega)
  have o2 := inm (x := p2) (by omega)
  obtain ⟨z0, k0', x0, _⟩ := quotU (a := p0) (n := m) (by omega) (by omega) o0.1 o0.2
  obtain ⟨z1, k1', x1, _⟩ := quotU (a := p1) (n := m) (by omega) (by omega) o1.1 o1.2
  obtain ⟨z2, k2', x2, _⟩ := quotU (a := p2) (n := m) (by omega) (by omega) o2.1 o2.2
  rw [k0'] at j0
  rw [k1'] at j1
  rw [k2'] at j2
  subst j0 j1 j2
  have fin := Nm.unit_near (by omega) nearP (show 3 ≤ 4 by decide) (by rw [eA]; exact Llo) spm' (rs := [r, x, y]) ⟨x0, x1, x2, trivial⟩
  have eR : Nm.sq [r, x, y] = r * r + x * x + y * y := by show ((0 + y * y) + x * x) + r * r = _; omega
  rw [eR] at fin
  have rr := Nm.sqnn r
  have xx := Nm.sqnn x
  have yy := Nm.sqnn y
  have hr := abs_of_sq (x := r) (B := 1073741900) (by decide) (by omega)
  have hx := abs_of_sq (x := x) (B := 1073741900) (by decide) (by omega)
  have hy := abs_of_sq (x := y) (B := 1073741900) (by decide) (by omega)
  have P0 : 0 ≤ p0 := by
    refine Int.not_lt.1 fun hc => ?_
    have k := Int.mul_le_mul_of_nonneg_left (show p0 ≤ -1 by omega) L0
    omega
  have R0 : 0 ≤ r := by
    refine Int.not_lt.1 fun hc => ?_
    have k := Int.mul_le_mul_of_nonneg_left (show r ≤ -1 by omega) m0
    omega
  have E0 := twice_div (by omega) (by omega) t0 x0
  have E1 := twice_div (by omega) (by omega) t1 x1
  have E2 := twice_div (by omega) (by omega) t2 x2
  have Zb : 9000000000 ≤ L * m := by
    have k := Int.mul_le_mul (show 17 ≤ L by omega) low (by decide) (by omega)
    omega
  have Zt : L * m ≤ 4800000000000000000 := by
    have k := Int.mul_le_mul Lb mb m0 (by decide)
    omega
  have hmiss := miss_T (a := w) (κ := κ) (Ls := w * w + b * b + u0 * u0) hw (by omega) (by omega) hκ (fun h => by have := ct h; omega)
  clear inL inm a0 a1 a2 b0 b1 b2 d0 d1 d2 l0 l1 l2 o0 o1 o2 t0 t1 t2 x0 x1 x2 spm spm' spL nearP Llo eA eP k0 k1 k2 k0' k1' k2' hL' hm'
  obtain ⟨Ea, hEa⟩ : ∃ E, 1152921504606846976 * w = L * m * r + E := ⟨1152921504606846976 * w - L * m * r, by omega⟩
  obtain ⟨Eb, hEb⟩ : ∃ E, 1152921504606846976 * b = L * m * x + E := ⟨1152921504606846976 * b - L * m * x, by omega⟩
  obtain ⟨Ec, hEc⟩ : ∃ E, 1152921504606846976 * u0 = L * m * y + E := ⟨1152921504606846976 * u0 - L * m * y, by omega⟩
  rw [show 1152921504606846976 * w - L * m * r = Ea by omega] at E0
  rw [show 1152921504606846976 * b - L * m * x = Eb by omega] at E1
  rw [show 1152921504606846976 * u0 - L * m * y = Ec by omega] at E2
  generalize L * m = Z at *
  have rw0 := rows_T hEa hEb hEc (by omega) Zt E0 E1 E2 hr hx hy rfl
  have of0 := off_T hEa hEb hEc Zb Zt E0 E1 E2 hr hx hy rfl fin.1 fin.2 rfl hκ (by omega) (by omega) R0 hmiss
  obtain ⟨w1, w2, w3⟩ := rw0
  obtain ⟨o1, o2⟩ := of0
  generalize 2 * 1237940039285380274899124224 * r - Z * (r * r + x * x + y * y) = G at *
  have r34 : -17179869184 ≤ r ∧ r ≤ 17179869184 := by omega
  have x34 : -17179869184 ≤ x ∧ x ≤ 17179869184 := by omega
  have y34 : -17179869184 ≤ y ∧ y ≤ 17179869184 := by omega
  have B0 : Wi 1073741824 u0 := ⟨by omega, by omega⟩
  have B1 : Wi 1073741824 u1 := ⟨by omega, by omega⟩
  have B2 : Wi 1073741824 u2 := ⟨by omega, by omega⟩
  obtain ⟨t56, q56, n56, o56⟩ := U16_is (r := r) (s := y) (by omega) (by omega) (by omega) (by omega)
  obtain ⟨t58, q58, n58, o58⟩ := U16_is (r := r) (s := x) (by omega) (by omega) (by omega) (by omega)
  obtain ⟨t61, q61, n61, o61⟩ := D_12 (a := r) (b := r) (c := x) (d := x) (e := y) (f := y) r34 r34 x34 x34 y34 y34
  rw [q56] at h56
  rw [q58] at h58
  rw [q61] at h61
  subst h56 h58 h61
  have rr' := bil hr.1 hr.2 hr.1 hr.2
  have xx' := bil hx.1 hx.2 hx.1 hx.2
  have yy' := bil hy.1 hy.2 hy.1 hy.2
  have ry' := bil hr.1 hr.2 hy.1 hy.2
  have rx' := bil hr.1 hr.2 hx.1 hx.2
  have xy' := bil hx.1 hx.2 hy.1 hy.2
  have c56 : I43 m56 := by unfold I43; omega
  have c58 : I43 m58 := by unfold I43; omega
  have c61 : I43 m61 := by unfold I43; omega
  have v0' : I43 u0 := by unfold I43; omega
  have v1' : I43 u1 := by unfold I43; omega
  have v2' : I43 u2 := by unfold I43; omega
  have z2 := row_pmm B0 B1 B2 ⟨n56, o56⟩ ⟨n58, o58⟩ ⟨n61, o61⟩ (N_pmm v0' c56 v1' c58 v2' c61 hX2)
  have id2 : u0 * (2 * (r * y)) - u1 * (2 * (r * x)) - u2 * (r * r - x * x - y * y) = u0 * (2 * (r * y)) + b * (2 * (r * x)) - (1073741824 - w) * (r * r - x * x - y * y) := by rw [eb, ew]; grind
  rw [id2] at z2
  generalize u0 * (2 * (r * y)) + b * (2 * (r * x)) - (1073741824 - w) * (r * r - x * x - y * y) = V2 at *
  refine ⟨fin1 z2 w1 o1 fin.1, fun hw2 => ?_⟩
  obtain ⟨p1, p2, p3⟩ := o2 hw2
  refine ⟨fin2 z2 w1 p1 fin.2, fun h54 h55 h57 hX0 hX1 => ?_⟩
  obtain ⟨t54, q54, n54, o54⟩ := D_21 (a := r) (b := r) (c := x) (d := x) (e := y) (f := y) r34 r34 x34 x34 y34 y34
  obtain ⟨t55, q55, n55, o55⟩ := U16_is (r := x) (s := y) (by omega) (by omega) (by omega) (by omega)
  obtain ⟨t57, q57, n57, o57⟩ := D_21 (a := r) (b := r) (c := y) (d := y) (e := x) (f := x) r34 r34 y34 y34 x34 x34
  rw [q54] at h54
  rw [q55] at h55
  rw [q57] at h57
  subst h54 h55 h57
  clear z2 w1 p1 o1 o2 hmiss hEa hEb hEc E0 E1 E2 Zb Zt
  have c54 : I43 m54 := by unfold I43; omega
  have c55 : I43 m55 := by unfold I43; omega
  have c57 : I43 m57 := by unfold I43; omega
  have z0 := row_ppp B0 B1 B2 ⟨n54, o54⟩ ⟨n55, o55⟩ ⟨n56, o56⟩ (N_ppp v0' c54 v1' c55 v2' c56 hX0)
  have z1 := row_ppm B0 B1 B2 ⟨n55, o55⟩ ⟨n57, o57⟩ ⟨n58, o58⟩ (N_ppm v0' c55 v1' c57 v2' c58 hX1)
  have id0 : u0 * (r * r + x * x - y * y) + u1 * (2 * (x * y)) + u2 * (2 * (r * y)) = u0 * (r * r + x * x - y * y) - b * (2 * (x * y)) + (1073741824 - w) * (2 * (r * y)) := by rw [eb, ew]; grind
  have id1 : u0 * (2 * (x * y)) + u1 * (r * r + y * y - x * x) - u2 * (2 * (r * x)) = u0 * (2 * (x * y)) - b * (r * r + y * y - x * x) - (1073741824 - w) * (2 * (r * x)) := by rw [eb, ew]; grind
  rw [id0] at z0
  rw [id1] at z1
  exact ⟨fin3 z0 w2 p3, fin4 z1 w3 p2⟩
end Go.Proofs.Ytplojnnjkpeifaa.Tr
