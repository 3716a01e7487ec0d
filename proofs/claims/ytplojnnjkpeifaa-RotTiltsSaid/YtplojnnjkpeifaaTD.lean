/- Matrices of quaternions of length one; two turns. -/
import Derived.Test.YtplojnnjkpeifaaTrU

/- TrO -/
namespace Go.Proofs.Ytplojnnjkpeifaa.Tr
open Go SX
abbrev I43 (a : Int) : Prop := -8796093022208 ≤ a ∧ a ≤ 8796093022208
theorem sid43 {a : Int} (h : I43 a) : satv a = a := satv_id (by unfold mx; omega) (by unfold mx; omega)
theorem b43 {a b : Int} (h : I43 a) (k : I43 b) : -77371252455336267181195264 ≤ a * b ∧ a * b ≤ 77371252455336267181195264 := by
  have := bil h.1 h.2 k.1 k.2
  omega
theorem R_ppm {a b c d e f : Int} (ha : I43 a) (hb : I43 b) (hc : I43 c) (hd : I43 d) (he : I43 e) (hf : I43 f) :
    ∃ y, U 18 [30, 2, a, b, c, d, e, f] = y ∧ -536870912 ≤ 1073741824 * y - (a * b + c * d - e * f) ∧ 1073741824 * y - (a * b + c * d - e * f) ≤ 536870912 := by
  refine ⟨_, rfl, ?_⟩
  have e0 : U 18 [30, 2, a, b, c, d, e, f] = satv (rnd (a * b + c * d - e * f) (30 : Int).toNat) := by
    show satv (rnd (((0 : Int) + satv c * satv d) + satv a * satv b - ((0 : Int) + satv e * satv f)) (30 : Int).toNat) = _
    rw [sid43 ha, sid43 hb, sid43 hc, sid43 hd, sid43 he, sid43 hf]; congr 2; omega
  have k1 := b43 ha hb
  have k2 := b43 hc hd
  have k3 := b43 he hf
  rw [e0]
  exact sat_rnd (by omega) (by omega)
theorem R_pmm {a b c d e f : Int} (ha : I43 a) (hb : I43 b) (hc : I43 c) (hd : I43 d) (he : I43 e) (hf : I43 f) :
    ∃ y, U 18 [30, 1, a, b, c, d, e, f] = y ∧ -536870912 ≤ 1073741824 * y - (a * b - c * d - e * f) ∧ 1073741824 * y - (a * b - c * d - e * f) ≤ 536870912 := by
  refine ⟨_, rfl, ?_⟩
  have e0 : U 18 [30, 1, a, b, c, d, e, f] = satv (rnd (a * b - c * d - e * f) (30 : Int).toNat) := by
    show satv (rnd ((0 : Int) + satv a * satv b - (((0 : Int) + satv e * satv f) + satv c * satv d)) (30 : Int).toNat) = _
    rw [sid43 ha, sid43 hb, sid43 hc, sid43 hd, sid43 he, sid43 hf]; congr 2; omega
  have k1 := b43 ha hb
  have k2 := b43 hc hd
  have k3 := b43 he hf
  rw [e0]
  exact sat_rnd (by omega) (by omega)
theorem R_ppp {a b c d e f : Int} (ha : I43 a) (hb : I43 b) (hc : I43 c) (hd : I43 d) (he : I43 e) (hf : I43 f) :
    ∃ y, U 16 [30, a, b, c, d, e, f] = y ∧ -536870912 ≤ 1073741824 * y - (a * b + c * d + e * f) ∧ 1073741824 * y - (a * b + c * d + e * f) ≤ 536870912 := by
  refine ⟨_, rfl, ?_⟩
  have e0 : U 16 [30, a, b, c, d, e, f] = satv (rnd (a * b + c * d + e * f) (30 : Int).toNat) := by
    show satv (rnd ((((0 : Int) + satv e * satv f) + satv c * satv d) + satv a * satv b) (30 : Int).toNat) = _
    rw [sid43 ha, sid43 hb, sid43 hc, sid43 hd, sid43 he, sid43 hf]; congr 2; omega
  have k1 := b43 ha hb
  have k2 := b43 hc hd
  have k3 := b43 he hf
  rw [e0]
  exact sat_rnd (by omega) (by omega)
/-- Within one half. -/
abbrev Nr (m e : Int) : Prop := -536870912 ≤ 1073741824 * m - e ∧ 1073741824 * m - e ≤ 536870912
abbrev Wi (B a : Int) : Prop := -B ≤ a ∧ a ≤ B
theorem nr_b {v m e B : Int} (hv : Wi B v) (h : Nr m e) : -(B * 536870912) ≤ 1073741824 * (v * m) - v * e ∧ 1073741824 * (v * m) - v * e ≤ B * 536870912 := by
  have k := bil hv.1 hv.2 h.1 h.2
  have e0 : v * (1073741824 * m - e) = 1073741824 * (v * m) - v * e := by grind
  rw [e0] at k
  omega
theorem row_ppm {a b c m1 m2 m3 e1 e2 e3 w B : Int} (ha : Wi B a) (hb : Wi B b) (hc : Wi B c) (h1 : Nr m1 e1) (h2 : Nr m2 e2) (h3 : Nr m3 e3) (h : Nr w (a * m1 + b * m2 - c * m3)) :
    Wi (3 * (B * 536870912) + 576460752303423488) (1152921504606846976 * w - (a * e1 + b * e2 - c * e3)) := by
  have k1 := nr_b ha h1
  have k2 := nr_b hb h2
  have k3 := nr_b hc h3
  constructor <;> omega
theorem row_pmm {a b c m1 m2 m3 e1 e2 e3 w B : Int} (ha : Wi B a) (hb : Wi B b) (hc : Wi B c) (h1 : Nr m1 e1) (h2 : Nr m2 e2) (h3 : Nr m3 e3) (h : Nr w (a * m1 - b * m2 - c * m3)) :
    Wi (3 * (B * 536870912) + 576460752303423488) (1152921504606846976 * w - (a * e1 - b * e2 - c * e3)) := by
  have k1 := nr_b ha h1
  have k2 := nr_b hb h2
  have k3 := nr_b hc h3
  constructor <;> omega
theorem row_ppp {a b c m1 m2 m3 e1 e2 e3 w B : Int} (ha : Wi B a) (hb : Wi B b) (hc : Wi B c) (h1 : Nr m1 e1) (h2 : Nr m2 e2) (h3 : Nr m3 e3) (h : Nr w (a * m1 + b * m2 + c * m3)) :
    Wi (3 * (B * 536870912) + 576460752303423488) (1152921504606846976 * w - (a * e1 + b * e2 + c * e3)) := by
  have k1 := nr_b ha h1
  have k2 := nr_b hb h2
  have k3 := nr_b hc h3
  constructor <;> omega
/-! ### The entries -/
def dg (a b c d : Int) : Int := a * a + b * b - c * c - d * d
def mi (a b c d : Int) : Int := 2 * (a * b) - 2 * (c * d)
def pl (a b c d : Int) : Int := 2 * (a * b) + 2 * (c * d)

theorem dg_in {a b c d N : Int} (h : a * a + b * b + c * c + d * d = N) : Wi N (dg a b c d) := by
  have k1 := Nm.sqnn a
  have k2 := Nm.sqnn b
  have k3 := Nm.sqnn c
  have k4 := Nm.sqnn d
  unfold dg
  constructor <;> omega
theorem mi_in {a b c d N : Int} (h : a * a + b * b + c * c + d * d = N) : Wi N (mi a b c d) := by
  have k1 := Nm.sqnn (a - b)
  have k2 := Nm.sqnn (a + b)
  have k3 := Nm.sqnn (c - d)
  have k4 := Nm.sqnn (c + d)
  have e1 : (a - b) * (a - b) = a * a - 2 * (a * b) + b * b := by grind
  have e2 : (a + b) * (a + b) = a * a + 2 * (a * b) + b * b := by grind
  have e3 : (c - d) * (c - d) = c * c - 2 * (c * d) + d * d := by grind
  have e4 : (c + d) * (c + d) = c * c + 2 * (c * d) + d * d := by grind
  unfold mi
  constructor <;> omega
theorem pl_in {a b c d N : Int} (h : a * a + b * b + c * c + d * d = N) : Wi N (pl a b c d) := by
  have k1 := Nm.sqnn (a - b)
  have k2 := Nm.sqnn (a + b)
  have k3 := Nm.sqnn (c - d)
  have k4 := Nm.sqnn (c + d)
  have e1 : (a - b) * (a - b) = a * a - 2 * (a * b) + b * b := by grind
  have e2 : (a + b) * (a + b) = a * a + 2 * (a * b) + b * b := by grind
  have e3 : (c - d) * (c - d) = c * c - 2 * (c * d) + d * d := by grind
  have e4 : (c + d) * (c + d) = c * c + 2 * (c * d) + d * d := by grind
  unfold pl
  constructor <;> omega
/-- Three products of entries by small numbers. -/
theorem three_b {a b c x y z A D : Int} (ha : Wi A a) (hb : Wi A b) (hc : Wi A c) (hx : Wi D x) (hy : Wi D y) (hz : Wi D z) (σ τ : Int) (hσ : σ = 1 ∨ σ = -1) (hτ : τ = 1 ∨ τ = -1) : Wi (3 * (A * D)) (a * x + σ * (b * y) + τ * (c * z)) := by
  have k1 := bil ha.1 ha.2 hx.1 hx.2
  have k2 := bil hb.1 hb.2 hy.1 hy.2
  have k3 := bil hc.1 hc.2 hz.1 hz.2
  rcases hσ with h | h <;> rcases hτ with h' | h' <;> subst h <;> subst h' <;> constructor <;> omega
/-- Turned back: exactly. -/
theorem exact1 (r x y z v1 v2 v3 : Int) : dg r x y z * (v1 * dg r x y z + v3 * pl r y x z - v2 * mi r z x y) + pl r z x y * (v1 * pl r z x y + v2 * dg r y x z - v3 * mi r x y z) + mi r y x z * (v1 * mi r y x z - v2 * pl r x y z - v3 * dg r z x y) = (r * r + x * x + y * y + z * z) * (r * r + x * x + y * y + z * z) * v1 := by
  unfold dg pl mi; grind
theorem exact2 (r x y z v1 v2 v3 : Int) : mi r z x y * (v1 * dg r x y z + v3 * pl r y x z - v2 * mi r z x y) + pl r x y z * (v1 * mi r y x z - v2 * pl r x y z - v3 * dg r z x y) - dg r y x z * (v1 * pl r z x y + v2 * dg r y x z - v3 * mi r x y z) = -((r * r + x * x + y * y + z * z) * (r * r + x * x + y * y + z * z) * v2) := by
  unfold dg pl mi; grind
theorem exact3 (r x y z v1 v2 v3 : Int) : pl r y x z * (v1 * dg r x y z + v3 * pl r y x z - v2 * mi r z x y) - mi r x y z * (v1 * pl r z x y + v2 * dg r y x z - v3 * mi r x y z) - dg r z x y * (v1 * mi r y x z - v2 * pl r x y z - v3 * dg r z x y) = (r * r + x * x + y * y + z * z) * (r * r + x * x + y * y + z * z) * v3 := by
  unfold dg pl mi; grind
/-- The length stays: exactly. -/
theorem exact_len (r x y z v1 v2 v3 : Int) : (v1 * dg r x y z + v3 * pl r y x z - v2 * mi r z x y) * (v1 * dg r x y z + v3 * pl r y x z - v2 * mi r z x y) + (v1 * pl r z x y + v2 * dg r y x z - v3 * mi r x y z) * (v1 * pl r z x y + v2 * dg r y x z - v3 * mi r x y z) + (v1 * mi r y x z - v2 * pl r x y z - v3 * dg r z x y) * (v1 * mi r y x z - v2 * pl r x y z - v3 * dg r z x y) = (r * r + x * x + y * y + z * z) * (r * r + x * x + y * y + z * z) * (v1 * v1 + v2 * v2 + v3 * v3) := by
  unfold dg pl mi; grind
end Go.Proofs.Ytplojnnjkpeifaa.Tr

/- TrJ -/
namespace Go.Proofs.Ytplojnnjkpeifaa.Tr
open Go SX
/-- The matrix of r, x, y, z, rounded, as the program makes it. -/
structure Mat (r x y z m11 n12 m13 m21 m22 n23 n31 m32 m33 : Int) : Prop where
  a11 : Nr m11 (dg r x y z)
  a12 : Nr n12 (mi r z x y)
  a13 : Nr m13 (pl r y x z)
  a21 : Nr m21 (pl r z x y)
  a22 : Nr m22 (dg r y x z)
  a23 : Nr n23 (mi r x y z)
  a31 : Nr n31 (mi r y x z)
  a32 : Nr m32 (pl r x y z)
  a33 : Nr m33 (dg r z x y)
structure Unt (r x y z : Int) : Prop where
  lo : 1152921504606846976 - 4294967296 ≤ r * r + x * x + y * y + z * z
  hi : r * r + x * x + y * y + z * z ≤ 1152921504606846976 + 4294967296
theorem Unt.p1 {r x y z : Int} (h : Unt r x y z) : Unt r y x z := ⟨by have := h.lo; omega, by have := h.hi; omega⟩
theorem Unt.p2 {r x y z : Int} (h : Unt r x y z) : Unt r z x y := ⟨by have := h.lo; omega, by have := h.hi; omega⟩
theorem Unt.dg {r x y z : Int} (h : Unt r x y z) : Wi 1152921508901814272 (dg r x y z) := by
  have k := dg_in (a := r) (b := x) (c := y) (d := z) rfl
  have := h.hi
  exact ⟨by have := k.1; omega, by have := k.2; omega⟩
theorem Unt.mi {r x y z : Int} (h : Unt r x y z) : Wi 1152921508901814272 (mi r x y z) := by
  have k := mi_in (a := r) (b := x) (c := y) (d := z) rfl
  have := h.hi
  exact ⟨by have := k.1; omega, by have := k.2; omega⟩
theorem Unt.pl {r x y z : Int} (h : Unt r x y z) : Wi 1152921508901814272 (pl r x y z) := by
  have k := pl_in (a := r) (b := x) (c := y) (d := z) rfl
  have := h.hi
  exact ⟨by have := k.1; omega, by have := k.2; omega⟩

/-- A turned vector. -/
theorem turn_T {r x y z m11 n12 m13 m21 m22 n23 n31 m32 m33 v1 v2 v3 w1 w2 u3 : Int} (hM : Mat r x y z m11 n12 m13 m21 m22 n23 n31 m32 m33) (hU : Unt r x y z) (h1 : Wi 1099511627776 v1) (h2 : Wi 1099511627776 v2) (h3 : Wi 1099511627776 v3)
    (k1 : Nr w1 (v1 * m11 + v3 * m13 - v2 * n12)) (k2 : Nr w2 (v1 * m21 + v2 * m22 - v3 * n23)) (k3 : Nr u3 (v1 * n31 - v2 * m32 - v3 * m33)) :
    Wi 1771463891828420378624 (1152921504606846976 * w1 - (v1 * dg r x y z + v3 * pl r y x z - v2 * mi r z x y)) ∧ Wi 1771463891828420378624 (1152921504606846976 * w2 - (v1 * pl r z x y + v2 * dg r y x z - v3 * mi r x y z)) ∧ Wi 1771463891828420378624 (1152921504606846976 * u3 - (v1 * mi r y x z - v2 * pl r x y z - v3 * dg r z x y)) ∧ Wi 4398046511104 w1 ∧ Wi 4398046511104 w2 ∧ Wi 4398046511104 u3 := by
  have d1 := row_ppm h1 h3 h2 hM.a11 hM.a13 hM.a12 k1
  have d2 := row_ppm h1 h2 h3 hM.a21 hM.a22 hM.a23 k2
  have d3 := row_pmm h1 h2 h3 hM.a31 hM.a32 hM.a33 k3
  have b1 := three_b h1 h3 h2 hU.dg hU.p1.pl hU.p2.mi 1 (-1) (.inl rfl) (.inr rfl)
  have b2 := three_b h1 h2 h3 hU.p2.pl hU.p1.dg hU.mi 1 (-1) (.inl rfl) (.inr rfl)
  have b3 := three_b h1 h2 h3 hU.p1.mi hU.pl hU.p2.dg (-1) (-1) (.inr rfl) (.inr rfl)
  unfold Wi at *
  refine ⟨by omega, by omega, by omega, by omega, by omega, by omega⟩
theorem NN_b {N v : Int} (l : 1152921504606846976 - 4294967296 ≤ N) (u : N ≤ 1152921504606846976 + 4294967296) (h : Wi 1099511627776 v) :
    -(9903520332729786272902545408 * 1099511627776) ≤ N * N * v - 1329227995784915872903807060280344576 * v ∧ N * N * v - 1329227995784915872903807060280344576 * v ≤ 9903520332729786272902545408 * 1099511627776 := by
  have k := bil (u := N + 1152921504606846976) (B := 2305843013508661248) (by omega) (by omega) (d := N - 1152921504606846976) (S := 4294967296) (by omega) (by omega)
  have e : (N + 1152921504606846976) * (N - 1152921504606846976) = N * N - 1329227995784915872903807060280344576 := by grind
  rw [e] at k
  have k2 := bil (u := N * N - 1329227995784915872903807060280344576) (B := 9903520332729786272902545408) (by omega) (by omega) h.1 h.2
  have e2 : (N * N - 1329227995784915872903807060280344576) * v = N * N * v - 1329227995784915872903807060280344576 * v := by grind
  rw [e2] at k2
  omega
/-- Turned and turned back. -/
theorem back_T {r x y z m11 n12 m13 m21 m22 n23 n31 m32 m33 v1 v2 v3 w1 w2 u3 b1 c2 b3 : Int} (hM : Mat r x y z m11 n12 m13 m21 m22 n23 n31 m32 m33) (hU : Unt r x y z) (h1 : Wi 1099511627776 v1) (h2 : Wi 1099511627776 v2) (h3 : Wi 1099511627776 v3)
    (k1 : Nr w1 (v1 * m11 + v3 * m13 - v2 * n12)) (k2 : Nr w2 (v1 * m21 + v2 * m22 - v3 * n23)) (k3 : Nr u3 (v1 * n31 - v2 * m32 - v3 * m33))
    (j1 : Nr b1 (w1 * m11 + w2 * m21 + u3 * n31)) (j2 : Nr c2 (w1 * n12 + u3 * m32 - w2 * m22)) (j3 : Nr b3 (w1 * m13 - w2 * n23 - u3 * m33)) :
    Wi 32768 (b1 - v1) ∧ Wi 32768 (c2 + v2) ∧ Wi 32768 (b3 - v3) := by
  obtain ⟨d1, d2, d3, w1b, w2b, u3b⟩ := turn_T hM hU h1 h2 h3 k1 k2 k3
  have g1 := row_ppp w1b w2b u3b hM.a11 hM.a21 hM.a31 j1
  have g2 := row_ppm w1b u3b w2b hM.a12 hM.a32 hM.a22 j2
  have g3 := row_pmm w1b w2b u3b hM.a13 hM.a23 hM.a33 j3
  have t1 := three_b hU.dg hU.p2.pl hU.p1.mi d1 d2 d3 1 1 (.inl rfl) (.inl rfl)
  have t2 := three_b hU.p2.mi hU.pl hU.p1.dg d1 d3 d2 1 (-1) (.inl rfl) (.inr rfl)
  have t3 := three_b hU.p1.pl hU.mi hU.p2.dg d1 d2 d3 (-1) (-1) (.inr rfl) (.inr rfl)
  have x1 := exact1 r x y z v1 v2 v3
  have x2 := exact2 r x y z v1 v2 v3
  have x3 := exact3 r x y z v1 v2 v3
  have n1 := NN_b hU.lo hU.hi h1
  have n2 := NN_b hU.lo hU.hi h2
  have n3 := NN_b hU.lo hU.hi h3
  generalize v1 * dg r x y z + v3 * pl r y x z - v2 * mi r z x y = W1 at *
  generalize v1 * pl r z x y + v2 * dg r y x z - v3 * mi r x y z = W2 at *
  generalize v1 * mi r y x z - v2 * pl r x y z - v3 * dg r z x y = W3 at *
  generalize r * r + x * x + y * y + z * z = N at *
  have i1 : dg r x y z * (1152921504606846976 * w1 - W1) + 1 * (pl r z x y * (1152921504606846976 * w2 - W2)) + 1 * (mi r y x z * (1152921504606846976 * u3 - W3)) = 1152921504606846976 * (w1 * dg r x y z + w2 * pl r z x y + u3 * mi r y x z) - N * N * v1 := by rw [← x1]; grind
  have i2 : mi r z x y * (1152921504606846976 * w1 - W1) + 1 * (pl r x y z * (1152921504606846976 * u3 - W3)) + -1 * (dg r y x z * (1152921504606846976 * w2 - W2)) = 1152921504606846976 * (w1 * mi r z x y + u3 * pl r x y z - w2 * dg r y x z) + N * N * v2 := by
    have : N * N * v2 = -(mi r z x y * W1 + pl r x y z * W3 - dg r y x z * W2) := by omega
    rw [this]; grind
  have i3 : pl r y x z * (1152921504606846976 * w1 - W1) + -1 * (mi r x y z * (1152921504606846976 * w2 - W2)) + -1 * (dg r z x y * (1152921504606846976 * u3 - W3)) = 1152921504606846976 * (w1 * pl r y x z - w2 * mi r x y z - u3 * dg r z x y) - N * N * v3 := by rw [← x3]; grind
  rw [i1] at t1
  rw [i2] at t2
  rw [i3] at t3
  generalize w1 * dg r x y z + w2 * pl r z x y + u3 * mi r y x z = Y1 at *
  generalize w1 * mi r z x y + u3 * pl r x y z - w2 * dg r y x z = Y2 at *
  generalize w1 * pl r y x z - w2 * mi r x y z - u3 * dg r z x y = Y3 at *
  generalize N * N * v1 = Q1 at *
  generalize N * N * v2 = Q2 at *
  generalize N * N * v3 = Q3 at *
  clear x1 x2 x3 i1 i2 i3 hM hU k1 k2 k3 j1 j2 j3 d1 d2 d3 w1b w2b u3b
  unfold Wi at *
  refine ⟨by omega, by omega, by omega⟩
theorem len_T {r x y z m11 n12 m13 m21 m22 n23 n31 m32 m33 v1 v2 v3 w1 w2 u3 n m : Int} (hM : Mat r x y z m11 n12 m13 m21 m22 n23 n31 m32 m33) (hU : Unt r x y z) (h1 : Wi 1099511627776 v1) (h2 : Wi 1099511627776 v2) (h3 : Wi 1099511627776 v3)
    (k1 : Nr w1 (v1 * m11 + v3 * m13 - v2 * n12)) (k2 : Nr w2 (v1 * m21 + v2 * m22 - v3 * n23)) (k3 : Nr u3 (v1 * n31 - v2 * m32 - v3 * m33))
    (hn : Nm.Sp n (v1 * v1 + v2 * v2 + v3 * v3)) (hm : Nm.Sp m (w1 * w1 + w2 * w2 + u3 * u3)) : Wi 32768 (m - n) := by
  obtain ⟨d1, d2, d3, _, _, _⟩ := turn_T hM hU h1 h2 h3 k1 k2 k3
  have x0 := exact_len r x y z v1 v2 v3
  have l := hU.lo
  have u := hU.hi
  generalize v1 * dg r x y z + v3 * pl r y x z - v2 * mi r z x y = W1 at *
  generalize v1 * pl r z x y + v2 * dg r y x z - v3 * mi r x y z = W2 at *
  generalize v1 * mi r y x z - v2 * pl r x y z - v3 * dg r z x y = W3 at *
  generalize r * r + x * x + y * y + z * z = N at *
  have nn := hn.nn
  have nhi := hn.hi
  have mm := hm.nn
  have mhi := hm.hi
  have V0 : 0 ≤ v1 * v1 + v2 * v2 + v3 * v3 := by have := Nm.sqnn v1; have := Nm.sqnn v2; have := Nm.sqnn v3; omega
  have VB : v1 * v1 + v2 * v2 + v3 * v3 ≤ 3626777458843887524118528 := by
    have q1 := bil h1.1 h1.2 h1.1 h1.2
    have q2 := bil h2.1 h2.2 h2.1 h2.2
    have q3 := bil h3.1 h3.2 h3.1 h3.2
    omega
  generalize v1 * v1 + v2 * v2 + v3 * v3 = V at *
  have n2 : n ≤ 1910000000000 := by
    refine Int.not_lt.1 fun hc => ?_
    rcases hn.lo with h | h
    · omega
    · have k := Int.mul_le_mul (show 1910000000000 ≤ n by omega) (show 1910000000000 ≤ n - 1 by omega) (by omega) nn
      have e : n * (n - 1) = n * n - n := by grind
      omega
  have nlo : n * n - n ≤ V := by
    rcases hn.lo with h | h
    · subst h; omega
    · omega
  have mlo : m * m - m ≤ w1 * w1 + w2 * w2 + u3 * u3 := by
    rcases hm.lo with h | h
    · subst h
      have := Nm.sqnn w1; have := Nm.sqnn w2; have := Nm.sqnn u3
      omega
    · omega
  have n3 := Int.mul_le_mul_of_nonneg_right n2 nn
  -- N^2
  have q : -9903520332729786272902545408 ≤ N * N - 1329227995784915872903807060280344576 ∧ N * N - 1329227995784915872903807060280344576 ≤ 9903520332729786272902545408 := by
    have k := bil (u := N + 1152921504606846976) (B := 2305843013508661248) (by omega) (by omega) (d := N - 1152921504606846976) (S := 4294967296) (by omega) (by omega)
    have e : (N + 1152921504606846976) * (N - 1152921504606846976) = N * N - 1329227995784915872903807060280344576 := by grind
    rw [e] at k
    omega
  have qV := bil (u := N * N - 1329227995784915872903807060280344576) (B := 9903520332729786272902545408) q.1 q.2 (d := V) (S := V) (by omega) (by omega)
  have eV : (N * N - 1329227995784915872903807060280344576) * V = N * N * V - 1329227995784915872903807060280344576 * V := by grind
  rw [eV] at qV
  -- the W are at most N (n + 1)
  have s1 := Nm.sqnn W1
  have s2 := Nm.sqnn W2
  have s3 := Nm.sqnn W3
  have hB : N * N * V ≤ N * (n + 1) * (N * (n + 1)) := by
    have e : N * (n + 1) * (N * (n + 1)) - N * N * V = N * N * ((n + 1) * (n + 1) - V) := by grind
    have e2 : (n + 1) * (n + 1) = n * n + 2 * n + 1 := by grind
    have k := Int.mul_nonneg (Nm.sqnn N) (show 0 ≤ (n + 1) * (n + 1) - V by omega)
    omega
  have hB0 : 0 ≤ N * (n + 1) := Int.mul_nonneg (by omega) (by omega)
  have B1 := abs_of_sq (x := W1) hB0 (by omega)
  have B2 := abs_of_sq (x := W2) hB0 (by omega)
  have B3 := abs_of_sq (x := W3) hB0 (by omega)
  have hN : N * (n + 1) ≤ 1152921508901814272 * (n + 1) := Int.mul_le_mul_of_nonneg_right (by omega) (by omega)
  generalize N * (n + 1) = G at *
  have p1 := bil B1.1 B1.2 d1.1 d1.2
  have p2 := bil B2.1 B2.2 d2.1 d2.2
  have p3 := bil B3.1 B3.2 d3.1 d3.2
  have r1 := bil d1.1 d1.2 d1.1 d1.2
  have r2 := bil d2.1 d2.2 d2.1 d2.2
  have r3 := bil d3.1 d3.2 d3.1 d3.2
  have t1 := Nm.sqnn (1152921504606846976 * w1 - W1)
  have t2 := Nm.sqnn (1152921504606846976 * w2 - W2)
  have t3 := Nm.sqnn (1152921504606846976 * u3 - W3)
  have key : 1329227995784915872903807060280344576 * (w1 * w1 + w2 * w2 + u3 * u3) = N * N * V + 2 * (W1 * (1152921504606846976 * w1 - W1)) + 2 * (W2 * (1152921504606846976 * w2 - W2)) + 2 * (W3 * (1152921504606846976 * u3 - W3)) + (1152921504606846976 * w1 - W1) * (1152921504606846976 * w1 - W1) + (1152921504606846976 * w2 - W2) * (1152921504606846976 * w2 - W2) + (1152921504606846976 * u3 - W3) * (1152921504606846976 * u3 - W3) := by rw [← x0]; grind
  clear x0 B1 B2 B3 s1 s2 s3 d1 d2 d3 h1 h2 h3 hM hU k1 k2 k3 hB q
  generalize (1152921504606846976 * w1 - W1) * (1152921504606846976 * w1 - W1) = y1 at *
  generalize (1152921504606846976 * w2 - W2) * (1152921504606846976 * w2 - W2) = y2 at *
  generalize (1152921504606846976 * u3 - W3) * (1152921504606846976 * u3 - W3) = y3 at *
  generalize W1 * (1152921504606846976 * w1 - W1) = z1 at *
  generalize W2 * (1152921504606846976 * w2 - W2) = z2 at *
  generalize W3 * (1152921504606846976 * u3 - W3) = z3 at *
  generalize w1 * w1 + w2 * w2 + u3 * u3 = S at *
  generalize N * N * V = Q at *
  constructor
  · refine Int.not_lt.1 fun hc => ?_
    have k := Int.mul_le_mul (show m ≤ n - 32769 by omega) (show m + 1 ≤ n - 32768 by omega) (by omega) (by omega)
    have e : m * (m + 1) = m * m + m := by grind
    have e2 : (n - 32769) * (n - 32768) = n * n - 65537 * n + 1073774592 := by grind
    omega
  · refine Int.not_lt.1 fun hc => ?_
    have k := Int.mul_le_mul (show n + 32769 ≤ m by omega) (show n + 32768 ≤ m - 1 by omega) (by omega) mm
    have e : m * (m - 1) = m * m - m := by grind
    have e2 : (n + 32769) * (n + 32768) = n * n + 65537 * n + 1073774592 := by grind
    omega
end Go.Proofs.Ytplojnnjkpeifaa.Tr

/- TrL -/
namespace Go.Proofs.Ytplojnnjkpeifaa.Tr
open Go SX
/-- The product of two quaternions, exactly. -/
def q0 (a b c d r x y z : Int) : Int := r * a - x * b - y * c - z * d
def q1 (a b c d r x y z : Int) : Int := r * b + x * a + z * c - y * d
def q2 (a b c d r x y z : Int) : Int := r * c + x * d + y * a - z * b
def q3 (a b c d r x y z : Int) : Int := r * d + y * b + z * a - x * c
theorem q_norm (a b c d r x y z : Int) : q0 a b c d r x y z * q0 a b c d r x y z + q1 a b c d r x y z * q1 a b c d r x y z + q2 a b c d r x y z * q2 a b c d r x y z + q3 a b c d r x y z * q3 a b c d r x y z = (a * a + b * b + c * c + d * d) * (r * r + x * x + y * y + z * z) := by
  unfold q0 q1 q2 q3; grind
/-- Turned twice: exactly. -/
theorem comp1 (a b c d r x y z v1 v2 v3 : Int) : dg a b c d * (v1 * dg r x y z + v3 * pl r y x z - v2 * mi r z x y) - mi a d b c * (v1 * pl r z x y + v2 * dg r y x z - v3 * mi r x y z) - pl a c b d * (v1 * mi r y x z - v2 * pl r x y z - v3 * dg r z x y) =
    v1 * dg (q0 a b c d r x y z) (q1 a b c d r x y z) (q2 a b c d r x y z) (q3 a b c d r x y z) + v3 * pl (q0 a b c d r x y z) (q2 a b c d r x y z) (q1 a b c d r x y z) (q3 a b c d r x y z) - v2 * mi (q0 a b c d r x y z) (q3 a b c d r x y z) (q1 a b c d r x y z) (q2 a b c d r x y z) := by
  unfold dg pl mi q0 q1 q2 q3; grind
theorem comp2 (a b c d r x y z v1 v2 v3 : Int) : pl a d b c * (v1 * dg r x y z + v3 * pl r y x z - v2 * mi r z x y) + dg a c b d * (v1 * pl r z x y + v2 * dg r y x z - v3 * mi r x y z) + mi a b c d * (v1 * mi r y x z - v2 * pl r x y z - v3 * dg r z x y) =
    v1 * pl (q0 a b c d r x y z) (q3 a b c d r x y z) (q1 a b c d r x y z) (q2 a b c d r x y z) + v2 * dg (q0 a b c d r x y z) (q2 a b c d r x y z) (q1 a b c d r x y z) (q3 a b c d r x y z) - v3 * mi (q0 a b c d r x y z) (q1 a b c d r x y z) (q2 a b c d r x y z) (q3 a b c d r x y z) := by
  unfold dg pl mi q0 q1 q2 q3; grind
theorem comp3 (a b c d r x y z v1 v2 v3 : Int) : mi a c b d * (v1 * dg r x y z + v3 * pl r y x z - v2 * mi r z x y) + dg a d b c * (v1 * mi r y x z - v2 * pl r x y z - v3 * dg r z x y) - pl a b c d * (v1 * pl r z x y + v2 * dg r y x z - v3 * mi r x y z) =
    v1 * mi (q0 a b c d r x y z) (q2 a b c d r x y z) (q1 a b c d r x y z) (q3 a b c d r x y z) - v2 * pl (q0 a b c d r x y z) (q1 a b c d r x y z) (q2 a b c d r x y z) (q3 a b c d r x y z) - v3 * dg (q0 a b c d r x y z) (q3 a b c d r x y z) (q1 a b c d r x y z) (q2 a b c d r x y z) := by
  unfold dg pl mi q0 q1 q2 q3; grind
/-- Entries of rounded numbers. -/
theorem sq_r {t T : Int} (hT : Wi 1152921508901814272 T) (h : Nr t T) : Wi 1237940044185296669478223872 (1152921504606846976 * (t * t) - T * T) := by
  have k := bil (u := 1073741824 * t + T) (B := 2305843018340499456) (by have := hT.1; have := h.1; omega) (by have := hT.2; have := h.2; omega) h.1 h.2
  have e : (1073741824 * t + T) * (1073741824 * t - T) = 1152921504606846976 * (t * t) - T * T := by grind
  rw [e] at k
  unfold Wi
  omega
theorem mul_r {t T s S : Int} (hT : Wi 1152921508901814272 T) (h : Nr t T) (hS : Wi 1152921508901814272 S) (k : Nr s S) : Wi 1237940044185296669478223872 (1152921504606846976 * (t * s) - T * S) := by
  have k1 := bil (u := 1073741824 * t) (B := 1152921509438685184) (by have := hT.1; have := h.1; omega) (by have := hT.2; have := h.2; omega) k.1 k.2
  have k2 := bil (u := S) (B := 1152921508901814272) hS.1 hS.2 h.1 h.2
  have e : 1152921504606846976 * (t * s) - T * S = 1073741824 * t * (1073741824 * s - S) + S * (1073741824 * t - T) := by grind
  rw [e]
  unfold Wi
  omega
theorem dg_r {a b c d A B C D : Int} (hA : Wi 1152921508901814272 A) (hB : Wi 1152921508901814272 B) (hC : Wi 1152921508901814272 C) (hD : Wi 1152921508901814272 D) (ha : Nr a A) (hb : Nr b B) (hc : Nr c C) (hd : Nr d D) :
    Wi 4951760176741186677912895488 (1152921504606846976 * dg a b c d - dg A B C D) := by
  have k1 := sq_r hA ha
  have k2 := sq_r hB hb
  have k3 := sq_r hC hc
  have k4 := sq_r hD hd
  unfold dg
  unfold Wi at *
  omega
theorem mi_r {a b c d A B C D : Int} (hA : Wi 1152921508901814272 A) (hB : Wi 1152921508901814272 B) (hC : Wi 1152921508901814272 C) (hD : Wi 1152921508901814272 D) (ha : Nr a A) (hb : Nr b B) (hc : Nr c C) (hd : Nr d D) :
    Wi 4951760176741186677912895488 (1152921504606846976 * mi a b c d - mi A B C D) := by
  have k1 := mul_r hA ha hB hb
  have k2 := mul_r hC hc hD hd
  unfold mi
  unfold Wi at *
  omega
theorem pl_r {a b c d A B C D : Int} (hA : Wi 1152921508901814272 A) (hB : Wi 1152921508901814272 B) (hC : Wi 1152921508901814272 C) (hD : Wi 1152921508901814272 D) (ha : Nr a A) (hb : Nr b B) (hc : Nr c C) (hd : Nr d D) :
    Wi 4951760176741186677912895488 (1152921504606846976 * pl a b c d - pl A B C D) := by
  have k1 := mul_r hA ha hB hb
  have k2 := mul_r hC hc hD hd
  unfold pl
  unfold Wi at *
  omega
/-- The product's numbers are bounded. -/
theorem q_in {a b c d r x y z : Int} (hp : Unt a b c d) (hq : Unt r x y z) : Wi 1152921508901814272 (q0 a b c d r x y z) ∧ Wi 1152921508901814272 (q1 a b c d r x y z) ∧ Wi 1152921508901814272 (q2 a b c d r x y z) ∧ Wi 1152921508901814272 (q3 a b c d r x y z) := by
  have n := q_norm a b c d r x y z
  have l1 := hp.lo
  have l2 := hq.lo
  have k := Int.mul_le_mul (show a * a + b * b + c * c + d * d ≤ 1152921508901814272 from by have := hp.hi; omega) (show r * r + x * x + y * y + z * z ≤ 1152921508901814272 from by have := hq.hi; omega) (by omega) (by decide)
  rw [← n] at k
  have s0 := Nm.sqnn (q0 a b c d r x y z)
  have s1 := Nm.sqnn (q1 a b c d r x y z)
  have s2 := Nm.sqnn (q2 a b c d r x y z)
  have s3 := Nm.sqnn (q3 a b c d r x y z)
  exact ⟨abs_of_sq (by decide) (by omega), abs_of_sq (by decide) (by omega), abs_of_sq (by decide) (by omega), abs_of_sq (by decide) (by omega)⟩
/-- An entry of the product's matrix by a number. -/
theorem ent {m e E v : Int} (hm : Nr m e) (he : Wi 4951760176741186677912895488 (1152921504606846976 * e - E)) (hv : Wi 1099511627776 v) : Wi 6125082626126952546220642759215782297600 (1237940039285380274899124224 * (v * m) - v * E) := by
  have k1 := bil hv.1 hv.2 hm.1 hm.2
  have k2 := bil hv.1 hv.2 he.1 he.2
  have e1 : 1237940039285380274899124224 * (v * m) - v * E = 1152921504606846976 * (v * (1073741824 * m - e)) + v * (1152921504606846976 * e - E) := by grind
  rw [e1]
  unfold Wi
  omega
/-- Turned by the product, turned by the one and by the other. -/
theorem prod_T {a b c d r x y z t0 t1 t2 t3 : Int} {m11 n12 m13 m21 m22 n23 n31 m32 m33 l11 k12 l13 l21 l22 k23 k31 l32 l33 s11 o12 s13 s21 s22 o23 o31 s32 s33 v1 v2 v3 w1 w2 u3 X1 X2 X3 Y1 Y2 Y3 : Int}
    (hp : Unt a b c d) (hq : Unt r x y z) (g0 : Nr t0 (q0 a b c d r x y z)) (g1 : Nr t1 (q1 a b c d r x y z)) (g2 : Nr t2 (q2 a b c d r x y z)) (g3 : Nr t3 (q3 a b c d r x y z))
    (hM : Mat r x y z m11 n12 m13 m21 m22 n23 n31 m32 m33) (hL : Mat a b c d l11 k12 l13 l21 l22 k23 k31 l32 l33) (hS : Mat t0 t1 t2 t3 s11 o12 s13 s21 s22 o23 o31 s32 s33)
    (h1 : Wi 1099511627776 v1) (h2 : Wi 1099511627776 v2) (h3 : Wi 1099511627776 v3)
    (k1 : Nr w1 (v1 * m11 + v3 * m13 - v2 * n12)) (k2 : Nr w2 (v1 * m21 + v2 * m22 - v3 * n23)) (k3 : Nr u3 (v1 * n31 - v2 * m32 - v3 * m33))
    (x1 : Nr X1 (v1 * s11 + v3 * s13 - v2 * o12)) (x2 : Nr X2 (v1 * s21 + v2 * s22 - v3 * o23)) (x3 : Nr X3 (v1 * o31 - v2 * s32 - v3 * s33))
    (y1 : Nr Y1 (w1 * l11 - w2 * k12 - u3 * l13)) (y2 : Nr Y2 (w1 * l21 + w2 * l22 + u3 * k23)) (y3 : Nr Y3 (w1 * k31 + u3 * l33 - w2 * l32)) :
    Wi 32768 (X1 - Y1) ∧ Wi 32768 (X2 - Y2) ∧ Wi 32768 (X3 - Y3) := by
  obtain ⟨d1, d2, d3, w1b, w2b, u3b⟩ := turn_T hM hq h1 h2 h3 k1 k2 k3
  obtain ⟨b0, b1, b2, b3⟩ := q_in hp hq
  have f1 := row_pmm w1b w2b u3b hL.a11 hL.a12 hL.a13 y1
  have f2 := row_ppp w1b w2b u3b hL.a21 hL.a22 hL.a23 y2
  have f3 := row_ppm w1b u3b w2b hL.a31 hL.a33 hL.a32 y3
  have t1' := three_b hp.dg hp.p2.mi hp.p1.pl d1 d2 d3 (-1) (-1) (.inr rfl) (.inr rfl)
  have t2' := three_b hp.p2.pl hp.p1.dg hp.mi d1 d2 d3 1 1 (.inl rfl) (.inl rfl)
  have t3' := three_b hp.p1.mi hp.p2.dg hp.pl d1 d3 d2 1 (-1) (.inl rfl) (.inr rfl)
  have c1 := comp1 a b c d r x y z v1 v2 v3
  have c2 := comp2 a b c d r x y z v1 v2 v3
  have c3 := comp3 a b c d r x y z v1 v2 v3
  generalize q0 a b c d r x y z = T0 at *
  generalize q1 a b c d r x y z = T1 at *
  generalize q2 a b c d r x y z = T2 at *
  generalize q3 a b c d r x y z = T3 at *
  have e11 := ent hS.a11 (dg_r b0 b1 b2 b3 g0 g1 g2 g3) h1
  have e12 := ent hS.a12 (mi_r b0 b3 b1 b2 g0 g3 g1 g2) h2
  have e13 := ent hS.a13 (pl_r b0 b2 b1 b3 g0 g2 g1 g3) h3
  have e21 := ent hS.a21 (pl_r b0 b3 b1 b2 g0 g3 g1 g2) h1
  have e22 := ent hS.a22 (dg_r b0 b2 b1 b3 g0 g2 g1 g3) h2
  have e23 := ent hS.a23 (mi_r b0 b1 b2 b3 g0 g1 g2 g3) h3
  have e31 := ent hS.a31 (mi_r b0 b2 b1 b3 g0 g2 g1 g3) h1
  have e32 := ent hS.a32 (pl_r b0 b1 b2 b3 g0 g1 g2 g3) h2
  have e33 := ent hS.a33 (dg_r b0 b3 b1 b2 g0 g3 g1 g2) h3
  generalize v1 * dg r x y z + v3 * pl r y x z - v2 * mi r z x y = W1 at *
  generalize v1 * pl r z x y + v2 * dg r y x z - v3 * mi r x y z = W2 at *
  generalize v1 * mi r y x z - v2 * pl r x y z - v3 * dg r z x y = W3 at *
  have i1 : dg a b c d * (1152921504606846976 * w1 - W1) + -1 * (mi a d b c * (1152921504606846976 * w2 - W2)) + -1 * (pl a c b d * (1152921504606846976 * u3 - W3)) = 1152921504606846976 * (w1 * dg a b c d - w2 * mi a d b c - u3 * pl a c b d) - (dg a b c d * W1 - mi a d b c * W2 - pl a c b d * W3) := by grind
  have i2 : pl a d b c * (1152921504606846976 * w1 - W1) + 1 * (dg a c b d * (1152921504606846976 * w2 - W2)) + 1 * (mi a b c d * (1152921504606846976 * u3 - W3)) = 1152921504606846976 * (w1 * pl a d b c + w2 * dg a c b d + u3 * mi a b c d) - (pl a d b c * W1 + dg a c b d * W2 + mi a b c d * W3) := by grind
  have i3 : mi a c b d * (1152921504606846976 * w1 - W1) + 1 * (dg a d b c * (1152921504606846976 * u3 - W3)) + -1 * (pl a b c d * (1152921504606846976 * w2 - W2)) = 1152921504606846976 * (w1 * mi a c b d + u3 * dg a d b c - w2 * pl a b c d) - (mi a c b d * W1 + dg a d b c * W3 - pl a b c d * W2) := by grind
  rw [i1, c1] at t1'
  rw [i2, c2] at t2'
  rw [i3, c3] at t3'
  generalize w1 * dg a b c d - w2 * mi a d b c - u3 * pl a c b d = Q1 at *
  generalize w1 * pl a d b c + w2 * dg a c b d + u3 * mi a b c d = Q2 at *
  generalize w1 * mi a c b d + u3 * dg a d b c - w2 * pl a b c d = Q3 at *
  clear i1 i2 i3 c1 c2 c3 hM hL hS hp hq k1 k2 k3 y1 y2 y3 d1 d2 d3 w1b w2b u3b b0 b1 b2 b3 g0 g1 g2 g3
  unfold Wi Nr at *
  refine ⟨?_, ?_, ?_⟩
  · clear e21 e22 e23 e31 e32 e33 f2 f3 t2' t3' x2 x3
    omega
  · clear e11 e12 e13 e31 e32 e33 f1 f3 t1' t3' x1 x3
    omega
  · clear e11 e12 e13 e21 e22 e23 f1 f2 t1' t2' x1 x2
    omega
end Go.Proofs.Ytplojnnjkpeifaa.Tr

/- TrI -/
namespace Go.Proofs.Ytplojnnjkpeifaa.Tr
open Go SX
theorem quotU {a n : Int} (n1 : 1 ≤ n) (n2 : n ≤ 1152921504606846976) (a1 : -n ≤ a) (a2 : a ≤ n) : ∃ p, U 4 [a, n, 30] = p ∧ (-n ≤ 2 * (n * p - a * 1073741824) ∧ 2 * (n * p - a * 1073741824) ≤ n) ∧ -1073741824 ≤ p ∧ p ≤ 1073741824 := by
  rw [U4_is (by omega) (by omega) n1 n2]
  have hi := divZ_in (v := a * 1073741824) (d := n) (B := 1073741824) n1 (by decide) (by omega) (by omega)
  have hn := divv_nr (v := a * 1073741824) (d := n) n1 (by omega)
  exact ⟨_, rfl, hn, Nm.cap_of n1 (by decide) ⟨a1, a2⟩ hn⟩
/-- Divided by their length twice. -/
theorem unt_of {a b c d n p0 p1 p2 p3 m r0 r1 r2 r3 : Int} (ha : Wi 1152921504606846976 a) (hb : Wi 1152921504606846976 b) (hc : Wi 1152921504606846976 c) (hd : Wi 1152921504606846976 d) (h0 : ¬ (a = 0 ∧ b = 0 ∧ c = 0 ∧ d = 0))
    (en : n = U 32 [a, b, c, d]) (e0 : p0 = U 4 [a, n, 30]) (e1 : p1 = U 4 [b, n, 30]) (e2 : p2 = U 4 [c, n, 30]) (e3 : p3 = U 4 [d, n, 30])
    (em : m = U 32 [p0, p1, p2, p3]) (f0 : r0 = U 4 [p0, m, 30]) (f1 : r1 = U 4 [p1, m, 30]) (f2 : r2 = U 4 [p2, m, 30]) (f3 : r3 = U 4 [p3, m, 30]) : Unt r0 r1 r2 r3 := by
  obtain ⟨n', hn', sp⟩ := sq_sp4 (a := a) (b := b) (c := c) (d := d) ha.1 ha.2 hb.1 hb.2 hc.1 hc.2 hd.1 hd.2
  have k1 := Nm.sqnn a
  have k2 := Nm.sqnn b
  have k3 := Nm.sqnn c
  have k4 := Nm.sqnn d
  have nn := sp.nn
  have npos : 1 ≤ n' := by
    refine Int.not_lt.1 fun hc => ?_
    have hz : n' = 0 := by omega
    have hh := sp.hi
    rw [hz] at hh
    have z : ∀ {x : Int}, x * x ≤ 0 → x = 0 := fun {x} hx => by
      have := abs_of_sq (x := x) (B := 0) (by decide) (by omega)
      omega
    have z1 := z (x := a) (by omega)
    have z2 := z (x := b) (by omega)
    have z3 := z (x := c) (by omega)
    have z4 := z (x := d) (by omega)
    omega
  have inb : ∀ {x : Int}, x * x ≤ a * a + b * b + c * c + d * d → -n' ≤ x ∧ x ≤ n' := fun {x} hx => Nm.abs_le_of nn (by have := sp.hi; omega)
  have i1 := inb (x := a) (by omega)
  have i2 := inb (x := b) (by omega)
  have i3 := inb (x := c) (by omega)
  have i4 := inb (x := d) (by omega)
  have hn : n = n' ∧ n' ≤ 1152921504606846976 ∨ n = 1152921504606846976 ∧ 1152921504606846976 < n' := by
    rw [en, hn']
    rcases Int.lt_or_le 1152921504606846976 n' with h | h
    · right; exact ⟨by unfold satv; rw [if_neg (by omega), if_pos h], h⟩
    · left; exact ⟨satv_id (by unfold mx; omega) (by unfold mx; omega), h⟩
  have nlo : n * n - n < a * a + b * b + c * c + d * d := by
    have l : n' * n' - n' < a * a + b * b + c * c + d * d := by rcases sp.lo with h | h <;> omega
    rcases hn with h | h
    · rw [h.1]; exact l
    · rw [h.1]
      have k := Int.mul_le_mul (show 1152921504606846976 ≤ n' by omega) (show 1152921504606846975 ≤ n' - 1 by omega) (by decide) (by omega)
      have e : n' * (n' - 1) = n' * n' - n' := by grind
      omega
  have nb : 1 ≤ n ∧ n ≤ 1152921504606846976 := by omega
  obtain ⟨x0, g0, s0, b0⟩ := quotU (a := a) nb.1 nb.2 (by have := ha.1; omega) (by have := ha.2; omega)
  obtain ⟨x1, g1, s1, b1⟩ := quotU (a := b) nb.1 nb.2 (by have := hb.1; omega) (by have := hb.2; omega)
  obtain ⟨x2, g2, s2, b2⟩ := quotU (a := c) nb.1 nb.2 (by have := hc.1; omega) (by have := hc.2; omega)
  obtain ⟨x3, g3, s3, b3⟩ := quotU (a := d) nb.1 nb.2 (by have := hd.1; omega) (by have := hd.2; omega)
  rw [g0] at e0
  rw [g1] at e1
  rw [g2] at e2
  rw [g3] at e3
  subst e0 e1 e2 e3
  obtain ⟨m', hm', spm⟩ := sq_sp4 (a := p0) (b := p1) (c := p2) (d := p3) (by omega) (by omega) (by omega) (by omega) (by omega) (by omega) (by omega) (by omega)
  have q1 := Nm.sqnn p0
  have q2 := Nm.sqnn p1
  have q3 := Nm.sqnn p2
  have q4 := Nm.sqnn p3
  have c1 := bil b0.1 b0.2 b0.1 b0.2
  have c2 := bil b1.1 b1.2 b1.1 b1.2
  have c3 := bil b2.1 b2.2 b2.1 b2.2
  have c4 := bil b3.1 b3.2 b3.1 b3.2
  have mb : m' ≤ 2147483700 := by
    refine Int.not_lt.1 fun hc => ?_
    rcases spm.lo with h | h
    · omega
    · have k := Int.mul_le_mul (show 2147483700 ≤ m' by omega) (show 2147483700 ≤ m' - 1 by omega) (by omega) (by omega)
      have e : m' * (m' - 1) = m' * m' - m' := by grind
      omega
  have m0 := spm.nn
  rw [hm', satv_id (by unfold mx; omega) (by unfold mx; omega)] at em
  subst em
  have eA : Nm.sq [a, b, c, d] = a * a + b * b + c * c + d * d := by show (((0 + d * d) + c * c) + b * b) + a * a = _; omega
  have eP : Nm.sq [p0, p1, p2, p3] = p0 * p0 + p1 * p1 + p2 * p2 + p3 * p3 := by show (((0 + p3 * p3) + p2 * p2) + p1 * p1) + p0 * p0 = _; omega
  have nearP : Nm.Near n 1073741824 [p0, p1, p2, p3] [a, b, c, d] := ⟨s0, s1, s2, s3, trivial⟩
  have spm' : Nm.Sp m (Nm.sq [p0, p1, p2, p3]) := by rw [eP]; exact spm
  have low := Nm.unit_low nb.1 nearP (show 4 ≤ 4 by decide) (by rw [eA]; exact nlo) spm'
  have inm : ∀ {x : Int}, x * x ≤ p0 * p0 + p1 * p1 + p2 * p2 + p3 * p3 → -m ≤ x ∧ x ≤ m := fun {x} hx => Nm.abs_le_of m0 (by have := spm.hi; omega)
  have j0 := inm (x := p0) (by omega)
  have j1 := inm (x := p1) (by omega)
  have j2 := inm (x := p2) (by omega)
  have j3 := inm (x := p3) (by omega)
  obtain ⟨y0, h0', t0, _⟩ := quotU (a := p0) (n := m) (by omega) (by omega) j0.1 j0.2
  obtain ⟨y1, h1', t1, _⟩ := quotU (a := p1) (n := m) (by omega) (by omega) j1.1 j1.2
  obtain ⟨y2, h2', t2, _⟩ := quotU (a := p2) (n := m) (by omega) (by omega) j2.1 j2.2
  obtain ⟨y3, h3', t3, _⟩ := quotU (a := p3) (n := m) (by omega) (by omega) j3.1 j3.2
  rw [h0'] at f0
  rw [h1'] at f1
  rw [h2'] at f2
  rw [h3'] at f3
  subst f0 f1 f2 f3
  have fin := Nm.unit_near nb.1 nearP (show 4 ≤ 4 by decide) (by rw [eA]; exact nlo) spm' (rs := [r0, r1, r2, r3]) ⟨t0, t1, t2, t3, trivial⟩
  have eR : Nm.sq [r0, r1, r2, r3] = r0 * r0 + r1 * r1 + r2 * r2 + r3 * r3 := by show (((0 + r3 * r3) + r2 * r2) + r1 * r1) + r0 * r0 = _; omega
  rw [eR] at fin
  exact ⟨fin.1, fin.2⟩
abbrev I34 (a : Int) : Prop := -17179869184 ≤ a ∧ a ≤ 17179869184
theorem Unt.i {r x y z : Int} (h : Unt r x y z) : I34 r ∧ I34 x ∧ I34 y ∧ I34 z := by
  have l := h.hi
  have k1 := Nm.sqnn r
  have k2 := Nm.sqnn x
  have k3 := Nm.sqnn y
  have k4 := Nm.sqnn z
  have a := abs_of_sq (x := r) (B := 1073742000) (by decide) (by omega)
  have b := abs_of_sq (x := x) (B := 1073742000) (by decide) (by omega)
  have c := abs_of_sq (x := y) (B := 1073742000) (by decide) (by omega)
  have d := abs_of_sq (x := z) (B := 1073742000) (by decide) (by omega)
  unfold I34
  omega
theorem mat_of {r x y z m11 n12 m13 m21 m22 n23 n31 m32 m33 : Int} (hi : I34 r ∧ I34 x ∧ I34 y ∧ I34 z)
    (e11 : m11 = U 18 [30, 2, r, r, x, x, y, y, z, z]) (e12 : n12 = U 18 [30, 2, r, z, r, z, x, y, x, y]) (e13 : m13 = U 16 [30, r, y, r, y, x, z, x, z])
    (e21 : m21 = U 16 [30, r, z, r, z, x, y, x, y]) (e22 : m22 = U 18 [30, 2, r, r, y, y, x, x, z, z]) (e23 : n23 = U 18 [30, 2, r, x, r, x, y, z, y, z])
    (e31 : n31 = U 18 [30, 2, r, y, r, y, x, z, x, z]) (e32 : m32 = U 16 [30, r, x, r, x, y, z, y, z]) (e33 : m33 = U 18 [30, 2, r, r, z, z, x, x, y, y]) : Mat r x y z m11 n12 m13 m21 m22 n23 n31 m32 m33 := by
  obtain ⟨hr, hx, hy, hz⟩ := hi
  have D : ∀ {m a b c d : Int}, I34 a → I34 b → I34 c → I34 d → m = U 18 [30, 2, a, a, b, b, c, c, d, d] → Nr m (dg a b c d) := fun {m a b c d} ha hb hc hd e => by
    obtain ⟨y, hy, h1, h2⟩ := M_diag ha hb hc hd
    rw [hy] at e; subst e; exact ⟨h1, h2⟩
  have M : ∀ {m a b c d : Int}, I34 a → I34 b → I34 c → I34 d → m = U 18 [30, 2, a, b, a, b, c, d, c, d] → Nr m (mi a b c d) := fun {m a b c d} ha hb hc hd e => by
    obtain ⟨y, hy, h1, h2⟩ := M_minus ha hb hc hd
    rw [hy] at e; subst e; exact ⟨h1, h2⟩
  have P : ∀ {m a b c d : Int}, I34 a → I34 b → I34 c → I34 d → m = U 16 [30, a, b, a, b, c, d, c, d] → Nr m (pl a b c d) := fun {m a b c d} ha hb hc hd e => by
    obtain ⟨y, hy, h1, h2⟩ := M_plus ha hb hc hd
    rw [hy] at e; subst e; exact ⟨h1, h2⟩
  exact ⟨D hr hx hy hz e11, M hr hz hx hy e12, P hr hy hx hz e13, P hr hz hx hy e21, D hr hy hx hz e22, M hr hx hy hz e23, M hr hy hx hz e31, P hr hx hy hz e32, D hr hz hx hy e33⟩
theorem Q_pmmm {a b c d e f g h y : Int} (ha : I34 a) (hb : I34 b) (hc : I34 c) (hd : I34 d) (he : I34 e) (hf : I34 f) (hg : I34 g) (hh : I34 h) (k : y = U 18 [30, 1, a, b, c, d, e, f, g, h]) : Nr y (a * b - c * d - e * f - g * h) := by
  have e0 : U 18 [30, 1, a, b, c, d, e, f, g, h] = satv (rnd (a * b - c * d - e * f - g * h) (30 : Int).toNat) := by
    show satv (rnd ((0 : Int) + satv a * satv b - ((((0 : Int) + satv g * satv h) + satv e * satv f) + satv c * satv d)) (30 : Int).toNat) = _
    rw [sid ha, sid hb, sid hc, sid hd, sid he, sid hf, sid hg, sid hh]; congr 2; omega
  have k1 := b34 ha hb
  have k2 := b34 hc hd
  have k3 := b34 he hf
  have k4 := b34 hg hh
  rw [k, e0]
  exact sat_rnd (by omega) (by omega)
theorem Q_pppm {a b c d e f g h y : Int} (ha : I34 a) (hb : I34 b) (hc : I34 c) (hd : I34 d) (he : I34 e) (hf : I34 f) (hg : I34 g) (hh : I34 h) (k : y = U 18 [30, 3, a, b, c, d, e, f, g, h]) : Nr y (a * b + c * d + e * f - g * h) := by
  have e0 : U 18 [30, 3, a, b, c, d, e, f, g, h] = satv (rnd (a * b + c * d + e * f - g * h) (30 : Int).toNat) := by
    show satv (rnd ((((0 : Int) + satv e * satv f) + satv c * satv d) + satv a * satv b - ((0 : Int) + satv g * satv h)) (30 : Int).toNat) = _
    rw [sid ha, sid hb, sid hc, sid hd, sid he, sid hf, sid hg, sid hh]; congr 2; omega
  have k1 := b34 ha hb
  have k2 := b34 hc hd
  have k3 := b34 he hf
  have k4 := b34 hg hh
  rw [k, e0]
  exact sat_rnd (by omega) (by omega)
theorem Mat.i {r x y z m11 n12 m13 m21 m22 n23 n31 m32 m33 : Int} (h : Mat r x y z m11 n12 m13 m21 m22 n23 n31 m32 m33) (hU : Unt r x y z) : (I43 m11 ∧ I43 n12 ∧ I43 m13) ∧ (I43 m21 ∧ I43 m22 ∧ I43 n23) ∧ I43 n31 ∧ I43 m32 ∧ I43 m33 := by
  have B : ∀ {m e : Int}, Wi 1152921508901814272 e → Nr m e → I43 m := fun {m e} h k => by unfold Wi at h; unfold I43; unfold Nr at k; omega
  exact ⟨⟨B hU.dg h.a11, B hU.p2.mi h.a12, B hU.p1.pl h.a13⟩, ⟨B hU.p2.pl h.a21, B hU.p1.dg h.a22, B hU.mi h.a23⟩, B hU.p1.mi h.a31, B hU.pl h.a32, B hU.p2.dg h.a33⟩
theorem N_ppm {a b c d e f y : Int} (ha : I43 a) (hb : I43 b) (hc : I43 c) (hd : I43 d) (he : I43 e) (hf : I43 f) (k : y = U 18 [30, 2, a, b, c, d, e, f]) : Nr y (a * b + c * d - e * f) := by
  obtain ⟨z, hz, h1, h2⟩ := R_ppm ha hb hc hd he hf
  rw [hz] at k; subst k; exact ⟨h1, h2⟩
theorem N_pmm {a b c d e f y : Int} (ha : I43 a) (hb : I43 b) (hc : I43 c) (hd : I43 d) (he : I43 e) (hf : I43 f) (k : y = U 18 [30, 1, a, b, c, d, e, f]) : Nr y (a * b - c * d - e * f) := by
  obtain ⟨z, hz, h1, h2⟩ := R_pmm ha hb hc hd he hf
  rw [hz] at k; subst k; exact ⟨h1, h2⟩
theorem N_ppp {a b c d e f y : Int} (ha : I43 a) (hb : I43 b) (hc : I43 c) (hd : I43 d) (he : I43 e) (hf : I43 f) (k : y = U 16 [30, a, b, c, d, e, f]) : Nr y (a * b + c * d + e * f) := by
  obtain ⟨z, hz, h1, h2⟩ := R_ppp ha hb hc hd he hf
  rw [hz] at k; subst k; exact ⟨h1, h2⟩
/-- A turned vector turned back; its length: by the program's names. -/
theorem both_T {r x y z m11 n12 m13 m21 m22 n23 n31 m32 m33 v1 v2 v3 w1 w2 u3 n3 nw nv b1 c2 b3 : Int} (hU : Unt r x y z) (hM : Mat r x y z m11 n12 m13 m21 m22 n23 n31 m32 m33) (h1 : Wi 1099511627776 v1) (h2 : Wi 1099511627776 v2) (h3 : Wi 1099511627776 v3)
    (e1 : w1 = U 18 [30, 2, v1, m11, v3, m13, v2, n12]) (e2 : w2 = U 18 [30, 2, v1, m21, v2, m22, v3, n23]) (e3 : u3 = U 18 [30, 1, v1, n31, v2, m32, v3, m33]) (e4 : n3 = (-1) * u3 + 0) (e5 : nw = U 32 [w1, w2, n3]) (e6 : nv = U 32 [v1, v2, v3])
    (f1 : b1 = U 16 [30, m11, w1, m21, w2, n31, u3]) (f2 : c2 = U 18 [30, 2, n12, w1, m32, u3, m22, w2]) (f3 : b3 = U 18 [30, 1, m13, w1, n23, w2, m33, u3]) :
    (Nr w1 (v1 * m11 + v3 * m13 - v2 * n12) ∧ Nr w2 (v1 * m21 + v2 * m22 - v3 * n23) ∧ Nr u3 (v1 * n31 - v2 * m32 - v3 * m33) ∧ I43 w1 ∧ I43 w2 ∧ I43 u3) ∧ Wi 32768 (b1 - v1) ∧ Wi 32768 (c2 + v2) ∧ Wi 32768 (b3 - v3) ∧ Wi 32768 (nw - nv) := by
  obtain ⟨⟨i11, i12, i13⟩, ⟨i21, i22, i23⟩, i31, i32, i33⟩ := hM.i hU
  have a1 : I43 v1 := by unfold Wi at h1; unfold I43; omega
  have a2 : I43 v2 := by unfold Wi at h2; unfold I43; omega
  have a3 : I43 v3 := by unfold Wi at h3; unfold I43; omega
  have k1 := N_ppm a1 i11 a3 i13 a2 i12 e1
  have k2 := N_ppm a1 i21 a2 i22 a3 i23 e2
  have k3 := N_pmm a1 i31 a2 i32 a3 i33 e3
  obtain ⟨_, _, _, w1b, w2b, u3b⟩ := turn_T hM hU h1 h2 h3 k1 k2 k3
  have c1 : I43 w1 := by unfold Wi at w1b; unfold I43; omega
  have c2' : I43 w2 := by unfold Wi at w2b; unfold I43; omega
  have c3 : I43 u3 := by unfold Wi at u3b; unfold I43; omega
  have j1 := N_ppp i11 c1 i21 c2' i31 c3 f1
  have j2 := N_ppm i12 c1 i32 c3 i22 c2' f2
  have j3 := N_pmm i13 c1 i23 c2' i33 c3 f3
  rw [show m11 * w1 + m21 * w2 + n31 * u3 = w1 * m11 + w2 * m21 + u3 * n31 by grind] at j1
  rw [show n12 * w1 + m32 * u3 - m22 * w2 = w1 * n12 + u3 * m32 - w2 * m22 by grind] at j2
  rw [show m13 * w1 - n23 * w2 - m33 * u3 = w1 * m13 - w2 * n23 - u3 * m33 by grind] at j3
  obtain ⟨q1, q2, q3⟩ := back_T hM hU h1 h2 h3 k1 k2 k3 j1 j2 j3
  obtain ⟨nv', hv, sv⟩ := sq_sp3 (a := v1) (b := v2) (c := v3) (by unfold Wi at *; omega) (by unfold Wi at *; omega) (by unfold Wi at *; omega) (by unfold Wi at *; omega) (by unfold Wi at *; omega) (by unfold Wi at *; omega)
  have e4' : n3 = -u3 := by omega
  obtain ⟨nw', hw, sw⟩ := sq_sp3 (a := w1) (b := w2) (c := n3) (by unfold Wi at *; omega) (by unfold Wi at *; omega) (by unfold Wi at *; omega) (by unfold Wi at *; omega) (by unfold Wi at *; omega) (by unfold Wi at *; omega)
  have bound : ∀ {n a b c : Int}, Wi 4398046511104 a → Wi 4398046511104 b → Wi 4398046511104 c → Nm.Sp n (a * a + b * b + c * c) → satv n = n := fun {n a b c} ha hb hc hs => by
    have y1 := bil ha.1 ha.2 ha.1 ha.2
    have y2 := bil hb.1 hb.2 hb.1 hb.2
    have y3 := bil hc.1 hc.2 hc.1 hc.2
    have n0 := hs.nn
    have nb : n ≤ 8796093022208 := by
      refine Int.not_lt.1 fun hc => ?_
      rcases hs.lo with h | h
      · omega
      · have k := Int.mul_le_mul (show 8796093022208 ≤ n by omega) (show 8796093022208 ≤ n - 1 by omega) (by omega) n0
        have e : n * (n - 1) = n * n - n := by grind
        omega
    exact satv_id (by unfold mx; omega) (by unfold mx; omega)
  have un : Wi 4398046511104 n3 := by unfold Wi at *; omega
  have V : ∀ {v : Int}, Wi 1099511627776 v → Wi 4398046511104 v := fun {v} h => by unfold Wi at *; omega
  rw [hv, bound (V h1) (V h2) (V h3) sv] at e6
  rw [hw, bound w1b w2b un sw] at e5
  subst e5 e6
  have sw' : Nm.Sp nw (w1 * w1 + w2 * w2 + u3 * u3) := by
    have : n3 * n3 = u3 * u3 := by rw [e4']; grind
    rw [this] at sw; exact sw
  have q4 := len_T hM hU h1 h2 h3 k1 k2 k3 sv sw'
  exact ⟨⟨k1, k2, k3, c1, c2', c3⟩, q1, q2, q3, q4⟩
theorem eqlF' (a b : Int) : cmpF .eql a b = decide (a = b) := by
  show ieq a b = _
  exact ieq_iff a b
/-- All four nought. -/
theorem zero4 {a b c d z1 z2 z3 z4 z5 z6 z7 : Int} (e1 : z1 = b2i (cmpF .eql a 0)) (e2 : z2 = b2i (cmpF .eql b 0)) (e3 : z3 = bif ieq z1 1 then z2 else 0) (e4 : z4 = b2i (cmpF .eql c 0)) (e5 : z5 = bif ieq z3 1 then z4 else 0) (e6 : z6 = b2i (cmpF .eql d 0)) (e7 : z7 = bif ieq z5 1 then z6 else 0) :
    ieq z7 1 = decide (a = 0 ∧ b = 0 ∧ c = 0 ∧ d = 0) := by
  rw [eqlF'] at e1 e2 e4 e6
  by_cases h1 : a = 0 <;> by_cases h2 : b = 0 <;> by_cases h3 : c = 0 <;> by_cases h4 : d = 0 <;> simp [h1, h2, h3, h4] at e1 e2 e4 e6 ⊢ <;> subst e1 e2 <;> subst e3 e4 <;> subst e5 e6 <;> subst e7 <;> rfl
/-- Two turns, by the program's names. -/
theorem prod_U {a b c d r x y z t0 t1 t2 t3 : Int} {m11 n12 m13 m21 m22 n23 n31 m32 m33 l11 k12 l13 l21 l22 k23 k31 l32 l33 s11 o12 s13 s21 s22 o23 o31 s32 s33 v1 v2 v3 w1 w2 u3 X1 X2 X3 Y1 Y2 Y3 : Int}
    (hp : Unt a b c d) (hq : Unt r x y z) (f0 : t0 = U 18 [30, 1, r, a, x, b, y, c, z, d]) (f1 : t1 = U 18 [30, 3, r, b, x, a, z, c, y, d]) (f2 : t2 = U 18 [30, 3, r, c, x, d, y, a, z, b]) (f3 : t3 = U 18 [30, 3, r, d, y, b, z, a, x, c])
    (hM : Mat r x y z m11 n12 m13 m21 m22 n23 n31 m32 m33) (hL : Mat a b c d l11 k12 l13 l21 l22 k23 k31 l32 l33)
    (e11 : s11 = U 18 [30, 2, t0, t0, t1, t1, t2, t2, t3, t3]) (e12 : o12 = U 18 [30, 2, t0, t3, t0, t3, t1, t2, t1, t2]) (e13 : s13 = U 16 [30, t0, t2, t0, t2, t1, t3, t1, t3])
    (e21 : s21 = U 16 [30, t0, t3, t0, t3, t1, t2, t1, t2]) (e22 : s22 = U 18 [30, 2, t0, t0, t2, t2, t1, t1, t3, t3]) (e23 : o23 = U 18 [30, 2, t0, t1, t0, t1, t2, t3, t2, t3])
    (e31 : o31 = U 18 [30, 2, t0, t2, t0, t2, t1, t3, t1, t3]) (e32 : s32 = U 16 [30, t0, t1, t0, t1, t2, t3, t2, t3]) (e33 : s33 = U 18 [30, 2, t0, t0, t3, t3, t1, t1, t2, t2])
    (h1 : Wi 1099511627776 v1) (h2 : Wi 1099511627776 v2) (h3 : Wi 1099511627776 v3)
    (hk : Nr w1 (v1 * m11 + v3 * m13 - v2 * n12) ∧ Nr w2 (v1 * m21 + v2 * m22 - v3 * n23) ∧ Nr u3 (v1 * n31 - v2 * m32 - v3 * m33) ∧ I43 w1 ∧ I43 w2 ∧ I43 u3)
    (x1 : X1 = U 18 [30, 2, v1, s11, v3, s13, v2, o12]) (x2 : X2 = U 18 [30, 2, v1, s21, v2, s22, v3, o23]) (x3 : X3 = U 18 [30, 1, v1, o31, v2, s32, v3, s33])
    (y1 : Y1 = U 18 [30, 1, w1, l11, w2, k12, u3, l13]) (y2 : Y2 = U 16 [30, w1, l21, w2, l22, u3, k23]) (y3 : Y3 = U 18 [30, 2, w1, k31, u3, l33, w2, l32]) :
    Wi 32768 (X1 - Y1) ∧ Wi 32768 (X2 - Y2) ∧ Wi 32768 (X3 - Y3) := by
  obtain ⟨hr, hx, hy, hz⟩ := hq.i
  obtain ⟨ha, hb, hc, hd⟩ := hp.i
  have g0 : Nr t0 (q0 a b c d r x y z) := Q_pmmm hr ha hx hb hy hc hz hd f0
  have g1 : Nr t1 (q1 a b c d r x y z) := Q_pppm hr hb hx ha hz hc hy hd f1
  have g2 : Nr t2 (q2 a b c d r x y z) := Q_pppm hr hc hx hd hy ha hz hb f2
  have g3 : Nr t3 (q3 a b c d r x y z) := Q_pppm hr hd hy hb hz ha hx hc f3
  obtain ⟨b0, b1, b2, b3⟩ := q_in hp hq
  have I : ∀ {t T : Int}, Wi 1152921508901814272 T → Nr t T → I34 t := fun {t T} h k => by unfold Wi at h; unfold I34; unfold Nr at k; omega
  have hi : I34 t0 ∧ I34 t1 ∧ I34 t2 ∧ I34 t3 := ⟨I b0 g0, I b1 g1, I b2 g2, I b3 g3⟩
  have hS := mat_of hi e11 e12 e13 e21 e22 e23 e31 e32 e33
  have B : ∀ {t m e : Int}, I34 t → Nr m e → (-(2361183241434822606848) ≤ e ∧ e ≤ 2361183241434822606848) → I43 m := fun {t m e} _ k h => by unfold I43; unfold Nr at k; omega
  have sq : ∀ {t s : Int}, I34 t → I34 s → -295147905179352825856 ≤ t * s ∧ t * s ≤ 295147905179352825856 := fun h k => b34 h k
  obtain ⟨i0, i1, i2, i3⟩ := hi
  have z00 := sq i0 i0
  have z11 := sq i1 i1
  have z22 := sq i2 i2
  have z33 := sq i3 i3
  have z01 := sq i0 i1
  have z02 := sq i0 i2
  have z03 := sq i0 i3
  have z12 := sq i1 i2
  have z13 := sq i1 i3
  have z23 := sq i2 i3
  have j11 := B i0 hS.a11 (by unfold dg; omega)
  have j12 := B i0 hS.a12 (by unfold mi; omega)
  have j13 := B i0 hS.a13 (by unfold pl; omega)
  have j21 := B i0 hS.a21 (by unfold pl; omega)
  have j22 := B i0 hS.a22 (by unfold dg; omega)
  have j23 := B i0 hS.a23 (by unfold mi; omega)
  have j31 := B i0 hS.a31 (by unfold mi; omega)
  have j32 := B i0 hS.a32 (by unfold pl; omega)
  have j33 := B i0 hS.a33 (by unfold dg; omega)
  have a1 : I43 v1 := by unfold Wi at h1; unfold I43; omega
  have a2 : I43 v2 := by unfold Wi at h2; unfold I43; omega
  have a3 : I43 v3 := by unfold Wi at h3; unfold I43; omega
  obtain ⟨⟨p11, p12, p13⟩, ⟨p21, p22, p23⟩, p31, p32, p33⟩ := hL.i hp
  obtain ⟨k1, k2, k3, c1, c2, c3⟩ := hk
  exact prod_T hp hq g0 g1 g2 g3 hM hL hS h1 h2 h3 k1 k2 k3 (N_ppm a1 j11 a3 j13 a2 j12 x1) (N_ppm a1 j21 a2 j22 a3 j23 x2) (N_pmm a1 j31 a2 j32 a3 j33 x3)
    (N_pmm c1 p11 c2 p12 c3 p13 y1) (N_ppp c1 p21 c2 p22 c3 p23 y2) (N_ppm c1 p31 c3 p33 c2 p32 y3)
end Go.Proofs.Ytplojnnjkpeifaa.Tr
