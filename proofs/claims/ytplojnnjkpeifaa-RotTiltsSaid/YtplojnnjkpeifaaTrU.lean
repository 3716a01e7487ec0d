/- Small rotations. Numbers alone. -/
import Derived.Test.YtplojnnjkpeifaaTrV
namespace Go.Proofs.Ytplojnnjkpeifaa.Tr
open Go SX
theorem sat_rnd {V : Int} (h1 : -618970019642690137449562112 ≤ V) (h2 : V ≤ 618970019642690137449562112) : -536870912 ≤ 1073741824 * satv (rnd V (30 : Int).toNat) - V ∧ 1073741824 * satv (rnd V (30 : Int).toNat) - V ≤ 536870912 := by
  have hr := rnd_nr V 30
  have e : ((2 ^ 30 : Nat) : Int) = 1073741824 := by decide
  have e' : (30 : Int).toNat = 30 := by decide
  rw [e] at hr
  rw [e', satv_id (by unfold mx; omega) (by unfold mx; omega)]
  omega
theorem sid {a : Int} (h : -17179869184 ≤ a ∧ a ≤ 17179869184) : satv a = a := satv_id (by unfold mx; omega) (by unfold mx; omega)
theorem b34 {a b : Int} (h : -17179869184 ≤ a ∧ a ≤ 17179869184) (k : -17179869184 ≤ b ∧ b ≤ 17179869184) : -295147905179352825856 ≤ a * b ∧ a * b ≤ 295147905179352825856 := by
  have := bil h.1 h.2 k.1 k.2
  omega
theorem M_diag {a b c d : Int} (ha : -17179869184 ≤ a ∧ a ≤ 17179869184) (hb : -17179869184 ≤ b ∧ b ≤ 17179869184) (hc : -17179869184 ≤ c ∧ c ≤ 17179869184) (hd : -17179869184 ≤ d ∧ d ≤ 17179869184) :
    ∃ y, U 18 [30, 2, a, a, b, b, c, c, d, d] = y ∧ -536870912 ≤ 1073741824 * y - (a * a + b * b - c * c - d * d) ∧ 1073741824 * y - (a * a + b * b - c * c - d * d) ≤ 536870912 := by
  refine ⟨_, rfl, ?_⟩
  have e : U 18 [30, 2, a, a, b, b, c, c, d, d] = satv (rnd (a * a + b * b - c * c - d * d) (30 : Int).toNat) := by
    show satv (rnd (((0 : Int) + satv b * satv b) + satv a * satv a - (((0 : Int) + satv d * satv d) + satv c * satv c)) (30 : Int).toNat) = _
    rw [sid ha, sid hb, sid hc, sid hd]; congr 2; omega
  have k1 := b34 ha ha
  have k2 := b34 hb hb
  have k3 := b34 hc hc
  have k4 := b34 hd hd
  rw [e]
  exact sat_rnd (by omega) (by omega)
theorem M_minus {a b c d : Int} (ha : -17179869184 ≤ a ∧ a ≤ 17179869184) (hb : -17179869184 ≤ b ∧ b ≤ 17179869184) (hc : -17179869184 ≤ c ∧ c ≤ 17179869184) (hd : -17179869184 ≤ d ∧ d ≤ 17179869184) :
    ∃ y, U 18 [30, 2, a, b, a, b, c, d, c, d] = y ∧ -536870912 ≤ 1073741824 * y - (2 * (a * b) - 2 * (c * d)) ∧ 1073741824 * y - (2 * (a * b) - 2 * (c * d)) ≤ 536870912 := by
  refine ⟨_, rfl, ?_⟩
  have e : U 18 [30, 2, a, b, a, b, c, d, c, d] = satv (rnd (2 * (a * b) - 2 * (c * d)) (30 : Int).toNat) := by
    show satv (rnd (((0 : Int) + satv a * satv b) + satv a * satv b - (((0 : Int) + satv c * satv d) + satv c * satv d)) (30 : Int).toNat) = _
    rw [sid ha, sid hb, sid hc, sid hd]; congr 2; omega
  have k1 := b34 ha hb
  have k2 := b34 hc hd
  rw [e]
  exact sat_rnd (by omega) (by omega)
theorem M_plus {a b c d : Int} (ha : -17179869184 ≤ a ∧ a ≤ 17179869184) (hb : -17179869184 ≤ b ∧ b ≤ 17179869184) (hc : -17179869184 ≤ c ∧ c ≤ 17179869184) (hd : -17179869184 ≤ d ∧ d ≤ 17179869184) :
    ∃ y, U 16 [30, a, b, a, b, c, d, c, d] = y ∧ -536870912 ≤ 1073741824 * y - (2 * (a * b) + 2 * (c * d)) ∧ 1073741824 * y - (2 * (a * b) + 2 * (c * d)) ≤ 536870912 := by
  refine ⟨_, rfl, ?_⟩
  have e : U 16 [30, a, b, a, b, c, d, c, d] = satv (rnd (2 * (a * b) + 2 * (c * d)) (30 : Int).toNat) := by
    show satv (rnd (((((0 : Int) + satv c * satv d) + satv c * satv d) + satv a * satv b) + satv a * satv b) (30 : Int).toNat) = _
    rw [sid ha, sid hb, sid hc, sid hd]; congr 2; omega
  have k1 := b34 ha hb
  have k2 := b34 hc hd
  rw [e]
  exact sat_rnd (by omega) (by omega)
theorem D_21 {a b c d e f : Int} (ha : -17179869184 ≤ a ∧ a ≤ 17179869184) (hb : -17179869184 ≤ b ∧ b ≤ 17179869184) (hc : -17179869184 ≤ c ∧ c ≤ 17179869184) (hd : -17179869184 ≤ d ∧ d ≤ 17179869184) (he : -17179869184 ≤ e ∧ e ≤ 17179869184) (hf : -17179869184 ≤ f ∧ f ≤ 17179869184) :
    ∃ y, U 18 [30, 2, a, b, c, d, e, f] = y ∧ -536870912 ≤ 1073741824 * y - (a * b + c * d - e * f) ∧ 1073741824 * y - (a * b + c * d - e * f) ≤ 536870912 := by
  refine ⟨_, rfl, ?_⟩
  have e0 : U 18 [30, 2, a, b, c, d, e, f] = satv (rnd (a * b + c * d - e * f) (30 : Int).toNat) := by
    show satv (rnd (((0 : Int) + satv c * satv d) + satv a * satv b - ((0 : Int) + satv e * satv f)) (30 : Int).toNat) = _
    rw [sid ha, sid hb, sid hc, sid hd, sid he, sid hf]; congr 2; omega
  have k1 := b34 ha hb
  have k2 := b34 hc hd
  have k3 := b34 he hf
  rw [e0]
  exact sat_rnd (by omega) (by omega)
theorem D_12 {a b c d e f : Int} (ha : -17179869184 ≤ a ∧ a ≤ 17179869184) (hb : -17179869184 ≤ b ∧ b ≤ 17179869184) (hc : -17179869184 ≤ c ∧ c ≤ 17179869184) (hd : -17179869184 ≤ d ∧ d ≤ 17179869184) (he : -17179869184 ≤ e ∧ e ≤ 17179869184) (hf : -17179869184 ≤ f ∧ f ≤ 17179869184) :
    ∃ y, U 18 [30, 1, a, b, c, d, e, f] = y ∧ -536870912 ≤ 1073741824 * y - (a * b - c * d - e * f) ∧ 1073741824 * y - (a * b - c * d - e * f) ≤ 536870912 := by
  refine ⟨_, rfl, ?_⟩
  have e0 : U 18 [30, 1, a, b, c, d, e, f] = satv (rnd (a * b - c * d - e * f) (30 : Int).toNat) := by
    show satv (rnd ((0 : Int) + satv a * satv b - (((0 : Int) + satv e * satv f) + satv c * satv d)) (30 : Int).toNat) = _
    rw [sid ha, sid hb, sid hc, sid hd, sid he, sid hf]; congr 2; omega
  have k1 := b34 ha hb
  have k2 := b34 hc hd
  have k3 := b34 he hf
  rw [e0]
  exact sat_rnd (by omega) (by omega)
theorem D_11 {a b c d : Int} (ha : -17179869184 ≤ a ∧ a ≤ 17179869184) (hb : -17179869184 ≤ b ∧ b ≤ 17179869184) (hc : -17179869184 ≤ c ∧ c ≤ 17179869184) (hd : -17179869184 ≤ d ∧ d ≤ 17179869184) :
    ∃ y, U 18 [30, 1, a, b, c, d] = y ∧ -536870912 ≤ 1073741824 * y - (a * b - c * d) ∧ 1073741824 * y - (a * b - c * d) ≤ 536870912 := by
  refine ⟨_, rfl, ?_⟩
  have e0 : U 18 [30, 1, a, b, c, d] = satv (rnd (a * b - c * d) (30 : Int).toNat) := by
    show satv (rnd ((0 : Int) + satv a * satv b - ((0 : Int) + satv c * satv d)) (30 : Int).toNat) = _
    rw [sid ha, sid hb, sid hc, sid hd]; congr 2; omega
  have k1 := b34 ha hb
  have k2 := b34 hc hd
  rw [e0]
  exact sat_rnd (by omega) (by omega)
/-- Sine and cosine of small angles. -/
def m2L : List Int := cnL.drop 2
theorem cnL_is : cnL = DT :: 0 :: m2L := by decide +kernel
theorem l2_small : ile (2097152 * (1000000 * evA l2L 1000000)) c1L = true := by decide +kernel
theorem m2_small : ile (1048576 * (1000000 * (1000000 * evA m2L 1000000))) DT = true := by decide +kernel
theorem small_T {h : Int} (h1 : 0 ≤ h) (h2 : h ≤ 1000000) : (-8200 ≤ sT h - 16384 * h ∧ sT h - 16384 * h ≤ 8200) ∧ 17592169267198 ≤ cT h := by
  constructor
  · have f := fl (sN h)
    have hb := ev_bd (x := h) (B := 1000000) (by omega) (by omega) l2L
    have hc := l2_small
    rw [ile_iff, decide_eq_true_eq] at hc
    have e : sN h = h * (c1L + h * ev l2L h) := by
      unfold sN
      rw [snL_is]; simp only [ev]; grind
    have k := bil (u := h) (B := 1000000) (by omega) (by omega) hb.1 hb.2
    have hd := c1_D
    have hp := DT_pos
    change DT * sT h ≤ _ ∧ _ < DT * sT h + DT at f
    generalize sT h = q at *
    generalize h * ev l2L h = v at *
    generalize 1000000 * evA l2L 1000000 = m at *
    generalize hcc : c1L = c at *
    rw [e] at f
    have k1 := Int.mul_nonneg h1 (show 0 ≤ c - 2097152 * v by omega)
    have k2 := Int.mul_nonneg h1 (show 0 ≤ c + 2097152 * v by omega)
    have e1 : h * (c - 2097152 * v) = h * c - 2097152 * (h * v) := by grind
    have e2 : h * (c + 2097152 * v) = h * c + 2097152 * (h * v) := by grind
    have e3 : DT * q = 1073741824 * (c * q) := by rw [← hd]; grind
    have e4 : h * (c + v) * 17592186044416 = 17592186044416 * (h * c) + 17592186044416 * (h * v) := by grind
    have e7 : h * c ≤ 1000000 * c := Int.mul_le_mul_of_nonneg_right h2 (by omega)
    rw [e3, e4] at f
    have hc0 : 0 < c := by omega
    constructor
    · refine Int.le_of_mul_le_mul_left (a := c) ?_ hc0
      have e5 : c * (q - 16384 * h) = c * q - 16384 * (h * c) := by grind
      rw [e5]; omega
    · refine Int.le_of_mul_le_mul_left (a := c) ?_ hc0
      have e5 : c * (q - 16384 * h) = c * q - 16384 * (h * c) := by grind
      rw [e5]; omega
  · have f := fl (cN h)
    have hb := ev_bd (x := h) (B := 1000000) (by omega) (by omega) m2L
    have k := bil (u := h) (B := 1000000) (by omega) (by omega) hb.1 hb.2
    have k2 := bil (u := h) (B := 1000000) (by omega) (by omega) k.2 k.1
    have hc := m2_small
    rw [ile_iff, decide_eq_true_eq] at hc
    have e : cN h = DT + h * (h * ev m2L h) := by
      unfold cN
      rw [cnL_is]; simp only [ev]; grind
    have hp := DT_pos
    change DT * cT h ≤ _ ∧ _ < DT * cT h + DT at f
    have k3 := bil (u := h) (B := 1000000) (by omega) (by omega) (d := h * ev m2L h) (S := 1000000 * evA m2L 1000000) (by omega) (by omega)
    generalize cT h = q at *
    generalize h * (h * ev m2L h) = v at *
    generalize 1000000 * (1000000 * evA m2L 1000000) = m at *
    rw [e] at f
    generalize DT = d at *
    refine Int.le_of_mul_le_mul_left (a := d) ?_ hp
    omega
theorem small_c {n p s h v r : Int} (n0 : 1 ≤ n) (n1 : n ≤ 2000000) (p1 : -n ≤ p) (p2 : p ≤ n) (h1 : -1 ≤ 2 * h - n ∧ 2 * h - n ≤ 1) (hs : -36561 ≤ 16384 * s - sT h ∧ 16384 * s - sT h ≤ 36561) (hT : -8200 ≤ sT h - 16384 * h ∧ sT h - 16384 * h ≤ 8200)
    (hv : -(2 * n) ≤ n * v - p * s ∧ n * v - p * s ≤ 2 * n) (hr : -24 ≤ r - v ∧ r - v ≤ 24) : -58 ≤ 2 * r - p ∧ 2 * r - p ≤ 58 := by
  have k := bil p1 p2 (d := 2 * s - n) (S := 5) (by omega) (by omega)
  have e : n * (2 * v - p) = 2 * (n * v - p * s) + p * (2 * s - n) := by grind
  have w : -10 ≤ 2 * v - p ∧ 2 * v - p ≤ 10 := by
    constructor
    · refine Int.not_lt.1 fun hc => ?_
      have := Int.mul_le_mul_of_nonneg_left (show 2 * v - p ≤ -11 by omega) (show 0 ≤ n by omega)
      omega
    · refine Int.not_lt.1 fun hc => ?_
      have := Int.mul_le_mul_of_nonneg_left (show 11 ≤ 2 * v - p by omega) (show 0 ≤ n by omega)
      omega
  omega
theorem sq_small {r : Int} (h : -524350 ≤ r ∧ r ≤ 524350) : 0 ≤ r * r ∧ r * r ≤ 274942922500 := by
  have k := bil h.1 h.2 h.1 h.2
  have k2 := Nm.sqnn r
  omega
/-- The matrix of a small rotation. -/
theorem diag_small {m a b c d : Int} (ha : 1073740700 ≤ a ∧ a ≤ 1073741900) (hb : -524350 ≤ b ∧ b ≤ 524350) (hc : -524350 ≤ c ∧ c ≤ 524350) (hd : -524350 ≤ d ∧ d ≤ 524350)
    (h1 : -536870912 ≤ 1073741824 * m - (a * a + b * b - c * c - d * d)) (h2 : 1073741824 * m - (a * a + b * b - c * c - d * d) ≤ 536870912) : -3100 ≤ m - 1073741824 ∧ m - 1073741824 ≤ 3100 := by
  have k0 := bil (u := a + 1073741824) (B := 2147484000) (by omega) (by omega) (d := a - 1073741824) (S := 1124) (by omega) (by omega)
  have e : (a + 1073741824) * (a - 1073741824) = a * a - 1152921504606846976 := by grind
  have k1 := sq_small hb
  have k2 := sq_small hc
  have k3 := sq_small hd
  omega
theorem off_small {m a b c d p : Int} (σ : Int) (hσ : σ = 1 ∨ σ = -1) (ha : 1073740700 ≤ a ∧ a ≤ 1073741900) (hb : -524350 ≤ b ∧ b ≤ 524350) (hc : -524350 ≤ c ∧ c ≤ 524350) (hd : -524350 ≤ d ∧ d ≤ 524350) (hp : -58 ≤ 2 * b - p ∧ 2 * b - p ≤ 58)
    (h1 : -536870912 ≤ 1073741824 * m - (2 * (a * b) + σ * (2 * (c * d)))) (h2 : 1073741824 * m - (2 * (a * b) + σ * (2 * (c * d))) ≤ 536870912) : -600 ≤ m - p ∧ m - p ≤ 600 := by
  have k0 := bil hb.1 hb.2 (d := a - 1073741824) (S := 1124) (by omega) (by omega)
  have e : b * (a - 1073741824) = a * b - 1073741824 * b := by grind
  have k1 := bil hc.1 hc.2 hd.1 hd.2
  rcases hσ with h | h <;> subst h <;> omega
end Go.Proofs.Ytplojnnjkpeifaa.Tr
