/- Roots of whole numbers, rounded: what is known of them. -/
import Derived.Test.YtahedampmjfoeaaSxP
import Derived.Test.YtahedampmjfoeaaLift
namespace Go.Proofs.Ytahedampmjfoeaa.SX
open Go
theorem root_sides2 (n : Nat) : ((rootN n : Int) ≠ 0 → (rootN n : Int) * rootN n - rootN n < n) ∧ (n : Int) ≤ (rootN n : Int) * rootN n + rootN n := by
  obtain ⟨g1, g2⟩ := isq_spec n
  have e2 : (isq n + 1) * (isq n + 1) = isq n * isq n + 2 * isq n + 1 := by grind
  have e3 : ((isq n : Int) + 1) * ((isq n : Int) + 1) = (isq n : Int) * isq n + 2 * isq n + 1 := by grind
  have e4 : ((isq n : Int) * (isq n : Int)) = ((isq n * isq n : Nat) : Int) := by simp
  generalize hr : (rootN n : Int) = r
  unfold rootN at hr
  rw [e2] at g2
  split at hr
  · rename_i h
    have hr' : r = (isq n : Int) + 1 := by rw [← hr]; simp
    subst hr'
    rw [e3, e4]
    generalize isq n * isq n = q at *
    omega
  · rename_i h
    have hr' : r = (isq n : Int) := by rw [← hr]; simp
    subst hr'
    rw [e4]
    generalize isq n * isq n = q at *
    omega
theorem root_ge {n : Nat} {a : Int} (h : a * a ≤ n) : a ≤ rootN n := by
  obtain ⟨_, h2⟩ := root_sides2 n
  have h0 : (0 : Int) ≤ rootN n := Int.natCast_nonneg _
  generalize (rootN n : Int) = r at *
  apply Classical.byContradiction
  intro hc
  have h1 : r + 1 ≤ a := by omega
  have h3 : (r + 1) * (r + 1) ≤ a * a := Int.mul_le_mul h1 h1 (by omega) (by omega)
  have h4 : (r + 1) * (r + 1) = r * r + 2 * r + 1 := by grind
  omega
theorem root_le {n : Nat} {b : Int} (h0 : 0 ≤ b) (h : (n : Int) ≤ b * b) : (rootN n : Int) ≤ b := by
  obtain ⟨h1, _⟩ := root_sides2 n
  generalize (rootN n : Int) = r at *
  apply Classical.byContradiction
  intro hc
  have h2 : b + 1 ≤ r := by omega
  have h3 := h1 (by omega)
  have h4 : b * (b + 1) ≤ (r - 1) * r := Int.mul_le_mul (by omega) h2 (by omega) (by omega)
  have h5 : (r - 1) * r = r * r - r := by grind
  have h6 : b * (b + 1) = b * b + b := by grind
  omega
theorem wsum1 {p : Int} (h0 : 0 ≤ p) (h1 : p ≤ 42535295865117307932921825928971026432) : U 24 [0, p] = p := by
  have e : inWB p = true := (inWB_iff _).2 ⟨by omega, by omega⟩
  simp [U, wsum, e]
  have : inWB 0 = true := by decide
  simp [this]
theorem wsum2 {p q : Int} (h0 : 0 ≤ p) (h1 : p ≤ 42535295865117307932921825928971026432) (k0 : 0 ≤ q) (k1 : q ≤ 42535295865117307932921825928971026432) : U 24 [p, q] = p + q := by
  have e : inWB p = true := (inWB_iff _).2 ⟨by omega, by omega⟩
  have e2 : inWB (p + q) = true := (inWB_iff _).2 ⟨by omega, by omega⟩
  simp [U, wsum, e, e2]
theorem root_in {z : Int} (h0 : 0 ≤ z) (h1 : z ≤ 85070591730234615856620279821087277056) : U 26 [z] = (rootN z.toNat : Nat) ∧ U 27 [z] = 1 := by
  have e : rootOk z = true := by unfold rootOk; rw [ile_iff, ile_iff]; simp; omega
  simp only [U, e, cond_true, b2i]
  exact ⟨trivial, trivial⟩
theorem satv_id {a : Int} (h1 : -1152921504606846976 ≤ a) (h2 : a ≤ 1152921504606846976) : satv a = a := (satv_in h1 h2).1
theorem sq_bd {a m : Int} (h1 : -m ≤ a) (h2 : a ≤ m) : 0 ≤ a * a ∧ a * a ≤ m * m := by
  have e : a * a = (a.natAbs : Int) * a.natAbs := by
    rw [← Int.natAbs_mul_self]; simp
  have h3 : (a.natAbs : Int) ≤ m := by omega
  rw [e]
  exact ⟨Int.mul_nonneg (by omega) (by omega), Int.mul_le_mul h3 h3 (by omega) (by omega)⟩
theorem absv_eq {a : Int} (h1 : -1152921504606846976 ≤ a) (h2 : a ≤ 1152921504606846976) : absv a = a.natAbs := by
  unfold absv; rw [if_neg (by omega), if_neg (by omega)]
/-- The length of two sides: at least each, at most both together. -/
theorem hyp_facts {X Y : Int} (x1 : -1152921504606846976 ≤ X) (x2 : X ≤ 1152921504606846976) (y1 : -1152921504606846976 ≤ Y) (y2 : Y ≤ 1152921504606846976) :
    absv X ≤ satv (rootN (X * X + Y * Y).toNat) ∧ absv Y ≤ satv (rootN (X * X + Y * Y).toNat) ∧ satv (rootN (X * X + Y * Y).toNat) ≤ satv (sumL [absv X, absv Y]) := by
  rw [absv_eq x1 x2, absv_eq y1 y2]
  obtain ⟨p1, p2⟩ := sq_bd x1 x2
  obtain ⟨q1, q2⟩ := sq_bd y1 y2
  have ex : X * X = (X.natAbs : Int) * X.natAbs := by rw [← Int.natAbs_mul_self]; simp
  have ey : Y * Y = (Y.natAbs : Int) * Y.natAbs := by rw [← Int.natAbs_mul_self]; simp
  have hn : (((X * X + Y * Y).toNat : Nat) : Int) = X * X + Y * Y := by omega
  have h1 : (X.natAbs : Int) ≤ rootN (X * X + Y * Y).toNat := root_ge (by rw [hn, ← ex]; omega)
  have h2 : (Y.natAbs : Int) ≤ rootN (X * X + Y * Y).toNat := root_ge (by rw [hn, ← ey]; omega)
  have h3 : (rootN (X * X + Y * Y).toNat : Int) ≤ X.natAbs + Y.natAbs := root_le (by omega) (by
    rw [hn, ex, ey]
    have e : ((X.natAbs : Int) + Y.natAbs) * ((X.natAbs : Int) + Y.natAbs) = (X.natAbs : Int) * X.natAbs + Y.natAbs * Y.natAbs + 2 * (X.natAbs * Y.natAbs) := by grind
    have : (0 : Int) ≤ X.natAbs * Y.natAbs := Int.mul_nonneg (by omega) (by omega)
    omega)
  generalize (rootN (X * X + Y * Y).toNat : Int) = r at *
  simp only [sumL]
  rw [satv_id (a := (X.natAbs : Int)) (by omega) (by omega), satv_id (a := (Y.natAbs : Int)) (by omega) (by omega)]
  unfold satv
  refine ⟨?_, ?_, ?_⟩ <;> (repeat' split) <;> omega
end Go.Proofs.Ytahedampmjfoeaa.SX
