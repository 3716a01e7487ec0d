/- Covariances as factors: what holds of their numbers where nothing is clamped. Nothing of a program is used. -/
import Derived.Test.YtadeadpcpgfkbaaRN
namespace Go.Proofs.Ytadeadpcpgfkbaa
open Go.RowKit

theorem rnd_bd (v : Int) : -536870912 ≤ 1073741824 * rnd v 30 - v ∧ 1073741824 * rnd v 30 - v ≤ 536870912 := by
  have e : rq v.natAbs 30 = (v.natAbs + 536870912) / 1073741824 := rfl
  unfold rnd withSign
  rw [e]
  by_cases h : v < 0
  · rw [decide_eq_true h]
    simp only [if_true]
    omega
  · rw [decide_eq_false h]
    simp only [Bool.false_eq_true, if_false]
    omega
theorem sq_nonneg' (x : Int) : 0 ≤ x * x := by
  rcases Int.le_total 0 x with h | h
  · exact Int.mul_nonneg h h
  · exact Int.mul_nonneg_of_nonpos_of_nonpos h h
/-! ### Small numbers -/
def Small (f : Nat → Int) : Prop := (∀ k, k < 276 → -8589934592 ≤ f k ∧ f k ≤ 8589934592) ∧ ∀ k, k < 24 → 1 ≤ f (276 + k) ∧ f (276 + k) ≤ 17592186044416
theorem uF_small {f : Nat → Int} (h : Small f) (i j : Int) : -8589934592 ≤ uF f i j ∧ uF f i j ≤ 8589934592 := by
  unfold uF
  cases hc : aboveB i j
  · cases decide (i = j) && inN i
    · rw [cond_false, cond_false]; omega
    · rw [cond_false, cond_true]; omega
  · rw [cond_true]
    obtain ⟨h0, h1, h2⟩ := (aboveB_iff i j).1 hc
    obtain ⟨_, _, k2, k3⟩ := plc_bd h0 h1 h2
    exact h.1 _ (by omega)
theorem abs_mul {a b A B : Int} (ha : -A ≤ a ∧ a ≤ A) (hb : -B ≤ b ∧ b ≤ B) : -(A * B) ≤ a * b ∧ a * b ≤ A * B := by
  have h1 : (a * b).natAbs ≤ A.natAbs * B.natAbs := by rw [Int.natAbs_mul]; exact Nat.mul_le_mul (by omega) (by omega)
  have h2 : ((A.natAbs * B.natAbs : Nat) : Int) = A * B := by
    rw [Int.natCast_mul, Int.natAbs_of_nonneg (by omega), Int.natAbs_of_nonneg (by omega)]
  omega
theorem mulv_small {u d : Int} (hu : -8589934592 ≤ u ∧ u ≤ 8589934592) (hd : 1 ≤ d ∧ d ≤ 17592186044416) :
    mulh u d = false ∧ -536870912 ≤ 1073741824 * mulv u d - u * d ∧ 1073741824 * mulv u d - u * d ≤ 536870912 ∧ -140737488355329 ≤ mulv u d ∧ mulv u d ≤ 140737488355329 := by
  have h1 := satv_in (a := u) (by omega) (by omega)
  have h2 := satv_in (a := d) (by omega) (by omega)
  have hp := abs_mul (A := 8589934592) (B := 17592186044416) hu ⟨by omega, hd.2⟩
  have hr := rnd_bd (u * d)
  have h3 := satv_in (a := rnd (u * d) 30) (by omega) (by omega)
  unfold mulh mulv
  rw [h1.1, h2.1, h1.2, h2.2, h3.1, h3.2]
  refine ⟨rfl, by omega, by omega, by omega, by omega⟩
def exS (f : Nat → Int) (i j : Int) (m : Nat) : Nat → Int
  | 0 => 0
  | k + 1 => exS f i j m k + uF f i ((m + k : Nat) : Int) * uF f j ((m + k : Nat) : Int) * f (276 + (m + k))
theorem sum_small {f : Nat → Int} (h : Small f) (i j : Int) (m : Nat) : ∀ n, m + n ≤ 24 →
    anyY f j m n = false ∧ anyP (atX f i m) (atY f j m) n = false ∧
    -(4611686018427387904 * (n : Int)) ≤ 1073741824 * sumP (atX f i m) (atY f j m) n - exS f i j m n ∧ 1073741824 * sumP (atX f i m) (atY f j m) n - exS f i j m n ≤ 4611686018427387904 * (n : Int) ∧
    -(1208925819614637764640768 * (n : Int)) ≤ sumP (atX f i m) (atY f j m) n ∧ sumP (atX f i m) (atY f j m) n ≤ 1208925819614637764640768 * (n : Int)
  | 0, _ => by simp [anyY, anyP, sumP, exS]
  | n + 1, hn => by
    obtain ⟨i1, i2, i3, i4, i5, i6⟩ := sum_small h i j m n (by omega)
    have hu := uF_small h i ((m + n : Nat) : Int)
    have hw := uF_small h j ((m + n : Nat) : Int)
    have hd := h.2 (m + n) (by omega)
    obtain ⟨k1, k2, k3, k4, k5⟩ := mulv_small hw hd
    have s1 := satv_in (a := uF f i ((m + n : Nat) : Int)) (by omega) (by omega)
    have s2 := satv_in (a := mulv (uF f j ((m + n : Nat) : Int)) (f (276 + (m + n)))) (by omega) (by omega)
    refine ⟨by rw [anyY, i1, k1]; rfl, ?_, ?_⟩
    · rw [anyP, i2]
      show (false || sath (uF f i ((m + n : Nat) : Int)) || sath (mulv _ _)) = false
      rw [s1.2, s2.2]; rfl
    · rw [sumP, exS]
      have e1 : satv (atX f i m n) = uF f i ((m + n : Nat) : Int) := s1.1
      have e2 : satv (atY f j m n) = mulv (uF f j ((m + n : Nat) : Int)) (f (276 + (m + n))) := s2.1
      rw [e1, e2]
      generalize uF f i ((m + n : Nat) : Int) = u at *
      generalize uF f j ((m + n : Nat) : Int) = w at *
      generalize f (276 + (m + n)) = d at *
      generalize mulv w d = x at *
      have p1 := abs_mul (a := u) (b := 1073741824 * x - w * d) (A := 8589934592) (B := 536870912) hu ⟨k2, k3⟩
      have p2 := abs_mul (a := u) (b := x) (A := 8589934592) (B := 140737488355329) hu ⟨k4, k5⟩
      have e3 : u * (1073741824 * x - w * d) = 1073741824 * (u * x) - u * w * d := by grind
      rw [e3] at p1
      generalize u * x = ux at *
      generalize u * w * d = uwd at *
      omega
theorem exS_comm (f : Nat → Int) (i j : Int) (m : Nat) : ∀ n, exS f i j m n = exS f j i m n
  | 0 => rfl
  | n + 1 => by rw [exS, exS, exS_comm f i j m n, Int.mul_comm (uF f i _) (uF f j _)]
theorem at_small {f : Nat → Int} (h : Small f) {i j : Int} (hi : 0 ≤ i ∧ i < 24) (hj : 0 ≤ j ∧ j < 24) :
    atH f i j = false ∧ -(4611686018427387904 * 25) ≤ 1152921504606846976 * atV f i j - exS f i j (max i j).toNat (24 - (max i j).toNat) ∧
    1152921504606846976 * atV f i j - exS f i j (max i j).toNat (24 - (max i j).toNat) ≤ 4611686018427387904 * 25 ∧ -36028797018963968 ≤ atV f i j ∧ atV f i j ≤ 36028797018963968 := by
  obtain ⟨i1, i2, i3, i4, i5, i6⟩ := sum_small h i j (max i j).toNat (24 - (max i j).toNat) (by omega)
  have hr := rnd_bd (atS f i j)
  have hn : (((24 - (max i j).toNat : Nat)) : Int) ≤ 24 := by omega
  have hn0 : (0 : Int) ≤ ((24 - (max i j).toNat : Nat) : Int) := by omega
  unfold atH atV
  rw [(inN_iff i).2 hi, (inN_iff j).2 hj, i1, i2]
  simp only [Bool.and_self, Bool.true_and, Bool.false_or, cond_true]
  have es : atS f i j = sumP (atX f i (max i j).toNat) (atY f j (max i j).toNat) (24 - (max i j).toNat) := rfl
  rw [← es] at i3 i4 i5 i6
  generalize exS f i j (max i j).toNat (24 - (max i j).toNat) = E at *
  generalize (24 - (max i j).toNat) = n at *
  generalize atS f i j = S at *
  have s := satv_in (a := rnd S 30) (by omega) (by omega)
  rw [s.1, s.2]
  refine ⟨rfl, by omega, by omega, by omega, by omega⟩
theorem exS_more {f : Nat → Int} (h : Small f) (i : Int) (m : Nat) : ∀ c n, m + c + n ≤ 24 → exS f i i (m + c) n ≤ exS f i i m (c + n) := by
  intro c n
  induction n with
  | zero =>
    intro hn
    have : ∀ k, m + k ≤ 24 → 0 ≤ exS f i i m k := by
      intro k
      induction k with
      | zero => intro _; simp [exS]
      | succ k ih =>
        intro hk
        have hd := h.2 (m + k) (by omega)
        have := ih (by omega)
        have k1 : 0 ≤ uF f i ((m + k : Nat) : Int) * uF f i ((m + k : Nat) : Int) * f (276 + (m + k)) := Int.mul_nonneg (sq_nonneg' _) (by omega)
        rw [exS]; omega
    have := this c (by omega)
    simpa [exS] using this
  | succ n ih =>
    intro hn
    have := ih (by omega)
    rw [← Nat.add_assoc, exS, exS]
    rw [show m + (c + n) = m + c + n by omega]
    omega
end Go.Proofs.Ytadeadpcpgfkbaa
