/- Covariances as factors: what holds of their numbers where nothing is clamped. Nothing of a program is used. -/
import Derived.Test.YtaehmhdcniegkaaTriN
namespace Go.Proofs.Ytaehmhdcniegkaa
open Go.RowKit

theorem rnd_bd (v : Int) : -536870912 ≤ 1073741824 * rnd v 30 - v ∧ 1073741824 * rnd v 30 - v ≤ 536870912 := by
  have e : rq v.natAbs 30 = (v.natAbs + 536870912) / 1073741824 := rfl
  unfold rnd withSign
  rw [e]
  by_cases h : v < 0
  · rw [decide_eq_true h]
    simp only [if_true]
    omega
  · rw [decide_eq_false h]
    simp only [Bool.false_eq_true, if_false]
    omega
theorem rnd_nn {v : Int} (h : 0 ≤ v) (s : Nat) : 0 ≤ rnd v s := by
  unfold rnd withSign
  rw [decide_eq_false (by omega)]
  simp only [Bool.false_eq_true, if_false]
  omega
theorem rnd_np {v : Int} (h : v ≤ 0) (s : Nat) : rnd v s ≤ 0 := by
  unfold rnd withSign
  by_cases hv : v < 0
  · rw [decide_eq_true hv]
    simp only [if_true]
    omega
  · obtain rfl : v = 0 := by omega
    rw [decide_eq_false (by omega)]
    simp only [Bool.false_eq_true, if_false]
    have : rq (0 : Int).natAbs s = 0 := by show rq 0 s = 0; exact rq_zero s
    omega
theorem satv_nn {v : Int} (h : 0 ≤ v) : 0 ≤ satv v := by unfold satv; (repeat' split) <;> omega
theorem satv_np {v : Int} (h : v ≤ 0) : satv v ≤ 0 := by unfold satv; (repeat' split) <;> omega
/-- A number by itself times what is not below nought has its sign. -/
theorem mulv_sign {u d : Int} (hd : 0 ≤ d) : 0 ≤ satv u * satv (mulv u d) := by
  have h1 : 0 ≤ satv d := satv_nn hd
  unfold mulv
  rcases Int.le_total 0 (satv u) with h | h
  · exact Int.mul_nonneg h (satv_nn (satv_nn (rnd_nn (Int.mul_nonneg h h1) _)))
  · exact Int.mul_nonneg_of_nonpos_of_nonpos h (satv_np (satv_np (rnd_np (Int.mul_nonpos_of_nonpos_of_nonneg h h1) _)))
theorem sumP_nn {xs ys : Nat → Int} : ∀ n, (∀ k, k < n → 0 ≤ satv (xs k) * satv (ys k)) → 0 ≤ sumP xs ys n
  | 0, _ => by simp [sumP]
  | n + 1, h => by
    have h1 := sumP_nn n (fun k hk => h k (by omega))
    have h2 := h n (by omega)
    rw [sumP]; omega
theorem hitD_no {f : Nat → Int} : ∀ n, hitD f n = false → ∀ k, k < n → 1 ≤ f (276 + k) ∧ f (276 + k) ≤ 72057594037927936
  | n + 1, h, k, hk => by
    rw [hitD, Bool.or_eq_false_iff] at h
    by_cases e : k = n
    · subst e
      have := h.2
      unfold clamph at this
      simp at this
      omega
    · exact hitD_no n h.1 k (by omega)
theorem hitU_no {f : Nat → Int} : ∀ n, hitU f n = false → ∀ k, k < n → -1152921504606846976 ≤ f k ∧ f k ≤ 1152921504606846976
  | n + 1, h, k, hk => by
    rw [hitU, Bool.or_eq_false_iff] at h
    by_cases e : k = n
    · subst e
      have := h.2
      unfold sath at this
      simp at this
      omega
    · exact hitU_no n h.1 k (by omega)
theorem good_D {f : Nat → Int} (h : goodB f = true) {k : Nat} (hk : k < 24) : 1 ≤ f (276 + k) ∧ f (276 + k) ≤ 72057594037927936 := by
  unfold goodB condH at h
  simp at h
  exact hitD_no 24 h.1 k hk
/-- A variance is not below nought (P9.2). -/
theorem at_nn {f : Nat → Int} (h : goodB f = true) (i : Int) : 0 ≤ atV f i i := by
  unfold atV
  cases hc : inN i && inN i
  · exact Int.le_refl 0
  · rw [Bool.and_self, inN_iff] at hc
    refine satv_nn (rnd_nn (sumP_nn _ fun k hk => ?_) _)
    have hm : max i i = i := by omega
    rw [hm] at *
    have hd := good_D h (k := i.toNat + k) (by omega)
    exact mulv_sign (show 0 ≤ f (276 + (i.toNat + k)) by omega)

theorem sq_nonneg' (x : Int) : 0 ≤ x * x := by
  rcases Int.le_total 0 x with h | h
  · exact Int.mul_nonneg h h
  · exact Int.mul_nonneg_of_nonpos_of_nonpos h h
/-! ### Small numbers -/
def Small (f : Nat → Int) : Prop := (∀ k, k < 276 → -8589934592 ≤ f k ∧ f k ≤ 8589934592) ∧ ∀ k, k < 24 → 1 ≤ f (276 + k) ∧ f (276 + k) ≤ 17592186044416
theorem uF_small {f : Nat → Int} (h : Small f) (i j : Int) : -8589934592 ≤ uF f i j ∧ uF f i j ≤ 8589934592 := by
  unfold uF
  cases hc : aboveB i j
  · cases decide (i = j) && inN i
    · rw [cond_false, cond_false]; omega
    · rw [cond_false, cond_true]; omega
  · rw [cond_true]
    obtain ⟨h0, h1, h2⟩ := (aboveB_iff i j).1 hc
    obtain ⟨_, _, k2, k3⟩ := plc_bd h0 h1 h2
    exact h.1 _ (by omega)
theorem abs_mul {a b A B : Int} (ha : -A ≤ a ∧ a ≤ A) (hb : -B ≤ b ∧ b ≤ B) : -(A * B) ≤ a * b ∧ a * b ≤ A * B := by
  have h1 : (a * b).natAbs ≤ A.natAbs * B.natAbs := by rw [Int.natAbs_mul]; exact Nat.mul_le_mul (by omega) (by omega)
  have h2 : ((A.natAbs * B.natAbs : Nat) : Int) = A * B := by
    rw [Int.natCast_mul, Int.natAbs_of_nonneg (by omega), Int.natAbs_of_nonneg (by omega)]
  omega
/-- One product: near, not clamped. -/
theorem mulv_small {u d : Int} (hu : -8589934592 ≤ u ∧ u ≤ 8589934592) (hd : 1 ≤ d ∧ d ≤ 17592186044416) :
    mulh u d = false ∧ -536870912 ≤ 1073741824 * mulv u d - u * d ∧ 1073741824 * mulv u d - u * d ≤ 536870912 ∧ -140737488355329 ≤ mulv u d ∧ mulv u d ≤ 140737488355329 := by
  have h1 := satv_in (a := u) (by omega) (by omega)
  have h2 := satv_in (a := d) (by omega) (by omega)
  have hp := abs_mul (A := 8589934592) (B := 17592186044416) hu ⟨by omega, hd.2⟩
  have hr := rnd_bd (u * d)
  have h3 := satv_in (a := rnd (u * d) 30) (by omega) (by omega)
  unfold mulh mulv
  rw [h1.1, h2.1, h1.2, h2.2, h3.1, h3.2]
  refine ⟨rfl, by omega, by omega, by omega, by omega⟩
/-- A sum of such products, exactly: 2^30 times it is near the sum of u w d. -/
def exS (f : Nat → Int) (i j : Int) (m : Nat) : Nat → Int
  | 0 => 0
  | k + 1 => exS f i j m k + uF f i ((m + k : Nat) : Int) * uF f j ((m + k : Nat) : Int) * f (276 + (m + k))
theorem sum_small {f : Nat → Int} (h : Small f) (i j : Int) (m : Nat) : ∀ n, m + n ≤ 24 →
    anyY f j m n = false ∧ anyP (atX f i m) (atY f j m) n = false ∧
    -(4611686018427387904 * (n : Int)) ≤ 1073741824 * sumP (atX f i m) (atY f j m) n - exS f i j m n ∧ 1073741824 * sumP (atX f i m) (atY f j m) n - exS f i j m n ≤ 4611686018427387904 * (n : Int) ∧
    -(1208925819614637764640768 * (n : Int)) ≤ sumP (atX f i m) (atY f j m) n ∧ sumP (atX f i m) (atY f j m) n ≤ 1208925819614637764640768 * (n : Int)
  | 0, _ => by simp [anyY, anyP, sumP, exS]
  | n + 1, hn => by
    obtain ⟨i1, i2, i3, i4, i5, i6⟩ := sum_small h i j m n (by omega)
    have hu := uF_small h i ((m + n : Nat) : Int)
    have hw := uF_small h j ((m + n : Nat) : Int)
    have hd := h.2 (m + n) (by omega)
    obtain ⟨k1, k2, k3, k4, k5⟩ := mulv_small hw hd
    have s1 := satv_in (a := uF f i ((m + n : Nat) : Int)) (by omega) (by omega)
    have s2 := satv_in (a := mulv (uF f j ((m + n : Nat) : Int)) (f (276 + (m + n)))) (by omega) (by omega)
    refine ⟨by rw [anyY, i1, k1]; rfl, ?_, ?_⟩
    · rw [anyP, i2]
      show (false || sath (uF f i ((m + n : Nat) : Int)) || sath (mulv _ _)) = false
      rw [s1.2, s2.2]; rfl
    · rw [sumP, exS]
      have e1 : satv (atX f i m n) = uF f i ((m + n : Nat) : Int) := s1.1
      have e2 : satv (atY f j m n) = mulv (uF f j ((m + n : Nat) : Int)) (f (276 + (m + n))) := s2.1
      rw [e1, e2]
      generalize uF f i ((m + n : Nat) : Int) = u at *
      generalize uF f j ((m + n : Nat) : Int) = w at *
      generalize f (276 + (m + n)) = d at *
      generalize mulv w d = x at *
      have p1 := abs_mul (a := u) (b := 1073741824 * x - w * d) (A := 8589934592) (B := 536870912) hu ⟨k2, k3⟩
      have p2 := abs_mul (a := u) (b := x) (A := 8589934592) (B := 140737488355329) hu ⟨k4, k5⟩
      have e3 : u * (1073741824 * x - w * d) = 1073741824 * (u * x) - u * w * d := by grind
      rw [e3] at p1
      generalize u * x = ux at *
      generalize u * w * d = uwd at *
      omega
theorem exS_comm (f : Nat → Int) (i j : Int) (m : Nat) : ∀ n, exS f i j m n = exS f j i m n
  | 0 => rfl
  | n + 1 => by rw [exS, exS, exS_comm f i j m n, Int.mul_comm (uF f i _) (uF f j _)]
/-- At, where all is small. -/
theorem at_small {f : Nat → Int} (h : Small f) {i j : Int} (hi : 0 ≤ i ∧ i < 24) (hj : 0 ≤ j ∧ j < 24) :
    atH f i j = false ∧ -(4611686018427387904 * 25) ≤ 1152921504606846976 * atV f i j - exS f i j (max i j).toNat (24 - (max i j).toNat) ∧
    1152921504606846976 * atV f i j - exS f i j (max i j).toNat (24 - (max i j).toNat) ≤ 4611686018427387904 * 25 ∧ -36028797018963968 ≤ atV f i j ∧ atV f i j ≤ 36028797018963968 := by
  obtain ⟨i1, i2, i3, i4, i5, i6⟩ := sum_small h i j (max i j).toNat (24 - (max i j).toNat) (by omega)
  have hr := rnd_bd (atS f i j)
  have hn : (((24 - (max i j).toNat : Nat)) : Int) ≤ 24 := by omega
  have hn0 : (0 : Int) ≤ ((24 - (max i j).toNat : Nat) : Int) := by omega
  unfold atH atV
  rw [(inN_iff i).2 hi, (inN_iff j).2 hj, i1, i2]
  simp only [Bool.and_self, Bool.true_and, Bool.false_or, cond_true]
  have es : atS f i j = sumP (atX f i (max i j).toNat) (atY f j (max i j).toNat) (24 - (max i j).toNat) := rfl
  rw [← es] at i3 i4 i5 i6
  generalize exS f i j (max i j).toNat (24 - (max i j).toNat) = E at *
  generalize (24 - (max i j).toNat) = n at *
  generalize atS f i j = S at *
  have s := satv_in (a := rnd S 30) (by omega) (by omega)
  rw [s.1, s.2]
  refine ⟨rfl, by omega, by omega, by omega, by omega⟩
/-- What two rows have in common is at most what each has by itself. -/
theorem exS_two {f : Nat → Int} (h : Small f) (i j : Int) (m : Nat) : ∀ n, m + n ≤ 24 →
    2 * exS f i j m n ≤ exS f i i m n + exS f j j m n ∧ -(exS f i i m n + exS f j j m n) ≤ 2 * exS f i j m n
  | 0, _ => by simp [exS]
  | n + 1, hn => by
    obtain ⟨h1, h2⟩ := exS_two h i j m n (by omega)
    have hd := h.2 (m + n) (by omega)
    rw [exS, exS, exS]
    generalize uF f i ((m + n : Nat) : Int) = u at *
    generalize uF f j ((m + n : Nat) : Int) = w at *
    generalize f (276 + (m + n)) = d at *
    have k1 : 0 ≤ (u - w) * (u - w) * d := Int.mul_nonneg (sq_nonneg' _) (by omega)
    have k2 : 0 ≤ (u + w) * (u + w) * d := Int.mul_nonneg (sq_nonneg' _) (by omega)
    have e1 : (u - w) * (u - w) * d = u * u * d + w * w * d - 2 * (u * w * d) := by grind
    have e2 : (u + w) * (u + w) * d = u * u * d + w * w * d + 2 * (u * w * d) := by grind
    rw [e1] at k1
    rw [e2] at k2
    omega
/-- A sum that begins earlier is not less. -/
theorem exS_more {f : Nat → Int} (h : Small f) (i : Int) (m : Nat) : ∀ c n, m + c + n ≤ 24 → exS f i i (m + c) n ≤ exS f i i m (c + n) := by
  intro c n
  induction n with
  | zero =>
    intro hn
    have : ∀ k, m + k ≤ 24 → 0 ≤ exS f i i m k := by
      intro k
      induction k with
      | zero => intro _; simp [exS]
      | succ k ih =>
        intro hk
        have hd := h.2 (m + k) (by omega)
        have := ih (by omega)
        have k1 : 0 ≤ uF f i ((m + k : Nat) : Int) * uF f i ((m + k : Nat) : Int) * f (276 + (m + k)) := Int.mul_nonneg (sq_nonneg' _) (by omega)
        rw [exS]; omega
    have := this c (by omega)
    simpa [exS] using this
  | succ n ih =>
    intro hn
    have := ih (by omega)
    rw [← Nat.add_assoc, exS, exS]
    rw [show m + (c + n) = m + c + n by omega]
    omega
/-- What the law asks of two states. -/
theorem two_states {f : Nat → Int} (h : Small f) {i j : Int} (hi : 0 ≤ i ∧ i < 24) (hj : 0 ≤ j ∧ j < 24) :
    atV f i j - atV f j i ≤ 4096 ∧ -4096 ≤ atV f i j - atV f j i ∧ 2 * absv (atV f i j) ≤ atV f i i + atV f j j + 4096 := by
  obtain ⟨_, a1, a2, a3, a4⟩ := at_small h hi hj
  obtain ⟨_, b1, b2, _, _⟩ := at_small h hj hi
  obtain ⟨_, c1, c2, _, _⟩ := at_small h hi hi
  obtain ⟨_, d1, d2, _, _⟩ := at_small h hj hj
  have em : (max j i).toNat = (max i j).toNat := by omega
  rw [em, exS_comm f j i] at b1 b2
  obtain ⟨t1, t2⟩ := exS_two h i j (max i j).toNat (24 - (max i j).toNat) (by omega)
  have m1 := exS_more h i i.toNat ((max i j).toNat - i.toNat) (24 - (max i j).toNat) (by omega)
  have m2 := exS_more h j j.toNat ((max i j).toNat - j.toNat) (24 - (max i j).toNat) (by omega)
  have e1 : i.toNat + ((max i j).toNat - i.toNat) = (max i j).toNat := by omega
  have e2 : j.toNat + ((max i j).toNat - j.toNat) = (max i j).toNat := by omega
  have e3 : ((max i j).toNat - i.toNat) + (24 - (max i j).toNat) = 24 - i.toNat := by omega
  have e4 : ((max i j).toNat - j.toNat) + (24 - (max i j).toNat) = 24 - j.toNat := by omega
  rw [e1, e3] at m1
  rw [e2, e4] at m2
  have e5 : (max i i).toNat = i.toNat := by omega
  have e6 : (max j j).toNat = j.toNat := by omega
  rw [e5] at c1 c2
  rw [e6] at d1 d2
  clear e1 e2 e3 e4 e5 e6 em
  generalize exS f i j (max i j).toNat (24 - (max i j).toNat) = E at *
  generalize exS f i i (max i j).toNat (24 - (max i j).toNat) = F at *
  generalize exS f j j (max i j).toNat (24 - (max i j).toNat) = G at *
  generalize exS f i i i.toNat (24 - i.toNat) = F' at *
  generalize exS f j j j.toNat (24 - j.toNat) = G' at *
  generalize atV f i j = x at *
  generalize atV f j i = y at *
  generalize atV f i i = a at *
  generalize atV f j j = b at *
  have ex : absv x = x.natAbs := by unfold absv; rw [if_neg (by omega), if_neg (by omega)]
  rw [ex]
  refine ⟨by omega, by omega, ?_⟩
  omega
end Go.Proofs.Ytaehmhdcniegkaa
