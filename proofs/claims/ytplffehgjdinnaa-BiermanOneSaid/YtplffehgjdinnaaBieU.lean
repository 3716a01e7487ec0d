/- One state measured by itself: numbers. Nothing of a program is used. -/
import Derived.Test.YtplffehgjdinnaaBieR
namespace Go.Proofs.Ytplffehgjdinnaa
open Go.RowKit

theorem sumP_terms {xs ys : Nat → Int} : ∀ {n : Nat}, (∀ k, k < n → satv (xs k) * satv (ys k) = 0) → sumP xs ys n = 0
  | 0, _ => rfl
  | n + 1, h => by rw [sumP, sumP_terms (fun k hk => h k (by omega)), h n (by omega)]; rfl
theorem rnd_exact {d : Int} (h : 0 ≤ d) : rnd (d * 1073741824) 30 = d := by
  unfold rnd
  rw [decide_eq_false (show ¬ d * 1073741824 < 0 by omega)]
  unfold withSign
  rw [if_neg (by decide)]
  unfold rq
  rw [show halfOf 30 = 536870912 by decide, show (2 : Nat) ^ 30 = 1073741824 by decide]
  omega
theorem usath_zero : sath 0 = false := by decide
theorem sath_no {a : Int} (h : -1152921504606846976 ≤ a ∧ a ≤ 1152921504606846976) : sath a = false := (satv_in h.1 h.2).2
theorem satv_is {a : Int} (h : -1152921504606846976 ≤ a ∧ a ≤ 1152921504606846976) : satv a = a := (satv_in h.1 h.2).1
theorem mulv_one {d : Int} (h : 0 ≤ d ∧ d ≤ 1152921504606846976) : mulv d 1073741824 = d ∧ mulh d 1073741824 = false := by
  unfold mulv mulh
  rw [satv_is (a := d) (by omega), satv_is (a := 1073741824) (by omega), rnd_exact h.1, sath_no (a := d) (by omega), sath_no (a := 1073741824) (by omega), satv_is (a := d) (by omega)]
  exact ⟨rfl, rfl⟩
theorem mulv_one2 {d : Int} (h : 0 ≤ d ∧ d ≤ 1152921504606846976) : mulv 1073741824 d = d ∧ mulh 1073741824 d = false := by
  have e : mulv 1073741824 d = mulv d 1073741824 := by unfold mulv; rw [Int.mul_comm]
  have e2 : mulh 1073741824 d = mulh d 1073741824 := by
    unfold mulh
    rw [Int.mul_comm, Bool.or_comm (sath 1073741824)]
  rw [e, e2]
  exact mulv_one h
theorem mulh_none {a : Int} (h : -1152921504606846976 ≤ a ∧ a ≤ 1152921504606846976) : mulh a 0 = false ∧ mulh 0 a = false := by
  unfold mulh
  rw [satv_zero, Int.mul_zero, Int.zero_mul, rnd_zero, usath_zero, sath_no h]
  exact ⟨rfl, rfl⟩
theorem addh_no {a b : Int} (h1 : -1152921504606846976 ≤ a ∧ a ≤ 1152921504606846976) (h2 : -1152921504606846976 ≤ b ∧ b ≤ 1152921504606846976) (h3 : -1152921504606846976 ≤ a + b ∧ a + b ≤ 1152921504606846976) : addv a b = a + b ∧ addh a b = false := by
  unfold addv addh
  rw [satv_is h1, satv_is h2, satv_is h3, sath_no h1, sath_no h2, sath_no h3]
  exact ⟨rfl, rfl⟩
theorem dq_small {n d : Nat} {b : Nat} (hd : 0 < d) (h : n ≤ d * b) : dq n d ≤ b := by
  unfold dq
  rcases Nat.lt_or_ge n (d * b) with h1 | h1
  · have h2 : n / d < b := by rw [Nat.div_lt_iff_lt_mul hd, Nat.mul_comm]; exact h1
    split <;> omega
  · have h2 : n = d * b := Nat.le_antisymm h h1
    rw [h2, Nat.mul_div_cancel_left _ hd, Nat.mul_mod_right, if_neg (by omega)]
    omega
theorem dq_big {n d : Nat} (hd : 0 < d) (h : d ≤ n) : 1 ≤ dq n d := by
  unfold dq
  have : 1 ≤ n / d := by rw [Nat.le_div_iff_mul_le hd]; omega
  omega
section
variable {k : Nat} {d r : Int} (hk : k < 24) (hd : 1048576 ≤ d ∧ d ≤ 36028797018963968) (hr : 1048576 ≤ r ∧ r ≤ 36028797018963968)
/-- The factors, the row. -/
def oneP (k : Nat) (d : Int) : Nat → Int := fun q => if q < 276 then 0 else if q = 276 + k then d else 1
def oneR (k : Nat) : Nat → Int := fun q => if q = k then 1073741824 else 0
include hd in
theorem one_Dbd (q : Nat) (h : q < 24) : 1 ≤ oneP k d (276 + q) ∧ oneP k d (276 + q) ≤ 36028797018963968 := by
  unfold oneP
  rw [if_neg (by omega)]
  split <;> omega
include hd in
theorem one_bd (q : Nat) : -1152921504606846976 ≤ oneP k d q ∧ oneP k d q ≤ 1152921504606846976 := by
  unfold oneP
  (repeat' split) <;> omega
include hd in
theorem one_cond {q : Nat} (h : q < 300) : condF (oneP k d) q = oneP k d q := by
  unfold condF
  by_cases h1 : q < 276
  · rw [if_pos h1, satv_is (one_bd hd q)]
  · obtain ⟨j, rfl⟩ : ∃ j, q = 276 + j := ⟨q - 276, by omega⟩
    have := one_Dbd (k := k) hd j (by omega)
    rw [if_neg h1, clamp_id (by omega)]
include hd in
theorem one_condH : condH (oneP k d) = false := by
  unfold condH
  rw [bhitD_none (fun q hq => by have := one_Dbd (k := k) hd q hq; omega), bhitU_none (fun q _ => one_bd hd q)]
  rfl
theorem one_sat : satH (oneR k) = oneR k := by
  funext q
  unfold satH oneR
  split <;> decide
include hd in
theorem one_col {j t : Nat} (hj : j < 24) (ht : t ≤ j) : colU (condF (oneP k d)) j t = if t = j then 1073741824 else 0 := by
  by_cases e : t = j
  · subst e; rw [colU_one _ hj, if_pos rfl]
  · have hb := plcT_bd (show t < j by omega) hj
    rw [if_neg e]
    unfold colU
    rw [uF_in (by omega) (by omega) (by omega), one_cond hd (by omega)]
    unfold oneP
    rw [if_pos hb]
include hd in
theorem one_F {j : Nat} (hj : j < 24) : bF (condF (oneP k d)) (oneR k) j = (if j = k then 1073741824 else 0) ∧ doth (oneR k) (colU (condF (oneP k d)) j) (j + 1) = false := by
  have hz : ∀ t, t < j → satv (oneR k t) * satv (colU (condF (oneP k d)) j t) = 0 := fun t ht => by
    rw [one_col hd hj (by omega), if_neg (by omega), satv_zero, Int.mul_zero]
  have hs : sumP (oneR k) (colU (condF (oneP k d)) j) (j + 1) = (if j = k then 1152921504606846976 else 0) := by
    rw [sumP, sumP_terms hz, one_col hd hj (Nat.le_refl _), if_pos rfl]
    unfold oneR
    split <;> decide
  have ha : anyP (oneR k) (colU (condF (oneP k d)) j) (j + 1) = false := by
    rw [← Bool.not_eq_true, anyP_iff]
    rintro ⟨t, ht, h⟩
    rw [one_col hd hj (by omega)] at h
    unfold oneR at h
    revert h
    (repeat' split) <;> decide
  unfold bF dotv doth
  rw [hs, ha]
  split <;> decide
include hd in
theorem one_V {j : Nat} (hj : j < 24) : bV (condF (oneP k d)) (oneR k) j = (if j = k then d else 0) ∧ mulh (condF (oneP k d) (276 + j)) (bF (condF (oneP k d)) (oneR k) j) = false := by
  unfold bV
  rw [(one_F hd hj).1, one_cond hd (by omega)]
  have hb := one_Dbd (k := k) hd j hj
  by_cases e : j = k
  · subst e
    rw [if_pos rfl, if_pos rfl]
    have : oneP j d (276 + j) = d := by unfold oneP; rw [if_neg (by omega), if_pos rfl]
    rw [this]
    exact mulv_one (by omega)
  · rw [if_neg e, if_neg e]
    exact ⟨mulv_none _, (mulh_none (by omega)).1⟩
include hr in
theorem one_rV : rV r = r ∧ rH r = false := by
  unfold rV rH clamph
  rw [clamp_id (by omega), decide_eq_false (by omega), decide_eq_false (by omega), decide_eq_false (by omega)]
  exact ⟨rfl, rfl⟩
include hd in
/-- What is added at a column. -/
theorem one_m {j : Nat} (hj : j < 24) : mulv (bF (condF (oneP k d)) (oneR k) j) (bV (condF (oneP k d)) (oneR k) j) = (if j = k then d else 0) ∧ mulh (bF (condF (oneP k d)) (oneR k) j) (bV (condF (oneP k d)) (oneR k) j) = false := by
  rw [(one_F hd hj).1, (one_V hd hj).1]
  split
  · exact mulv_one2 (by omega)
  · exact ⟨mulv_none _, (mulh_none (by omega)).1⟩
include hd hr in
theorem one_A : ∀ j, j ≤ 24 → bA (condF (oneP k d)) (oneR k) r j = if j ≤ k then r else r + d
  | 0, _ => by rw [if_pos (Nat.zero_le _)]; rfl
  | j + 1, hj => by
    rw [bA, one_A j (by omega), (one_m hd (by omega)).1]
    by_cases e : j = k
    · subst e
      rw [if_pos (Nat.le_refl _), if_pos rfl, if_neg (by omega)]
      exact (addh_no (by omega) (by omega) (by omega)).1
    · rw [if_neg e]
      by_cases h : j ≤ k
      · rw [if_pos h, if_pos (by omega)]
        exact addv_zero (by omega)
      · rw [if_neg h, if_neg (by omega)]
        exact addv_zero (by omega)
include hd hr in
theorem one_Abd {j : Nat} (hj : j ≤ 24) : 1048576 ≤ bA (condF (oneP k d)) (oneR k) r j ∧ bA (condF (oneP k d)) (oneR k) r j ≤ 72057594037927936 := by
  rw [one_A hd hr j hj]
  split <;> omega
include hd hr in
theorem one_look {j : Nat} (hj : j < 24) : lookH1 (condF (oneP k d)) (oneR k) r j = false := by
  unfold lookH1
  have hA := one_Abd (k := k) hd hr (show j ≤ 24 by omega)
  have hm := one_m (k := k) hd hj
  rw [(one_F hd hj).2, (one_V hd hj).2, hm.2, (addh_no (by omega) (by rw [hm.1]; split <;> omega) (by
    rw [hm.1, one_A hd hr j (by omega)]
    (repeat' split) <;> omega)).2]
  rfl
include hd hr in
theorem one_inn : innH (oneP k d) (oneR k) r = false := by
  unfold innH lookH
  rw [one_condH hd, one_sat, (one_rV hr).1, (one_rV hr).2]
  have h1 : anyN (fun q => sath (oneR k q)) 24 = false := by
    rw [← Bool.not_eq_true, anyN_iff]
    rintro ⟨t, _, h⟩
    unfold oneR at h
    revert h
    split <;> decide
  have h2 : anyN (lookH1 (condF (oneP k d)) (oneR k) r) 24 = false := by
    rw [← Bool.not_eq_true, anyN_iff]
    rintro ⟨t, ht, h⟩
    rw [one_look hd hr ht] at h
    cases h
  rw [h1, h2]; rfl
end
end Go.Proofs.Ytplffehgjdinnaa
