/- A number learnt: what its numbers keep. Nothing of a program is used. -/
import Derived.Test.YtplffehgjdinnaaSxBi
namespace Go.Proofs.Ytplffehgjdinnaa
open Go.RowKit

theorem addv_in {a m : Int} (h1 : -1152921504606846976 ≤ a ∧ a ≤ 1152921504606846976) (h2 : -1152921504606846976 ≤ m ∧ m ≤ 1152921504606846976) : addv a m = satv (a + m) := by
  unfold addv
  rw [(satv_in h1.1 h1.2).1, (satv_in h2.1 h2.2).1]
theorem addv_zero {a : Int} (h1 : -1152921504606846976 ≤ a ∧ a ≤ 1152921504606846976) : addv a 0 = a := by
  rw [addv_in h1 (by omega), Int.add_zero, (satv_in h1.1 h1.2).1]
theorem addv_up {a m : Int} (h1 : -1152921504606846976 ≤ a ∧ a ≤ 1152921504606846976) (h2 : 0 ≤ m ∧ m ≤ 1152921504606846976) : a ≤ addv a m := by
  rw [addv_in h1 (by omega)]
  unfold satv
  (repeat' split) <;> omega
theorem brnd_nn {v : Int} (h : 0 ≤ v) (s : Nat) : 0 ≤ rnd v s := by
  unfold rnd
  rw [decide_eq_false (by omega)]
  unfold withSign
  rw [if_neg (by decide)]
  omega
theorem satv_nn {v : Int} (h : 0 ≤ v) : 0 ≤ satv v := by unfold satv; (repeat' split) <;> omega
theorem mulv_neg (a b : Int) : mulv (-a) b = -mulv a b := by
  unfold mulv
  rw [satv_neg, Int.neg_mul, SX.rnd_neg, satv_neg]
theorem mulv_neg2 (a b : Int) : mulv a (-b) = -mulv a b := by
  unfold mulv
  rw [satv_neg, Int.mul_neg, SX.rnd_neg, satv_neg]
theorem mul4v_neg (a b : Int) : mul4v (-a) (-b) = mul4v a b := by
  unfold mul4v
  rw [satv_neg, satv_neg, Int.neg_mul_neg]
theorem mulv_nn {a b : Int} (h1 : 0 ≤ a) (h2 : 0 ≤ b) : 0 ≤ mulv a b := satv_nn (brnd_nn (Int.mul_nonneg (satv_nn h1) (satv_nn h2)) 30)
/-- What is measured grows with each column. -/
theorem part_nn (d f : Int) (hd : 0 ≤ d) : 0 ≤ mulv f (mulv d f) := by
  rcases Int.le_total 0 f with h | h
  · exact mulv_nn h (mulv_nn hd h)
  · have e : f = -(-f) := by omega
    rw [e, mulv_neg2, mulv_neg2, mulv_neg, Int.neg_neg]
    exact mulv_nn (by omega) (mulv_nn hd (by omega))
theorem bA_up (p h : Nat → Int) {r : Int} (hr : 1 ≤ r ∧ r ≤ 72057594037927936) (hp : ∀ j, j < 24 → 0 ≤ p (276 + j)) : ∀ j, j < 24 → bA p h r j ≤ bA p h r (j + 1) := fun j hj => by
  rw [bA]
  refine addv_up (bA_bd p h r hr j) ⟨?_, (mulv_bd _ _).2⟩
  unfold bV
  exact part_nn _ _ (hp j hj)
theorem bA_lo (p h : Nat → Int) {r : Int} (hr : 1 ≤ r ∧ r ≤ 72057594037927936) (hp : ∀ j, j < 24 → 0 ≤ p (276 + j)) : ∀ j, j ≤ 24 → r ≤ bA p h r j
  | 0, _ => Int.le_refl _
  | j + 1, hj => Int.le_trans (bA_lo p h hr hp j (by omega)) (bA_up p h hr hp j (by omega))
theorem divZ_nn {v d : Int} (hv : 0 ≤ v) (hd : 0 < d) : divZ v d = (dq v.toNat d.toNat : Nat) := by
  rw [divZ_sign, decide_eq_false (by omega), decide_eq_false (by omega)]
  unfold withSign
  rw [if_neg (by decide), show v.natAbs = v.toNat by omega, show d.natAbs = d.toNat by omega]
/-- d a / b is no greater than d where a is no greater than b. -/
theorem dq_le {d a b : Nat} (hb : 0 < b) (h : a ≤ b) : dq (d * a) b ≤ d := by
  unfold dq
  rcases Nat.lt_or_ge (d * a) (d * b) with h1 | h1
  · have h2 : d * a / b < d := by rw [Nat.div_lt_iff_lt_mul hb]; exact h1
    split <;> omega
  · have h2 : d * a = d * b := Nat.le_antisymm (Nat.mul_le_mul_left d h) h1
    rw [h2, Nat.mul_div_cancel _ hb, Nat.mul_mod_left, if_neg (by omega)]
    omega
theorem dq_same {d b : Nat} (hb : 0 < b) : dq (d * b) b = d := by
  unfold dq
  rw [Nat.mul_div_cancel _ hb, Nat.mul_mod_left, if_neg (by omega)]
  omega
theorem toNat_mul {a b : Int} (ha : 0 ≤ a) (hb : 0 ≤ b) : (a * b).toNat = a.toNat * b.toNat := by
  obtain ⟨m, rfl⟩ := Int.eq_ofNat_of_zero_le ha
  obtain ⟨n, rfl⟩ := Int.eq_ofNat_of_zero_le hb
  rw [← Int.natCast_mul]; rfl
theorem mdv_le {d a b : Int} (hd : 0 ≤ d ∧ d ≤ 1152921504606846976) (ha : 0 ≤ a) (hab : a ≤ b) (hb : 0 < b ∧ b ≤ 1152921504606846976) : mdv d a b ≤ d := by
  unfold mdv
  rw [(satv_in (show -1152921504606846976 ≤ d by omega) hd.2).1, (satv_in (show -1152921504606846976 ≤ a by omega) (show a ≤ 1152921504606846976 by omega)).1, (satv_in (show -1152921504606846976 ≤ b by omega) hb.2).1]
  unfold divv
  rw [if_neg (by omega), divZ_nn (Int.mul_nonneg hd.1 ha) hb.1, toNat_mul hd.1 ha]
  have h1 : dq (d.toNat * a.toNat) b.toNat ≤ d.toNat := dq_le (by omega) (by omega)
  unfold satv
  (repeat' split) <;> omega
theorem mdv_same {d a : Int} (hd : 0 ≤ d ∧ d ≤ 1152921504606846976) (ha : 0 < a ∧ a ≤ 1152921504606846976) : mdv d a a = d := by
  unfold mdv
  rw [(satv_in (show -1152921504606846976 ≤ d by omega) hd.2).1, (satv_in (show -1152921504606846976 ≤ a by omega) ha.2).1]
  unfold divv
  rw [if_neg (by omega), divZ_nn (Int.mul_nonneg hd.1 (by omega)) ha.1, toNat_mul hd.1 (by omega), dq_same (by omega)]
  rw [(satv_in (show -1152921504606846976 ≤ (d.toNat : Int) by omega) (by omega)).1]
  omega
theorem clamp_le {x d : Int} (h1 : 1 ≤ d) (h2 : x ≤ d) : clampv x 1 72057594037927936 ≤ d := by unfold clampv; (repeat' split) <;> omega
theorem clamp_id {d : Int} (h1 : 1 ≤ d ∧ d ≤ 72057594037927936) : clampv d 1 72057594037927936 = d := by unfold clampv; (repeat' split) <;> omega
theorem condD_bd (p : Nat → Int) {j : Nat} : 1 ≤ condF p (276 + j) ∧ condF p (276 + j) ≤ 72057594037927936 := by
  unfold condF
  rw [if_neg (by omega)]
  unfold clampv
  (repeat' split) <;> omega
section
variable (p h : Nat → Int) (r : Int)
theorem aseen (j : Nat) (hj : j ≤ 24) : 1 ≤ bA (condF p) (satH h) (rV r) j ∧ bA (condF p) (satH h) (rV r) j ≤ 1152921504606846976 :=
  ⟨Int.le_trans (rV_bd r).1 (bA_lo _ _ (rV_bd r) (fun j _ => by have := condD_bd p (j := j); omega) j hj), (bA_bd _ _ _ (rV_bd r) j).2⟩
theorem updF_D {j : Nat} (hj : j < 24) : updF p h r (276 + j) = bD (condF p) (bA (condF p) (satH h) (rV r)) j := by
  unfold updF
  rw [lrO_D _ _ _ _ _ _ (Nat.le_refl _) hj, if_pos hj]
/-- No D is greater than it was. -/
theorem updF_less {j : Nat} (hj : j < 24) : updF p h r (276 + j) ≤ condF p (276 + j) := by
  rw [updF_D p h r hj]
  have hd := condD_bd p (j := j)
  have h1 := aseen p h r j (by omega)
  have h2 := aseen p h r (j + 1) (by omega)
  exact clamp_le hd.1 (mdv_le (by omega) (by omega) (bA_up _ _ (rV_bd r) (fun j _ => by have := condD_bd p (j := j); omega) j hj) (by omega))
theorem updF_Dbd {j : Nat} (hj : j < 24) : 1 ≤ updF p h r (276 + j) ∧ updF p h r (276 + j) ≤ 72057594037927936 := by
  rw [updF_D p h r hj]; exact bD_bd _ _ _
theorem bhitD_none {f : Nat → Int} : ∀ {n : Nat}, (∀ k, k < n → 1 ≤ f (276 + k) ∧ f (276 + k) ≤ 72057594037927936) → hitD f n = false
  | 0, _ => rfl
  | n + 1, h => by
    have h1 := h n (by omega)
    rw [hitD, bhitD_none (fun k hk => h k (by omega))]
    unfold clamph
    rw [decide_eq_false (by omega), decide_eq_false (by omega), decide_eq_false (by omega)]; rfl
theorem bhitU_none {f : Nat → Int} : ∀ {n : Nat}, (∀ k, k < n → -1152921504606846976 ≤ f k ∧ f k ≤ 1152921504606846976) → hitU f n = false
  | 0, _ => rfl
  | n + 1, h => by
    have h1 := h n (by omega)
    rw [hitU, bhitU_none (fun k hk => h k (by omega)), (satv_in h1.1 h1.2).2]; rfl
theorem bgood_of {f : Nat → Int} (h1 : ∀ k, k < 276 → -1152921504606846976 ≤ f k ∧ f k ≤ 1152921504606846976) (h2 : ∀ k, k < 24 → 1 ≤ f (276 + k) ∧ f (276 + k) ≤ 72057594037927936) : goodB f = true := by
  unfold goodB condH
  rw [bhitD_none h2, bhitU_none h1]; rfl
/-- What has been learnt is good. -/
theorem updF_good : goodB (updF p h r) = true := bgood_of (fun k _ => updF_bd p h r k) fun _ hk => updF_Dbd p h r hk
/-- What is good stays as it is when it is kept within its bounds. -/
theorem condF_upd {k : Nat} (hk : k < 300) : condF (updF p h r) k = updF p h r k := by
  unfold condF
  by_cases h1 : k < 276
  · rw [if_pos h1, (satv_in (updF_bd p h r k).1 (updF_bd p h r k).2).1]
  · obtain ⟨j, rfl⟩ : ∃ j, k = 276 + j := ⟨k - 276, by omega⟩
    rw [if_neg h1, clamp_id (updF_Dbd p h r (by omega))]
theorem updS_lo : 1 ≤ updS p h r := (aseen p h r 24 (Nat.le_refl _)).1
theorem updS_up (hr : r ≤ 72057594037927936) : r ≤ updS p h r := by
  have h1 := bA_lo (condF p) (satH h) (rV_bd r) (fun j _ => by have := condD_bd p (j := j); omega) 24 (Nat.le_refl _)
  have h2 : r ≤ rV r := by unfold rV clampv; (repeat' split) <;> omega
  unfold updS
  omega
end
end Go.Proofs.Ytplffehgjdinnaa
