/- Numbers of TriSets: a covariance whose numbers of U are nought. -/
import Derived.Test.YtfkeljolpcbbkaaRN
namespace Go.Proofs.Ytfkeljolpcbbkaa
structure NoU (h : Nat → Int) : Prop where
  u : ∀ k, k < 276 → h k = 0
  d : ∀ k, k < 24 → 0 ≤ h (276 + k) ∧ h (276 + k) ≤ 72057594037927936
theorem rnd_unit {d : Int} (h : 0 ≤ d) : rnd (d * 1073741824) 30 = d := by
  unfold rnd
  rw [decide_eq_false (show ¬ d * 1073741824 < 0 by omega)]
  unfold withSign
  rw [if_neg (by decide)]
  unfold rq
  rw [show halfOf 30 = 536870912 by decide, show (2 : Nat) ^ 30 = 1073741824 by decide]
  omega
theorem uF_none {h : Nat → Int} (H : NoU h) (a b : Nat) (hb : b < 24) : uF h a b = if a = b then 1073741824 else 0 := by
  unfold uF
  cases hab : aboveB a b
  · rw [cond_false]
    by_cases e : a = b
    · subst e
      have h1 : inN (a : Int) = true := (inN_iff _).2 (by omega)
      rw [if_pos rfl, h1, decide_eq_true rfl]; rfl
    · have h1 : decide ((a : Int) = (b : Int)) = false := decide_eq_false (by omega)
      rw [if_neg e, h1]; rfl
  · obtain ⟨h0, h1, h2⟩ := (aboveB_iff _ _).1 hab
    obtain ⟨_, _, k2, k3⟩ := plc_bd h0 h1 h2
    rw [cond_true, H.u _ (by omega), if_neg (by omega)]
theorem mulv_none (d : Int) : mulv 0 d = 0 := by unfold mulv; rw [satv_zero, Int.zero_mul, rnd_zero, satv_zero]
theorem mulh_none {d : Int} (h : sath d = false) : mulh 0 d = false := by unfold mulh; rw [satv_zero, Int.zero_mul, rnd_zero, sath_zero, h]; rfl
theorem mulv_unit {d : Int} (h0 : 0 ≤ d) (h1 : d ≤ 72057594037927936) : mulv 1073741824 d = d ∧ mulh 1073741824 d = false := by
  obtain ⟨a1, a2⟩ := satv_in (a := 1073741824) (by omega) (by omega)
  obtain ⟨b1, b2⟩ := satv_in (a := d) (by omega) (by omega)
  unfold mulv mulh
  rw [a1, b1, a2, b2, Int.mul_comm, rnd_unit h0, b1, b2]; exact ⟨rfl, rfl⟩
theorem atY_none {h : Nat → Int} (H : NoU h) (j m t : Nat) (hm : m + t < 24) : atY h j m t = (if j = m + t then h (276 + (m + t)) else 0) ∧ mulh (uF h j ((m + t : Nat) : Int)) (h (276 + (m + t))) = false := by
  have hd := H.d (m + t) hm
  have hs : sath (h (276 + (m + t))) = false := (satv_in (by omega) (by omega)).2
  unfold atY
  rw [uF_none H j (m + t) hm]
  by_cases e : j = m + t
  · rw [if_pos e, if_pos e]; exact mulv_unit hd.1 hd.2
  · rw [if_neg e, if_neg e]; exact ⟨mulv_none _, mulh_none hs⟩
theorem sumP_head {xs ys : Nat → Int} : ∀ {n : Nat}, (∀ t, 0 < t → t ≤ n → satv (xs t) * satv (ys t) = 0) → sumP xs ys (n + 1) = satv (xs 0) * satv (ys 0)
  | 0, _ => by simp [sumP]
  | n + 1, h => by rw [sumP, sumP_head (fun t h0 h1 => h t h0 (by omega)), h (n + 1) (by omega) (by omega)]; omega
theorem anyP_no {xs ys : Nat → Int} : ∀ {n : Nat}, (∀ t, t < n → sath (xs t) = false ∧ sath (ys t) = false) → anyP xs ys n = false
  | 0, _ => rfl
  | n + 1, h => by rw [anyP, anyP_no (fun t ht => h t (by omega)), (h n (by omega)).1, (h n (by omega)).2]; rfl
theorem anyY_no {f : Nat → Int} {j : Int} {m : Nat} : ∀ {n : Nat}, (∀ t, t < n → mulh (uF f j ((m + t : Nat) : Int)) (f (276 + (m + t))) = false) → anyY f j m n = false
  | 0, _ => rfl
  | n + 1, h => by rw [anyY, anyY_no (fun t ht => h t (by omega)), h n (by omega)]; rfl
theorem at_none {h : Nat → Int} (H : NoU h) (i j : Nat) (hi : i < 24) (hj : j < 24) : atV h i j = (if i = j then h (276 + i) else 0) ∧ atH h i j = false := by
  have ni : inN (i : Int) = true := (inN_iff _).2 (by omega)
  have nj : inN (j : Int) = true := (inN_iff _).2 (by omega)
  have em : (max (i : Int) (j : Int)).toNat = max i j := by omega
  obtain ⟨n, hn⟩ : ∃ n, 24 - max i j = n + 1 := ⟨23 - max i j, by omega⟩
  have hm : max i j + n = 23 := by omega
  have hX : ∀ t, t ≤ n → atX h i (max i j) t = if i = max i j + t then 1073741824 else 0 := fun t ht => by
    unfold atX; exact uF_none H i (max i j + t) (by omega)
  have hY : ∀ t, t ≤ n → _ := fun t ht => atY_none H j (max i j) t (by omega)
  have hS : atS h i j = 1073741824 * (if i = j then h (276 + i) else 0) := by
    unfold atS
    rw [em, hn, sumP_head (fun t h0 h1 => by rw [hX t h1, if_neg (by omega), satv_zero, Int.zero_mul]), hX 0 (by omega), (hY 0 (by omega)).1]
    by_cases e : i = j
    · subst e
      have hd := H.d i hi
      rw [if_pos (by omega), if_pos (by omega), if_pos rfl, show max i i + 0 = i by omega, (satv_in (a := 1073741824) (by omega) (by omega)).1, (satv_in (a := h (276 + i)) (by omega) (by omega)).1]
    · rw [if_neg e]
      by_cases e2 : i = max i j + 0
      · rw [if_neg (show ¬ j = max i j + 0 by omega), satv_zero]; omega
      · rw [if_neg e2, satv_zero]; omega
  have hb : 0 ≤ (if i = j then h (276 + i) else 0) ∧ (if i = j then h (276 + i) else 0) ≤ 72057594037927936 := by
    by_cases e : i = j
    · rw [if_pos e]; exact H.d i hi
    · rw [if_neg e]; omega
  have hA : anyY h j (max i j) (n + 1) = false := anyY_no fun t ht => (hY t (by omega)).2
  have hP : anyP (atX h i (max i j)) (atY h j (max i j)) (n + 1) = false := anyP_no fun t ht => by
    have hd := H.d (max i j + t) (by omega)
    rw [hX t (by omega), (hY t (by omega)).1]
    constructor
    · split <;> decide
    · by_cases e : j = max i j + t
      · rw [if_pos e]; exact (satv_in (by omega) (by omega)).2
      · rw [if_neg e]; exact sath_zero
  unfold atV atH
  rw [ni, nj, em, hn, hA, hP, hS, Int.mul_comm, rnd_unit hb.1]
  generalize (if i = j then h (276 + i) else 0) = v at *
  have hv := satv_in (a := v) (by omega) (by omega)
  rw [hv.1, hv.2]
  exact ⟨rfl, rfl⟩
theorem at_far {h : Nat → Int} {x y : Int} (hx : x < 0 ∨ 23 < x ∨ y < 0 ∨ 23 < y) : atV h x y = 0 ∧ atH h x y = false := by
  have e : (inN x && inN y) = false := by
    rw [← Bool.not_eq_true, Bool.and_eq_true, inN_iff, inN_iff]; omega
  unfold atV atH
  rw [e]; exact ⟨rfl, rfl⟩
theorem NoU.cond {h : Nat → Int} (hu : ∀ k, k < 276 → h k = 0) : NoU (condF h) where
  u k hk := by unfold condF; rw [if_pos hk, hu k hk, satv_zero]
  d k _ := by
    unfold condF clampv
    rw [if_neg (by omega)]
    split <;> (try split) <;> (try split) <;> omega
end Go.Proofs.Ytfkeljolpcbbkaa
