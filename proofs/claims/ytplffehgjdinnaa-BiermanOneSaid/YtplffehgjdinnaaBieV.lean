/- One state measured by itself: what is learnt. Nothing of a program is used. -/
import Derived.Test.YtplffehgjdinnaaBieU
namespace Go.Proofs.Ytplffehgjdinnaa
open Go.RowKit

/-- Factors of a column of which nothing is added stay, whatever has been made of the others. -/
theorem nexO_id (c b o : Nat → Int) (x : Int) {j : Nat} (hj : j < 24) (h : ∀ t, t < j → mul4v (b t) x = 0) (ho : ∀ t, t < j → o (plc t j).toNat = colU c j t) (hc : ∀ t, t < j → -1152921504606846976 ≤ colU c j t ∧ colU c j t ≤ 1152921504606846976) : ∀ t, t ≤ j → nexO c b o x j t = o
  | 0, _ => rfl
  | t + 1, ht => by
    rw [nexO, nexO_id c b o x hj h ho hc t (by omega), h t (by omega), addv_zero (hc t (by omega))]
    exact upd_id _ (ho t (by omega))
theorem quo4v_in (a b : Int) : -1152921504606846976 ≤ quo4v a b ∧ quo4v a b ≤ 1152921504606846976 := by
  unfold quo4v divv
  split
  · exact side_bd _
  · exact ⟨satv_lo _, satv_hi _⟩
theorem mdh_no {d a b : Int} (hd : 0 ≤ d ∧ d ≤ 1152921504606846976) (ha : 0 ≤ a) (hab : a ≤ b) (hb : 0 < b ∧ b ≤ 1152921504606846976) : mdh d a b = false := by
  unfold mdh
  rw [sath_no (a := d) (by omega), sath_no (a := a) (by omega), sath_no (a := b) (by omega), satv_is (a := d) (by omega), satv_is (a := a) (by omega), satv_is (a := b) (by omega)]
  unfold divh
  rw [if_neg (by omega), divZ_nn (Int.mul_nonneg hd.1 ha) hb.1, toNat_mul hd.1 ha]
  have h1 : dq (d.toNat * a.toNat) b.toNat ≤ d.toNat := dq_le (by omega) (by omega)
  rw [sath_no (show _ ∧ _ by omega)]
  rfl
theorem mdv_lo {d r : Int} (hd : 2 ≤ d ∧ d ≤ 36028797018963968) (hr : 2 ≤ r ∧ r ≤ 36028797018963968) : 1 ≤ mdv d r (r + d) := by
  unfold mdv
  rw [satv_is (a := d) (by omega), satv_is (a := r) (by omega), satv_is (a := r + d) (by omega)]
  unfold divv
  rw [if_neg (by omega), divZ_nn (Int.mul_nonneg (by omega) (by omega)) (by omega)]
  have h1 : 2 * r ≤ d * r := Int.mul_le_mul_of_nonneg_right (by omega) (by omega)
  have h2 : d * 2 ≤ d * r := Int.mul_le_mul_of_nonneg_left (by omega) (by omega)
  have h3 : 1 ≤ dq (d * r).toNat (r + d).toNat := dq_big (by omega) (by omega)
  unfold satv
  (repeat' split) <;> omega
theorem quoh_no {a b : Int} (ha : 0 ≤ a) (hab : a ≤ b) (hb : 0 < b ∧ b ≤ 1152921504606846976) : quoh a b = false := by
  unfold quoh
  rw [sath_no (a := a) (by omega), sath_no (a := b) (by omega), satv_is (a := a) (by omega), satv_is (a := b) (by omega)]
  unfold divh
  rw [if_neg (by omega), show (2 : Int) ^ 30 = 1073741824 by decide, divZ_nn (by omega) hb.1]
  have h1 : dq (a * 1073741824).toNat b.toNat ≤ 1073741824 := dq_small (by omega) (by omega)
  rw [sath_no (show _ ∧ _ by omega)]
  rfl
abbrev oC (k : Nat) (d : Int) : Nat → Int := condF (oneP k d)
abbrev oF (k : Nat) (d : Int) : Nat → Int := bF (oC k d) (oneR k)
abbrev oV (k : Nat) (d : Int) : Nat → Int := bV (oC k d) (oneR k)
abbrev oA (k : Nat) (d r : Int) : Nat → Int := bA (oC k d) (oneR k) r
section
variable {k : Nat} {d r : Int} (hk : k < 24) (hd : 1048576 ≤ d ∧ d ≤ 36028797018963968) (hr : 1048576 ≤ r ∧ r ≤ 36028797018963968)
include hd hr in
theorem one_X {j : Nat} (hj : j < 24) (h : j ≠ k) : bX (oF k d) (oA k d r) j = 0 := by
  unfold bX
  have hA := one_Abd (k := k) hd hr (show j ≤ 24 by omega)
  have hF := (one_F (k := k) hd hj).1
  show -quo4v (bF (condF (oneP k d)) (oneR k) j) (bA (condF (oneP k d)) (oneR k) r j) = 0
  rw [hF, if_neg h, quo4v_none (by omega)]
  rfl
theorem one_Xs (j : Nat) : sath (bX (oF k d) (oA k d r) j) = false := by
  unfold bX
  have := quo4v_in (oF k d j) (oA k d r j)
  exact sath_no (by omega)
include hd hr in
theorem one_qh {j : Nat} (hj : j < 24) : quo4h (oF k d j) (oA k d r j) = false := by
  have hA := one_Abd (k := k) hd hr (show j ≤ 24 by omega)
  have hAk := one_A (k := k) hd hr j (by omega)
  have hF := (one_F (k := k) hd hj).1
  show quo4h (bF (condF (oneP k d)) (oneR k) j) (bA (condF (oneP k d)) (oneR k) r j) = false
  rw [hF]
  unfold quo4h
  rw [sath_no (a := bA (condF (oneP k d)) (oneR k) r j) (by omega), satv_is (a := bA (condF (oneP k d)) (oneR k) r j) (by omega)]
  by_cases e : j = k
  · rw [if_pos e]
    unfold divh
    rw [if_neg (by omega), satv_is (a := 1073741824) (by omega), sath_no (a := 1073741824) (by omega), show (1073741824 : Int) * 2 ^ 44 = 18889465931478580854784 by decide, divZ_nn (by omega) (by omega)]
    have h1 : dq (18889465931478580854784 : Int).toNat (bA (condF (oneP k d)) (oneR k) r j).toNat ≤ 18014398509481984 := dq_small (by omega) (by omega)
    rw [sath_no (show _ ∧ _ by omega)]
    rfl
  · rw [if_neg e]
    unfold divh
    rw [if_neg (by omega), satv_zero, Int.zero_mul, divZ_zero (by omega), usath_zero]
    rfl
include hd in
theorem one_B : ∀ n, n ≤ 24 → ∀ i, lrB (oC k d) (oV k d) n i = if i = k ∧ k < n then d else 0
  | 0, _, i => by rw [if_neg (by omega)]; rfl
  | n + 1, hn, i => by
    have hV := (one_V (k := k) hd (show n < 24 by omega)).1
    have hu : upd (lrB (oC k d) (oV k d) n) n (oV k d n) i = if i = k ∧ k < n + 1 then d else 0 := by
      by_cases e : i = n
      · subst e
        rw [upd_same]
        show bV (condF (oneP k d)) (oneR k) i = _
        rw [hV]
        by_cases h : i = k
        · rw [if_pos h, if_pos (by omega)]
        · rw [if_neg h, if_neg (by omega)]
      · rw [upd_other _ _ e, one_B n (by omega) i]
        by_cases h : i = k ∧ k < n
        · rw [if_pos h, if_pos (by omega)]
        · rw [if_neg h, if_neg (by omega)]
    rw [lrB]
    unfold nexB
    split
    · rename_i h
      rw [one_col hd (by omega) (by omega), if_neg (by omega), mulv_none2, addv_zero (by rw [hu]; split <;> omega), hu]
    · exact hu
include hd hr in
theorem one_bx {j t : Nat} (hj : j < 24) (ht : t < j) : mul4v (upd (lrB (oC k d) (oV k d) j) j (oV k d j) t) (bX (oF k d) (oA k d r) j) = 0 ∧ (upd (lrB (oC k d) (oV k d) j) j (oV k d j) t = 0 ∨ upd (lrB (oC k d) (oV k d) j) j (oV k d j) t = d ∧ bX (oF k d) (oA k d r) j = 0) := by
  rw [upd_other _ _ (by omega), one_B hd j (by omega) t]
  by_cases e : j = k
  · rw [if_neg (by omega)]
    exact ⟨mul4v_none2 _, .inl rfl⟩
  · rw [one_X hd hr hj e]
    refine ⟨mul4v_none _, ?_⟩
    split
    · exact .inr ⟨rfl, rfl⟩
    · exact .inl rfl
include hd in
theorem one_colbd {j t : Nat} (hj : j < 24) (ht : t < j) : colU (oC k d) j t = 0 := by rw [one_col hd hj (by omega), if_neg (by omega)]
include hd hr in
theorem one_O : ∀ n, n ≤ 24 → ∀ q, lrO (oC k d) (oF k d) (oV k d) (oA k d r) n q = if 276 ≤ q ∧ q < 276 + n then bD (oC k d) (oA k d r) (q - 276) else oC k d q
  | 0, _, q => by rw [if_neg (by omega)]; rfl
  | n + 1, hn, q => by
    have ih := one_O n (by omega)
    have hn24 : n < 24 := by omega
    rw [lrO, nexO_id _ _ _ _ hn24 (fun t ht => (one_bx hd hr hn24 ht).1) (fun t ht => by
      have hb := plcT_bd ht hn24
      rw [upd_other _ _ (by omega), ih, if_neg (by omega)]
      unfold colU
      rw [uF_in (by omega) (by omega) (by omega)]) (fun t ht => by rw [one_colbd hd hn24 ht]; omega) n (Nat.le_refl _)]
    by_cases e : q = 276 + n
    · subst e
      rw [upd_same, if_pos (by omega), show 276 + n - 276 = n by omega]
    · rw [upd_other _ _ e, ih]
      by_cases h : 276 ≤ q ∧ q < 276 + n
      · rw [if_pos h, if_pos (by omega)]
      · rw [if_neg h, if_neg (by omega)]
include hd hr in
theorem one_D {j : Nat} (hj : j < 24) : bD (oC k d) (oA k d r) j = (if j = k then mdv d r (r + d) else 1) ∧ mdh (oC k d (276 + j)) (oA k d r j) (oA k d r (j + 1)) = false ∧ clamph (mdv (oC k d (276 + j)) (oA k d r j) (oA k d r (j + 1))) 1 72057594037927936 = false := by
  have hD := one_Dbd (k := k) hd j hj
  have h0 := one_Abd (k := k) hd hr (show j ≤ 24 by omega)
  have h1 := one_Abd (k := k) hd hr (show j + 1 ≤ 24 by omega)
  have a0 := one_A (k := k) hd hr j (by omega)
  have a1 := one_A (k := k) hd hr (j + 1) (by omega)
  have hc : oC k d (276 + j) = oneP k d (276 + j) := one_cond hd (by omega)
  have hle : oA k d r j ≤ oA k d r (j + 1) := by
    show bA _ _ _ _ ≤ bA _ _ _ _
    rw [a0, a1]
    (repeat' split) <;> omega
  have hm : mdv (oC k d (276 + j)) (oA k d r j) (oA k d r (j + 1)) = (if j = k then mdv d r (r + d) else 1) := by
    rw [hc]
    show mdv _ (bA (condF (oneP k d)) (oneR k) r j) (bA (condF (oneP k d)) (oneR k) r (j + 1)) = _
    rw [a0, a1]
    by_cases e : j = k
    · subst e
      have : oneP j d (276 + j) = d := by unfold oneP; rw [if_neg (by omega), if_pos rfl]
      rw [if_pos (Nat.le_refl _), if_neg (by omega), if_pos rfl, this]
    · have : oneP k d (276 + j) = 1 := by unfold oneP; rw [if_neg (by omega), if_neg (by omega)]
      rw [if_neg e, this]
      by_cases h : j ≤ k
      · rw [if_pos h, if_pos (by omega)]
        exact mdv_same (by omega) (by omega)
      · rw [if_neg h, if_neg (by omega)]
        exact mdv_same (by omega) (by omega)
  have hb : 1 ≤ (if j = k then mdv d r (r + d) else 1) ∧ (if j = k then mdv d r (r + d) else 1) ≤ 36028797018963968 := by
    split
    · exact ⟨mdv_lo (by omega) (by omega), Int.le_trans (mdv_le (by omega) (by omega) (by omega) (by omega)) hd.2⟩
    · omega
  refine ⟨?_, ?_, ?_⟩
  · unfold bD
    rw [hm, clamp_id (by omega)]
  · rw [hc]
    have h0' : 1048576 ≤ oA k d r j := h0.1
    have h1' : 1048576 ≤ oA k d r (j + 1) := h1.1
    have h1'' : oA k d r (j + 1) ≤ 72057594037927936 := h1.2
    exact mdh_no (by omega) (by omega) hle ⟨by omega, by omega⟩
  · rw [hm]
    unfold clamph
    rw [decide_eq_false (by omega), decide_eq_false (by omega), decide_eq_false (by omega)]
    rfl
include hd hr in
theorem one_H1 {j : Nat} (hj : j < 24) : lrH1 (oC k d) (oF k d) (oV k d) (oA k d r) j = false := by
  unfold lrH1
  rw [(one_D hd hr hj).2.1, (one_D hd hr hj).2.2, one_qh hd hr hj]
  have hn : anyN (nexL (oC k d) (oV k d) (upd (lrB (oC k d) (oV k d) j) j (oV k d j)) (bX (oF k d) (oA k d r) j) j) j = false := by
    rw [← Bool.not_eq_true, anyN_iff]
    rintro ⟨t, ht, h⟩
    have hx := one_bx (k := k) (r := r) hd hr hj ht
    have hs := one_Xs (k := k) (d := d) (r := r) j
    have hV := (one_V (k := k) hd hj).1
    have hVb : -1152921504606846976 ≤ oV k d j ∧ oV k d j ≤ 1152921504606846976 := by
      show _ ≤ bV _ _ _ ∧ bV _ _ _ ≤ _
      rw [hV]
      split <;> omega
    unfold nexL at h
    rw [hx.1, one_colbd hd hj ht, mulv_none2, (mulh_none hVb).2] at h
    have hp : satv (upd (lrB (oC k d) (oV k d) j) j (oV k d j) t) * satv (bX (oF k d) (oA k d r) j) = 0 := by
      rcases hx.2 with e | ⟨_, e⟩
      · rw [e, satv_zero, Int.zero_mul]
      · rw [e, satv_zero, Int.mul_zero]
    have hb : -1152921504606846976 ≤ upd (lrB (oC k d) (oV k d) j) j (oV k d j) t ∧ upd (lrB (oC k d) (oV k d) j) j (oV k d j) t ≤ 1152921504606846976 := by
      rcases hx.2 with e | ⟨e, _⟩ <;> rw [e] <;> omega
    have h4 : mul4h (upd (lrB (oC k d) (oV k d) j) j (oV k d j) t) (bX (oF k d) (oA k d r) j) = false := by
      unfold mul4h
      rw [hp, hs, sath_no hb, rnd44_zero, usath_zero]
      rfl
    rw [h4, (addh_no (a := 0) (b := 0) (by omega) (by omega) (by omega)).2, (addh_no hb (b := 0) (by omega) (by omega)).2] at h
    cases h
  rw [hn]
  rfl
include hk hd hr in
/-- What is learnt of one state by itself. -/
theorem one_all : (∀ q, q < 300 → updF (oneP k d) (oneR k) r q = if q = 276 + k then mdv d r (r + d) else oneP k d q) ∧ updS (oneP k d) (oneR k) r = r + d ∧ (∀ i, updK (oneP k d) (oneR k) r i = if i = k then quov d (r + d) else 0) ∧ updH (oneP k d) (oneR k) r = false := by
  have hS : updS (oneP k d) (oneR k) r = r + d := by
    unfold updS
    rw [one_sat, (one_rV hr).1, one_A hd hr 24 (Nat.le_refl _), if_neg (by omega)]
  have hB : ∀ i, updB (oneP k d) (oneR k) i = if i = k then d else 0 := fun i => by
    unfold updB
    rw [one_sat]
    have := one_B (k := k) hd 24 (Nat.le_refl _) i
    rw [this]
    by_cases e : i = k
    · rw [if_pos e, if_pos (by omega)]
    · rw [if_neg e, if_neg (by omega)]
  refine ⟨fun q hq => ?_, hS, fun i => ?_, ?_⟩
  · unfold updF
    rw [one_sat, (one_rV hr).1]
    have := one_O (k := k) (r := r) hd hr 24 (Nat.le_refl _) q
    refine this.trans ?_
    by_cases h : 276 ≤ q
    · obtain ⟨j, rfl⟩ : ∃ j, q = 276 + j := ⟨q - 276, by omega⟩
      rw [if_pos (by omega), show 276 + j - 276 = j by omega, (one_D hd hr (by omega)).1]
      by_cases e : j = k
      · rw [if_pos e, if_pos (by omega)]
      · rw [if_neg e, if_neg (by omega)]
        unfold oneP
        rw [if_neg (by omega), if_neg (by omega)]
    · rw [if_neg (by omega), if_neg (by omega)]
      exact one_cond hd hq
  · unfold updK
    rw [hB, hS]
    split
    · rfl
    · exact quov_none (by omega)
  · unfold updH
    rw [one_inn hd hr, one_sat, (one_rV hr).1]
    have h1 : anyN (lrH1 (oC k d) (oF k d) (oV k d) (oA k d r)) 24 = false := by
      rw [← Bool.not_eq_true, anyN_iff]
      rintro ⟨t, ht, h⟩
      rw [one_H1 hd hr ht] at h
      cases h
    have h2 : anyN (fun i => quoh (updB (oneP k d) (oneR k) i) (updS (oneP k d) (oneR k) r)) 24 = false := by
      rw [← Bool.not_eq_true, anyN_iff]
      rintro ⟨t, _, h⟩
      rw [hB, hS] at h
      split at h
      · rw [quoh_no (by omega) (by omega) (by omega)] at h
        cases h
      · rw [quoh_no (by omega) (by omega) (by omega)] at h
        cases h
    rw [h1, h2]
    rfl
end
end Go.Proofs.Ytplffehgjdinnaa
