/- A state begun anew has nothing in common with others: numbers. Nothing of a program is used. -/
import Derived.Test.YtadeadpcpgfkbaaBlkN
import Derived.Test.YtadeadpcpgfkbaaTriP
namespace Go.Proofs.Ytadeadpcpgfkbaa
open Go.RowKit

theorem sumQ_none {xs ys : Nat → Int} : ∀ {n : Nat}, (∀ k, k < n → xs k = 0 ∨ ys k = 0) → sumP xs ys n = 0
  | 0, _ => rfl
  | n + 1, h => by
    rw [sumP, sumQ_none (fun k hk => h k (by omega))]
    rcases h n (by omega) with e | e
    · rw [e, satv_zero, Int.zero_mul]; rfl
    · rw [e, satv_zero, Int.mul_zero]; rfl
theorem sumQ_one {xs ys : Nat → Int} {c : Nat} : ∀ {n : Nat}, c < n → (∀ k, k < n → k ≠ c → xs k = 0 ∨ ys k = 0) → sumP xs ys n = satv (xs c) * satv (ys c)
  | 0, h, _ => by omega
  | n + 1, h, hz => by
    rw [sumP]
    by_cases e : c = n
    · subst e
      rw [sumQ_none (fun k hk => hz k (by omega) (by omega)), Int.zero_add]
    · rw [sumQ_one (n := n) (by omega) (fun k hk hc => hz k (by omega) hc)]
      rcases hz n (by omega) (by omega) with e2 | e2
      · rw [e2, satv_zero, Int.zero_mul, Int.add_zero]
      · rw [e2, satv_zero, Int.mul_zero, Int.add_zero]
theorem dotv_none {xs ys : Nat → Int} {n : Nat} (h : ∀ k, k < n → xs k = 0 ∨ ys k = 0) : dotv xs ys n = 0 := by
  unfold dotv; rw [sumQ_none h, rnd_zero, satv_zero]
theorem mulv_zero_l (b : Int) : mulv 0 b = 0 := by unfold mulv; rw [satv_zero, Int.zero_mul, rnd_zero, satv_zero]
theorem mulv_zero_r (a : Int) : mulv a 0 = 0 := by unfold mulv; rw [satv_zero, Int.mul_zero, rnd_zero, satv_zero]
theorem subv_zero_r (a : Int) : subv a 0 = satv a := by
  unfold subv; rw [satv_zero, Int.sub_zero]
  exact (satv_in (satv_lo a) (satv_hi a)).1
theorem quov_zero {d : Int} (hd : 1 ≤ d ∧ d ≤ 72057594037927936) : quov 0 d = 0 := by
  rw [← quoZ_eq]
  unfold quoZ
  have h1 : satZ d = d := by rw [satZ_eq]; exact (satv_in (by omega) (by omega)).1
  rw [h1]
  have h2 : zeroI d = false := by
    cases h : zeroI d
    · rfl
    · have := zeroI_eq h; omega
  rw [h2]; rfl
theorem dF_in (W e : Nat → Int) (j : Nat) : 1 ≤ dF W e j ∧ dF W e j ≤ 72057594037927936 := by
  unfold dF clampv
  (repeat' split) <;> omega
structure Inert (W : Nat → Int) (k : Nat) : Prop where
  own : ∀ c, c < 48 → W (48 * k + c) = if c = 24 + k then 1073741824 else 0
  no : ∀ i, i < 24 → i ≠ k → W (48 * i + (24 + k)) = 0
theorem Inert.u {W e : Nat → Int} {k : Nat} (h : Inert W k) (hk : k < 24) {i j : Nat} (hi : i < 24) (hj : j < 24) (hij : i ≠ j) (hik : i = k ∨ j = k) : uS W e j i = 0 := by
  have hd : dotv (rowJ W i) (yF W e j) 48 = 0 := by
    refine dotv_none fun c hc => ?_
    rcases hik with rfl | rfl
    · by_cases e1 : c = 24 + i
      · right; unfold yF; rw [e1, h.no j hj (by omega), mulv_zero_l]
      · left; unfold rowJ; rw [h.own c hc, if_neg e1]
    · by_cases e1 : c = 24 + j
      · left; unfold rowJ; rw [e1]; exact h.no i hi hij
      · right; unfold yF; rw [h.own c hc, if_neg e1, mulv_zero_l]
  unfold uS
  rw [hd]
  exact quov_zero (dF_in W e j)
theorem Inert.next {W e : Nat → Int} {k j : Nat} (h : Inert W k) (hk : k < 24) (hj : j < 24) : Inert (nexW W e j j) k := by
  constructor
  · intro c hc
    by_cases hkj : k < j
    · rw [nexW_at hc hkj hkj (Nat.le_refl _), h.u hk hk hj (by omega) (.inl rfl), mulv_zero_l, subv_zero_r, h.own c hc]
      split
      · exact (satv_in (by omega) (by omega)).1
      · exact satv_zero
    · rw [nexW_other (by omega)]; exact h.own c hc
  · intro i hi hik
    by_cases hij : i < j
    · rw [nexW_at (by omega) hij hij (Nat.le_refl _), h.no i hi hik]
      by_cases hjk : j = k
      · rw [h.u hk hi hj (by omega) (.inr hjk), mulv_zero_l, subv_zero_r, satv_zero]
      · rw [h.no j hj hjk, mulv_zero_r, subv_zero_r, satv_zero]
    · rw [nexW_other (by omega)]; exact h.no i hi hik
theorem Inert.all {W e : Nat → Int} {k : Nat} (h : Inert W k) (hk : k < 24) : ∀ n, n ≤ 24 → Inert (stW W e n) k
  | 0, _ => h
  | n + 1, hn => (h.all hk n (by omega)).next hk (by omega)
theorem Inert.rows {p g : Nat → Int} {k : Nat} (hk : k < 24) (hg : ∀ t, t < 24 → g (24 * k + t) = 0) (n : Nat → Nat) (hn : ∀ c, c < 24 → n c ≤ 24) : Inert (rowW p g n) k := by
  constructor
  · intro c hc
    unfold rowW
    rw [show (48 * k + c) % 48 = c by omega, show (48 * k + c) / 48 = k by omega]
    by_cases h1 : c < 24
    · rw [if_pos h1, if_neg (by omega)]
      exact dotv_none fun t ht => .inl (hg t (by have := hn c h1; omega))
    · rw [if_neg h1]
  · intro i hi hik
    unfold rowW
    rw [show (48 * i + (24 + k)) % 48 = 24 + k by omega, show (48 * i + (24 + k)) / 48 = i by omega, if_neg (by omega), if_neg (by omega)]
theorem stO_var (W e : Nat → Int) : ∀ (n j : Nat), n ≤ 24 → 24 - n ≤ j → j < 24 → stO W e n (276 + j) = dF (stW W e (23 - j)) e j
  | 0, j, _, h, h2 => by omega
  | n + 1, j, hn, h, h2 => by
    rw [stO, outI_at _ _ _ (by omega) (Nat.le_refl _)]
    have hb := plcN_le (23 - n + 1) (by omega)
    have hs := plcN_next (23 - n) (by omega)
    by_cases e1 : 276 + j = 276 + (23 - n)
    · obtain rfl : j = 23 - n := by omega
      rw [if_pos rfl, show 23 - (23 - n) = n by omega]
    · rw [if_neg e1, if_neg (by omega)]
      exact stO_var W e n j (by omega) (by omega) h2
theorem plcN_up : ∀ j, j < 24 → ∀ m, m < 24 → j < m → plcN j + j ≤ plcN m := by decide
theorem stO_num (W e : Nat → Int) : ∀ (n j i : Nat), n ≤ 24 → 24 - n ≤ j → j < 24 → i < j → stO W e n (plcN j + i) = uS (stW W e (23 - j)) e j i
  | 0, j, _, _, h, h2, _ => by omega
  | n + 1, j, i, hn, h, h2, hi => by
    rw [stO, outI_at _ _ _ (by omega) (Nat.le_refl _)]
    have hb := plcN_le (j + 1) (by omega)
    have hs := plcN_next j (by omega)
    rw [if_neg (by omega)]
    by_cases e1 : j = 23 - n
    · subst e1
      rw [if_pos (by omega), show 23 - (23 - n) = n by omega, show plcN (23 - n) + i - plcN (23 - n) = i by omega]
    · have := plcN_up (23 - n) (by omega) j h2 (by omega)
      rw [if_neg (by omega)]
      exact stO_num W e n j i (by omega) (by omega) h2 hi
theorem rnd_ones {q : Int} : rnd (1073741824 * q) 30 = q := by
  have := rnd_bd (1073741824 * q)
  omega
theorem step_apart {f g q : Nat → Int} {k : Nat} (hk : k < 24) (hg : ∀ t, t < 24 → g (24 * k + t) = 0) (hq : 1 ≤ q k ∧ q k ≤ 72057594037927936) :
    stepF f g q (276 + k) = q k ∧ ∀ j, j < 24 → j ≠ k → uF (stepF f g q) (k : Int) (j : Int) = 0 ∧ uF (stepF f g q) (j : Int) (k : Int) = 0 := by
  have hI : Inert (rowW (condF f) (sat576 g) (fun k => k + 1)) k := Inert.rows hk (fun t ht => by unfold sat576; rw [hg t ht, satv_zero]) _ (fun c hc => by omega)
  have hA := fun n (hn : n ≤ 24) => hI.all (e := wei (condF f) q) hk n hn
  have hu : ∀ i j : Nat, i < 24 → j < 24 → i ≠ j → (i = k ∨ j = k) → uF (stepF f g q) (i : Int) (j : Int) = 0 := by
    intro i j hi hj hij hik
    unfold uF
    by_cases h : i < j
    · rw [(aboveB_iff _ _).2 (by omega), cond_true, plc_N i hj]
      unfold stepF
      rw [stO_num _ _ 24 j i (by omega) (by omega) hj h]
      exact (hA _ (by omega)).u hk hi hj hij hik
    · rw [(aboveB_no _ _).2 (by omega), cond_false, decide_eq_false (by omega), Bool.false_and]; rfl
  refine ⟨?_, fun j hj hjk => ⟨hu k j hk hj (by omega) (.inl rfl), hu j k hj hk hjk (.inr rfl)⟩⟩
  unfold stepF
  rw [stO_var _ _ 24 k (by omega) (by omega) hk]
  have h := hA (23 - k) (by omega)
  generalize stW _ _ _ = W at *
  have hw : wei (condF f) q (24 + k) = q k := by
    unfold wei
    rw [if_neg (by omega), show 24 + k - 24 = k by omega]
    unfold clampv
    rw [if_neg (by omega), if_neg (by omega), if_neg (by omega)]
  have hy : yF W (wei (condF f) q) k (24 + k) = q k := by
    unfold yF mulv
    rw [h.own _ (by omega), if_pos rfl, hw, (satv_in (a := q k) (by omega) (by omega)).1, (satv_in (a := 1073741824) (by omega) (by omega)).1, rnd_ones, (satv_in (a := q k) (by omega) (by omega)).1]
  have hs : sumP (rowJ W k) (yF W (wei (condF f) q) k) 48 = 1073741824 * q k := by
    rw [sumQ_one (c := 24 + k) (by omega) (fun c hc hne => .inl (by unfold rowJ; rw [h.own c hc, if_neg hne])), hy]
    unfold rowJ
    rw [h.own _ (by omega), if_pos rfl, (satv_in (a := q k) (by omega) (by omega)).1, (satv_in (a := 1073741824) (by omega) (by omega)).1]
  unfold dF dotv
  rw [hs, rnd_ones, (satv_in (a := q k) (by omega) (by omega)).1]
  unfold clampv
  rw [if_neg (by omega), if_neg (by omega), if_neg (by omega)]
theorem clampv_in (v : Int) : 1 ≤ clampv v 1 72057594037927936 ∧ clampv v 1 72057594037927936 ≤ 72057594037927936 := by
  unfold clampv
  (repeat' split) <;> omega
theorem reset_apart (f : Nat → Int) {m : Int} (hm : 0 ≤ m ∧ m ≤ 23) (l : Nat → Int) {n t : Nat} (hn : m + (n : Int) ≤ 24) (ht : t < n) :
    resetF f m l n (276 + (m.toNat + t)) = clampv (l t) 1 72057594037927936 ∧ ∀ j : Nat, j < 24 → (j : Int) ≠ m + t → uF (resetF f m l n) (m + t) (j : Int) = 0 ∧ uF (resetF f m l n) (j : Int) (m + t) = 0 := by
  have e : m + (t : Int) = ((m.toNat + t : Nat) : Int) := by omega
  have hk : m.toNat + t < 24 := by omega
  have hq : tailS (rsS m l n) (m.toNat + t) = clampv (l t) 1 72057594037927936 := by
    unfold tailS
    rw [rsS_at (by omega) l (by omega), if_pos (by omega)]
    rw [show (((576 + (m.toNat + t) - 576 : Nat) : Int) - m).toNat = t by omega]
  have hg : ∀ c, c < 24 → rsS m l n (24 * (m.toNat + t) + c) = 0 := by
    intro c hc
    rw [rsS_at (by omega) l (by omega), if_neg (by omega)]
    by_cases h : c = m.toNat + t
    · rw [if_pos (by omega)]
    · rw [if_neg (by omega)]
      unfold anew0 oneG
      rw [if_pos (by omega), if_neg (by omega)]
  have := step_apart (f := f) (q := tailS (rsS m l n)) hk hg (by rw [hq]; exact clampv_in _)
  rw [hq] at this
  rw [e]
  exact ⟨this.1, fun j hj hne => this.2 j hj (by omega)⟩
end Go.Proofs.Ytadeadpcpgfkbaa
