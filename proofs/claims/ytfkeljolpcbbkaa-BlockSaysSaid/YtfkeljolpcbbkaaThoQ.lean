/- The document's own step of a covariance, as far as it has been laid: numbers. Nothing of a program is used. -/
import Derived.Test.YtfkeljolpcbbkaaRN
namespace Go.Proofs.Ytfkeljolpcbbkaa
open Go.RowKit

def noiP (q : Nat → Int) (t : Nat) : Nat → Int := fun k => if k < t then clampv (q k) 0 72057594037927936 else q k
theorem noiP_zero (q : Nat → Int) : noiP q 0 = q := by funext k; unfold noiP; rw [if_neg (by omega)]
theorem noiP_self (q : Nat → Int) (t : Nat) : noiP q t t = q t := by unfold noiP; rw [if_neg (by omega)]
theorem noiP_next (q : Nat → Int) (t : Nat) : upd (noiP q t) t (clampv (q t) 0 72057594037927936) = noiP q (t + 1) := by
  funext k; unfold upd noiP
  by_cases h : k = t
  · subst h; rw [if_pos rfl, if_pos (by omega)]
  · rw [if_neg h]
    by_cases h2 : k < t
    · rw [if_pos h2, if_pos (by omega)]
    · rw [if_neg h2, if_neg (by omega)]
def colP (p : Nat → Int) (k i : Nat) : Nat → Int := fun m => if m % 24 ≤ m / 24 ∧ (m / 24 < k ∨ (m / 24 = k ∧ m % 24 < i)) then uF p ((m % 24 : Nat) : Int) ((m / 24 : Nat) : Int) else 0
def colW (p : Nat → Int) : Nat → Int := fun m => uF p ((m % 24 : Nat) : Int) ((m / 24 : Nat) : Int)
theorem colP_zero (p : Nat → Int) : colP p 0 0 = fun _ => 0 := by funext m; unfold colP; rw [if_neg (by omega)]
theorem colP_next (p : Nat → Int) {k i : Nat} (hi : i ≤ k) (hk : k < 24) : upd (colP p k i) (k * 24 + i) (uF p (i : Int) (k : Int)) = colP p k (i + 1) := by
  funext m; unfold upd colP
  by_cases h : m = k * 24 + i
  · subst h
    rw [if_pos rfl, show (k * 24 + i) % 24 = i by omega, show (k * 24 + i) / 24 = k by omega, if_pos (by omega)]
  · rw [if_neg h]
    by_cases h2 : m % 24 ≤ m / 24 ∧ (m / 24 < k ∨ (m / 24 = k ∧ m % 24 < i))
    · rw [if_pos h2, if_pos (show m % 24 ≤ m / 24 ∧ (m / 24 < k ∨ (m / 24 = k ∧ m % 24 < i + 1)) by omega)]
    · rw [if_neg h2, if_neg (show ¬ (m % 24 ≤ m / 24 ∧ (m / 24 < k ∨ (m / 24 = k ∧ m % 24 < i + 1))) by omega)]
theorem colP_col (p : Nat → Int) (k : Nat) : colP p k (k + 1) = colP p (k + 1) 0 := by
  funext m; unfold colP
  by_cases h2 : m % 24 ≤ m / 24 ∧ (m / 24 < k ∨ (m / 24 = k ∧ m % 24 < k + 1))
  · rw [if_pos h2, if_pos (show m % 24 ≤ m / 24 ∧ (m / 24 < k + 1 ∨ (m / 24 = k + 1 ∧ m % 24 < 0)) by omega)]
  · rw [if_neg h2, if_neg (show ¬ (m % 24 ≤ m / 24 ∧ (m / 24 < k + 1 ∨ (m / 24 = k + 1 ∧ m % 24 < 0))) by omega)]
theorem uF_low {p : Nat → Int} {i j : Nat} (h : j < i) : uF p (i : Int) (j : Int) = 0 := by
  unfold uF
  rw [(aboveB_no (i : Int) (j : Int)).2 (by omega), decide_eq_false (by omega)]; rfl
theorem colP_all (p : Nat → Int) {m : Nat} (hm : m < 576) : colP p 24 0 m = colW p m := by
  unfold colP colW
  by_cases h : m % 24 ≤ m / 24
  · rw [if_pos (by omega)]
  · rw [if_neg (by omega), uF_low (by omega)]
def rowQ (p g : Nat → Int) (n : Nat → Nat) (i k : Nat) : Nat → Int := fun q =>
  if q % 48 < 24 ∧ (q / 48 < i ∨ (q / 48 = i ∧ q % 48 < k)) then dotv (fun t => g (24 * (q / 48) + t)) (fun t => uF p (t : Int) ((q % 48 : Nat) : Int)) (n (q % 48)) else if q % 48 = 24 + q / 48 ∧ q / 48 < i then 1073741824 else 0
theorem rowQ_zero (p g : Nat → Int) (n : Nat → Nat) : rowQ p g n 0 0 = fun _ => 0 := by funext q; unfold rowQ; rw [if_neg (by omega), if_neg (by omega)]
theorem rowQ_next (p g : Nat → Int) (n : Nat → Nat) {i k : Nat} (hk : k < 24) : upd (rowQ p g n i k) (i * 48 + k) (dotv (fun t => g (24 * i + t)) (fun t => uF p (t : Int) (k : Int)) (n k)) = rowQ p g n i (k + 1) := by
  funext q; unfold upd rowQ
  by_cases h : q = i * 48 + k
  · subst h
    rw [if_pos rfl, show (i * 48 + k) % 48 = k by omega, show (i * 48 + k) / 48 = i by omega, if_pos (by omega)]
  · rw [if_neg h]
    by_cases h2 : q % 48 < 24 ∧ (q / 48 < i ∨ (q / 48 = i ∧ q % 48 < k))
    · rw [if_pos h2, if_pos (show q % 48 < 24 ∧ (q / 48 < i ∨ (q / 48 = i ∧ q % 48 < k + 1)) by omega)]
    · rw [if_neg h2, if_neg (show ¬ (q % 48 < 24 ∧ (q / 48 < i ∨ (q / 48 = i ∧ q % 48 < k + 1))) by omega)]
theorem rowQ_row (p g : Nat → Int) (n : Nat → Nat) {i : Nat} (hi : i < 24) : upd (rowQ p g n i 24) (i * 48 + (24 + i)) 1073741824 = rowQ p g n (i + 1) 0 := by
  funext q; unfold upd rowQ
  by_cases h : q = i * 48 + (24 + i)
  · subst h
    rw [if_pos rfl, if_neg (by omega), if_pos (by omega)]
  · rw [if_neg h]
    by_cases h2 : q % 48 < 24 ∧ (q / 48 < i ∨ (q / 48 = i ∧ q % 48 < 24))
    · rw [if_pos h2, if_pos (show q % 48 < 24 ∧ (q / 48 < i + 1 ∨ (q / 48 = i + 1 ∧ q % 48 < 0)) by omega)]
    · rw [if_neg h2, if_neg (show ¬ (q % 48 < 24 ∧ (q / 48 < i + 1 ∨ (q / 48 = i + 1 ∧ q % 48 < 0))) by omega)]
      by_cases h3 : q % 48 = 24 + q / 48 ∧ q / 48 < i
      · rw [if_pos h3, if_pos (show q % 48 = 24 + q / 48 ∧ q / 48 < i + 1 by omega)]
      · rw [if_neg h3, if_neg (show ¬ (q % 48 = 24 + q / 48 ∧ q / 48 < i + 1) by omega)]
theorem rowQ_all (p g : Nat → Int) (n : Nat → Nat) {q : Nat} (hq : q < 1152) : rowQ p g n 24 0 q = rowW p g n q := by
  unfold rowQ rowW
  by_cases h : q % 48 < 24
  · rw [if_pos h, if_pos (by omega)]
  · rw [if_neg h, if_neg (show ¬ (q % 48 < 24 ∧ (q / 48 < 24 ∨ (q / 48 = 24 ∧ q % 48 < 0))) by omega)]
    by_cases h3 : q % 48 = 24 + q / 48
    · rw [if_pos h3, if_pos (show q % 48 = 24 + q / 48 ∧ q / 48 < 24 by omega)]
    · rw [if_neg h3, if_neg (show ¬ (q % 48 = 24 + q / 48 ∧ q / 48 < 24) by omega)]
def weiQ (p q : Nat → Int) (i : Nat) : Nat → Int := fun k => if k < 24 then (if k < i then p (276 + k) else 0) else if k < 24 + i then q (k - 24) else 0
theorem weiQ_zero (p q : Nat → Int) : weiQ p q 0 = fun _ => 0 := by
  funext k; unfold weiQ
  by_cases h : k < 24
  · rw [if_pos h, if_neg (by omega)]
  · rw [if_neg h, if_neg (by omega)]
theorem weiQ_next (p q : Nat → Int) {i : Nat} (hi : i < 24) : upd (upd (weiQ p q i) i (p (276 + i))) (24 + i) (q i) = weiQ p q (i + 1) := by
  funext k; unfold upd weiQ
  by_cases h : k = 24 + i
  · subst h
    rw [if_pos rfl, if_neg (by omega), if_pos (by omega), show 24 + i - 24 = i by omega]
  · rw [if_neg h]
    by_cases h1 : k = i
    · subst h1
      rw [if_pos rfl, if_pos hi, if_pos (by omega)]
    · rw [if_neg h1]
      by_cases h2 : k < 24
      · rw [if_pos h2, if_pos h2]
        by_cases h3 : k < i
        · rw [if_pos h3, if_pos (by omega)]
        · rw [if_neg h3, if_neg (by omega)]
      · rw [if_neg h2, if_neg h2]
        by_cases h3 : k < 24 + i
        · rw [if_pos h3, if_pos (by omega)]
        · rw [if_neg h3, if_neg (by omega)]
theorem weiQ_all (p q : Nat → Int) {k : Nat} (hk : k < 48) : weiQ p (noiP q 24) 24 k = wei p q k := by
  unfold weiQ wei noiP
  by_cases h : k < 24
  · rw [if_pos h, if_pos h, if_pos h]
  · rw [if_neg h, if_neg h, if_pos (by omega), if_pos (by omega)]
theorem dot_tail {xs ys : Nat → Int} {n : Nat} : ∀ {m : Nat}, (∀ t, n ≤ t → t < n + m → ys t = 0) → sumP xs ys (n + m) = sumP xs ys n
  | 0, _ => rfl
  | m + 1, h => by
    rw [show n + (m + 1) = n + m + 1 by omega, sumP, dot_tail (fun t h1 h2 => h t h1 (by omega)), h (n + m) (by omega) (by omega), satv_zero, Int.mul_zero, Int.add_zero]
theorem anyP_none {xs ys : Nat → Int} {n : Nat} (h1 : ∀ t, t < n → sath (xs t) = false) (h2 : ∀ t, t < n → sath (ys t) = false) : anyP xs ys n = false := by
  rw [← Bool.not_eq_true, anyP_iff]
  rintro ⟨k, hk, h⟩
  rw [h1 k hk, h2 k hk] at h; cases h
theorem sat_sat (a : Int) : sath (satv a) = false := (satv_in (satv_lo a) (satv_hi a)).2
theorem sath_u {f : Nat → Int} (i j : Int) : sath (uF (condF f) i j) = false := by
  unfold uF
  cases hc : aboveB i j
  · cases decide (i = j) && inN i <;> rfl
  · obtain ⟨h0, h1, h2⟩ := (aboveB_iff i j).1 hc
    have := plc_bd h0 h1 h2
    rw [cond_true]
    unfold condF
    rw [if_pos (by omega)]
    exact sat_sat _
theorem dotv_24 (f g : Nat → Int) (i : Nat) {k : Nat} (hk : k < 24) : dotv (fun t => sat576 g (24 * i + t)) (fun t => uF (condF f) (t : Int) (k : Int)) 24 = dotv (fun t => sat576 g (24 * i + t)) (fun t => uF (condF f) (t : Int) (k : Int)) (k + 1) ∧
    doth (fun t => sat576 g (24 * i + t)) (fun t => uF (condF f) (t : Int) (k : Int)) 24 = doth (fun t => sat576 g (24 * i + t)) (fun t => uF (condF f) (t : Int) (k : Int)) (k + 1) := by
  have e := dot_tail (xs := fun t => sat576 g (24 * i + t)) (ys := fun t => uF (condF f) (t : Int) (k : Int)) (n := k + 1) (m := 23 - k) (fun t h1 _ => uF_low (by omega))
  rw [show k + 1 + (23 - k) = 24 by omega] at e
  have a : ∀ n, anyP (fun t => sat576 g (24 * i + t)) (fun t => uF (condF f) (t : Int) (k : Int)) n = false := fun n => anyP_none (fun t _ => sat_sat (g (24 * i + t))) (fun t _ => sath_u _ _)
  unfold dotv doth
  rw [e, a, a]
  exact ⟨rfl, rfl⟩
theorem rowW_24 (f g : Nat → Int) : rowW (condF f) (sat576 g) (fun _ => 24) = rowW (condF f) (sat576 g) fun k => k + 1 := by
  funext q; unfold rowW
  by_cases h : q % 48 < 24
  · rw [if_pos h, if_pos h]
    exact (dotv_24 f g (q / 48) h).1
  · rw [if_neg h, if_neg h]
def rowsHQ (f g : Nat → Int) (i : Nat) : Bool := anyN (fun t => sath (g (24 * i + t))) 24 || anyN (fun k => doth (fun t => sat576 g (24 * i + t)) (fun t => uF (condF f) (t : Int) (k : Int)) 24) 24
theorem rowsHQ_eq (f g : Nat → Int) (c d e : Bool) : (c || d || anyN (rowsHQ f g) 24 || e) = (c || anyN (fun k => sath (g k)) 576 || anyN (fun k => anyN (fun i => rowsH (condF f) (sat576 g) (fun k => k + 1) (48 * i + k)) 24) 24 || d || e) := by
  have key : anyN (rowsHQ f g) 24 = (anyN (fun k => sath (g k)) 576 || anyN (fun k => anyN (fun i => rowsH (condF f) (sat576 g) (fun k => k + 1) (48 * i + k)) 24) 24) := by
    have row : ∀ i k, k < 24 → rowsH (condF f) (sat576 g) (fun k => k + 1) (48 * i + k) = doth (fun t => sat576 g (24 * i + t)) (fun t => uF (condF f) (t : Int) (k : Int)) 24 := fun i k hk => by
      rw [(dotv_24 f g i hk).2]
      unfold rowsH
      rw [show (48 * i + k) % 48 = k by omega, show (48 * i + k) / 48 = i by omega]
    rw [Bool.eq_iff_iff, Bool.or_eq_true, anyN_iff, anyN_iff, anyN_iff]
    constructor
    · rintro ⟨i, hi, h⟩
      unfold rowsHQ at h
      rw [Bool.or_eq_true, anyN_iff, anyN_iff] at h
      rcases h with ⟨t, ht, h⟩ | ⟨k, hk, h⟩
      · exact .inl ⟨24 * i + t, by omega, h⟩
      · exact .inr ⟨k, hk, anyN_iff.2 ⟨i, hi, by rw [row i k hk]; exact h⟩⟩
    · rintro (⟨m, hm, h⟩ | ⟨k, hk, h⟩)
      · refine ⟨m / 24, by omega, ?_⟩
        unfold rowsHQ
        rw [Bool.or_eq_true, anyN_iff]
        exact .inl ⟨m % 24, by omega, by rw [show 24 * (m / 24) + m % 24 = m by omega]; exact h⟩
      · obtain ⟨i, hi, h⟩ := anyN_iff.1 h
        refine ⟨i, hi, ?_⟩
        unfold rowsHQ
        rw [Bool.or_eq_true, anyN_iff, anyN_iff]
        exact .inr ⟨k, hk, by rw [← row i k hk]; exact h⟩
  rw [key]
  generalize anyN (fun k => sath (g k)) 576 = a
  generalize anyN (fun k => anyN (fun i => rowsH (condF f) (sat576 g) (fun k => k + 1) (48 * i + k)) 24) 24 = b
  cases a <;> cases b <;> cases c <;> cases d <;> cases e <;> rfl
end Go.Proofs.Ytfkeljolpcbbkaa
