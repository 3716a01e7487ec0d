/- Parts of a covariance begun anew: their numbers. Nothing of a program is used. -/
import Derived.Test.YtfkeljolpcbbkaaRN
namespace Go.Proofs.Ytfkeljolpcbbkaa
open Go.RowKit

def oneG : Nat → Int := fun k => if k / 24 = k % 24 then 1073741824 else 0
def oneT (t : Nat) : Nat → Int := fun k => if k / 24 = k % 24 ∧ k / 24 < t then 1073741824 else 0
theorem oneT_zero : oneT 0 = fun _ => 0 := by funext k; unfold oneT; rw [if_neg (by omega)]
theorem oneT_next {t : Nat} (ht : t < 24) : upd (oneT t) (t * 24 + t) 1073741824 = oneT (t + 1) := by
  funext k; unfold upd oneT
  by_cases h : k = t * 24 + t
  · subst h; rw [if_pos rfl, if_pos (by omega)]
  · rw [if_neg h]
    by_cases h2 : k / 24 = k % 24 ∧ k / 24 < t
    · rw [if_pos h2, if_pos (by omega)]
    · rw [if_neg h2, if_neg (by omega)]
theorem oneT_all {k : Nat} (hk : k < 576) : oneT 24 k = oneG k := by
  unfold oneT oneG
  by_cases h : k / 24 = k % 24
  · rw [if_pos h, if_pos (by omega)]
  · rw [if_neg h, if_neg (by omega)]
theorem oneG_diag {i : Nat} (hi : i < 24) : oneG (25 * i) = 1073741824 := by unfold oneG; rw [if_pos (by omega)]
def bgS (s : Nat → Int) (i v : Int) : Nat → Int := bif inN i then upd (upd s (25 * i.toNat) 0) (576 + i.toNat) (clampv v 1 72057594037927936) else s
def bgH (i v : Int) : Bool := inN i && clamph v 1 72057594037927936
def anew0 : Nat → Int := fun k => if k < 576 then oneG k else 0
def rsS (m : Int) (l : Nat → Int) : Nat → Nat → Int
  | 0 => anew0
  | k + 1 => bgS (rsS m l k) (wrap64 (m + (k : Int))) (l k)
def rsH (m : Int) (l : Nat → Int) : Nat → Bool
  | 0 => false
  | k + 1 => rsH m l k || bgH (wrap64 (m + (k : Int))) (l k)
def fgS (f l : Nat → Int) : Nat → Nat → Int
  | 0 => anew0
  | k + 1 => bgS (fgS f l k) (l k) (atV f (l k) (l k))
def fgH (f l : Nat → Int) : Nat → Bool
  | 0 => false
  | k + 1 => fgH f l k || (inN (l k) && (atH f (l k) (l k) || clamph (atV f (l k) (l k)) 1 72057594037927936))
def grQ (m : Int) (l : Nat → Int) : Nat → Nat → Int
  | 0 => fun _ => 0
  | k + 1 => bif inN (wrap64 (m + (k : Int))) then upd (grQ m l k) (wrap64 (m + (k : Int))).toNat (l k) else grQ m l k
def tailS (s : Nat → Int) : Nat → Int := fun k => s (576 + k)
def resetF (f : Nat → Int) (m : Int) (l : Nat → Int) (n : Nat) : Nat → Int := stepF f (rsS m l n) (tailS (rsS m l n))
def resetH (f : Nat → Int) (m : Int) (l : Nat → Int) (n : Nat) : Bool := rsH m l n || stepH f (rsS m l n) (tailS (rsS m l n))
def forgetF (f l : Nat → Int) (n : Nat) : Nat → Int := stepF f (fgS f l n) (tailS (fgS f l n))
def forgetH (f l : Nat → Int) (n : Nat) : Bool := fgH f l n || stepH f (fgS f l n) (tailS (fgS f l n))
def growF (f : Nat → Int) (m : Int) (l : Nat → Int) (n : Nat) : Nat → Int := stepF f oneG (grQ m l n)
def growH (f : Nat → Int) (m : Int) (l : Nat → Int) (n : Nat) : Bool := stepH f oneG (grQ m l n)
theorem wrap64_sm {x : Int} (h1 : -9223372036854775808 ≤ x) (h2 : x ≤ 9223372036854775807) : wrap64 x = x := by unfold wrap64; omega
theorem bgS_in {s : Nat → Int} {i : Nat} {v : Int} (hi : i < 24) (k : Nat) : bgS s (i : Int) v k = if k = 576 + i then clampv v 1 72057594037927936 else if k = 25 * i then 0 else s k := by
  unfold bgS
  rw [(inN_iff _).2 (by omega), cond_true, Int.toNat_natCast]
  rfl
theorem bgS_out {s : Nat → Int} {i v : Int} (hi : i < 0 ∨ 23 < i) : bgS s i v = s := by unfold bgS; rw [(inN_no _).2 hi]; rfl
theorem rsS_at {m : Int} (hm : -100000 ≤ m ∧ m ≤ 100000) (l : Nat → Int) : ∀ {n : Nat}, n ≤ 100000 → ∀ k, rsS m l n k =
    if 576 ≤ k ∧ k < 600 ∧ m ≤ ((k - 576 : Nat) : Int) ∧ ((k - 576 : Nat) : Int) < m + n then clampv (l (((k - 576 : Nat) : Int) - m).toNat) 1 72057594037927936
    else if k < 576 ∧ k / 24 = k % 24 ∧ m ≤ ((k / 24 : Nat) : Int) ∧ ((k / 24 : Nat) : Int) < m + n then 0 else anew0 k
  | 0, _, k => by rw [rsS, if_neg (by omega), if_neg (by omega)]
  | n + 1, hn, k => by
    rw [rsS, wrap64_sm (by omega) (by omega)]
    have ih := rsS_at hm l (n := n) (by omega) k
    by_cases hi : m + (n : Int) < 0 ∨ 23 < m + (n : Int)
    · rw [bgS_out hi, ih]
      by_cases h1 : 576 ≤ k ∧ k < 600 ∧ m ≤ ((k - 576 : Nat) : Int) ∧ ((k - 576 : Nat) : Int) < m + n
      · rw [if_pos h1, if_pos (by omega)]
      · rw [if_neg h1]
        by_cases h2 : k < 576 ∧ k / 24 = k % 24 ∧ m ≤ ((k / 24 : Nat) : Int) ∧ ((k / 24 : Nat) : Int) < m + n
        · rw [if_pos h2, if_neg (by omega), if_pos (by omega)]
        · rw [if_neg h2, if_neg (by omega), if_neg (by omega)]
    · obtain ⟨i, hi2⟩ : ∃ i : Nat, m + (n : Int) = (i : Int) := ⟨(m + (n : Int)).toNat, by omega⟩
      have hi24 : i < 24 := by omega
      rw [hi2, bgS_in hi24, ih]
      by_cases e1 : k = 576 + i
      · subst e1
        rw [if_pos rfl, if_pos (by omega), show (((576 + i - 576 : Nat) : Int) - m).toNat = n by omega]
      · rw [if_neg e1]
        by_cases e2 : k = 25 * i
        · subst e2
          rw [if_pos rfl, if_neg (by omega), if_pos (by omega)]
        · rw [if_neg e2]
          by_cases h1 : 576 ≤ k ∧ k < 600 ∧ m ≤ ((k - 576 : Nat) : Int) ∧ ((k - 576 : Nat) : Int) < m + n
          · rw [if_pos h1, if_pos (by omega)]
          · rw [if_neg h1]
            by_cases h2 : k < 576 ∧ k / 24 = k % 24 ∧ m ≤ ((k / 24 : Nat) : Int) ∧ ((k / 24 : Nat) : Int) < m + n
            · rw [if_pos h2, if_neg (by omega), if_pos (by omega)]
            · rw [if_neg h2, if_neg (by omega), if_neg (by omega)]
theorem rsH_no {m : Int} (hm : -100000 ≤ m ∧ m ≤ 100000) (l : Nat → Int) : ∀ {n : Nat}, n ≤ 100000 → (rsH m l n = true ↔ ∃ i : Nat, i < 24 ∧ m ≤ (i : Int) ∧ (i : Int) < m + n ∧ clamph (l ((i : Int) - m).toNat) 1 72057594037927936 = true)
  | 0, _ => by
    constructor
    · intro h; cases h
    · rintro ⟨i, _, h1, h2, _⟩; omega
  | n + 1, hn => by
    rw [rsH, Bool.or_eq_true, rsH_no hm l (by omega), wrap64_sm (by omega) (by omega)]
    unfold bgH
    rw [Bool.and_eq_true, inN_iff]
    constructor
    · rintro (⟨i, h1, h2, h3, h4⟩ | ⟨h1, h2⟩)
      · exact ⟨i, h1, h2, by omega, h4⟩
      · refine ⟨(m + (n : Int)).toNat, by omega, by omega, by omega, ?_⟩
        rw [show (((m + (n : Int)).toNat : Int) - m).toNat = n by omega]; exact h2
    · rintro ⟨i, h1, h2, h3, h4⟩
      by_cases e : (i : Int) = m + n
      · refine .inr ⟨by omega, ?_⟩
        rw [show ((i : Int) - m).toNat = n by omega] at h4; exact h4
      · exact .inl ⟨i, h1, h2, by omega, h4⟩
theorem grQ_at {m : Int} (hm : -100000 ≤ m ∧ m ≤ 100000) (l : Nat → Int) : ∀ {n : Nat}, n ≤ 100000 → ∀ k, k < 24 → grQ m l n k = if m ≤ (k : Int) ∧ (k : Int) < m + n then l ((k : Int) - m).toNat else 0
  | 0, _, k, _ => by rw [grQ, if_neg (by omega)]
  | n + 1, hn, k, hk => by
    rw [grQ, wrap64_sm (by omega) (by omega)]
    have ih := grQ_at hm l (n := n) (by omega) k hk
    cases hi : inN (m + (n : Int))
    · rw [inN_no] at hi
      rw [cond_false, ih]
      by_cases h1 : m ≤ (k : Int) ∧ (k : Int) < m + n
      · rw [if_pos h1, if_pos (by omega)]
      · rw [if_neg h1, if_neg (by omega)]
    · rw [inN_iff] at hi
      rw [cond_true]
      unfold upd
      by_cases e : k = (m + (n : Int)).toNat
      · rw [if_pos e, if_pos (by omega), show ((k : Int) - m).toNat = n by omega]
      · rw [if_neg e, ih]
        by_cases h1 : m ≤ (k : Int) ∧ (k : Int) < m + n
        · rw [if_pos h1, if_pos (by omega)]
        · rw [if_neg h1, if_neg (by omega)]
/-! ### The document's own -/
def toldB (m : Int) (n i : Nat) : Bool := decide (-1000 ≤ m) && decide (m ≤ 24) && decide (m ≤ (i : Int)) && decide ((i : Int) < m + n)
theorem toldB_iff {m : Int} {n i : Nat} : toldB m n i = true ↔ -1000 ≤ m ∧ m ≤ 24 ∧ m ≤ (i : Int) ∧ (i : Int) < m + n := by
  unfold toldB; simp only [Bool.and_eq_true, decide_eq_true_eq, and_assoc]
def rrG (m : Int) (n : Nat) : Nat → Nat → Int
  | 0 => oneG
  | t + 1 => bif toldB m n t then upd (rrG m n t) (25 * t) 0 else rrG m n t
def rrQ (m : Int) (l : Nat → Int) (n : Nat) : Nat → Nat → Int
  | 0 => fun _ => 0
  | t + 1 => bif toldB m n t then upd (rrQ m l n t) t (clampv (l ((t : Int) - m).toNat) 1 72057594037927936) else rrQ m l n t
def rrH (m : Int) (l : Nat → Int) (n : Nat) : Nat → Bool
  | 0 => false
  | t + 1 => rrH m l n t || (toldB m n t && clamph (l ((t : Int) - m).toNat) 1 72057594037927936)
def rgQ (m : Int) (l : Nat → Int) (n : Nat) : Nat → Nat → Int
  | 0 => fun _ => 0
  | t + 1 => bif toldB m n t then upd (rgQ m l n t) t (l ((t : Int) - m).toNat) else rgQ m l n t
theorem rrG_at (m : Int) (n : Nat) : ∀ {t : Nat}, t ≤ 24 → ∀ k, rrG m n t k = if k / 24 = k % 24 ∧ k / 24 < t ∧ toldB m n (k / 24) = true then 0 else oneG k
  | 0, _, k => by rw [rrG, if_neg (by omega)]
  | t + 1, ht, k => by
    rw [rrG]
    have ih := rrG_at m n (t := t) (by omega) k
    cases hc : toldB m n t
    · rw [cond_false, ih]
      by_cases h1 : k / 24 = k % 24 ∧ k / 24 < t ∧ toldB m n (k / 24) = true
      · rw [if_pos h1, if_pos ⟨h1.1, by omega, h1.2.2⟩]
      · rw [if_neg h1, if_neg ?_]
        rintro ⟨a, b, c⟩
        by_cases e : k / 24 = t
        · rw [e, hc] at c; cases c
        · exact h1 ⟨a, by omega, c⟩
    · rw [cond_true]
      unfold upd
      by_cases e : k = 25 * t
      · have e2 : k / 24 = t := by omega
        rw [if_pos e, if_pos ⟨by omega, by omega, by rw [e2]; exact hc⟩]
      · rw [if_neg e, ih]
        by_cases h1 : k / 24 = k % 24 ∧ k / 24 < t ∧ toldB m n (k / 24) = true
        · rw [if_pos h1, if_pos ⟨h1.1, by omega, h1.2.2⟩]
        · rw [if_neg h1, if_neg ?_]
          rintro ⟨a, b, c⟩
          exact h1 ⟨a, by omega, c⟩
theorem rrQ_at (m : Int) (l : Nat → Int) (n : Nat) : ∀ {t : Nat}, t ≤ 24 → ∀ k, rrQ m l n t k = if k < t ∧ toldB m n k = true then clampv (l ((k : Int) - m).toNat) 1 72057594037927936 else 0
  | 0, _, k => by rw [rrQ, if_neg (by omega)]
  | t + 1, ht, k => by
    rw [rrQ]
    have ih := rrQ_at m l n (t := t) (by omega) k
    cases hc : toldB m n t
    · rw [cond_false, ih]
      by_cases h1 : k < t ∧ toldB m n k = true
      · rw [if_pos h1, if_pos ⟨by omega, h1.2⟩]
      · rw [if_neg h1, if_neg ?_]
        rintro ⟨b, c⟩
        by_cases e : k = t
        · rw [e, hc] at c; cases c
        · exact h1 ⟨by omega, c⟩
    · rw [cond_true]
      unfold upd
      by_cases e : k = t
      · subst e
        rw [if_pos rfl, if_pos ⟨by omega, hc⟩]
      · rw [if_neg e, ih]
        by_cases h1 : k < t ∧ toldB m n k = true
        · rw [if_pos h1, if_pos ⟨by omega, h1.2⟩]
        · rw [if_neg h1, if_neg ?_]
          rintro ⟨b, c⟩
          exact h1 ⟨by omega, c⟩
theorem rgQ_at (m : Int) (l : Nat → Int) (n : Nat) : ∀ {t : Nat}, t ≤ 24 → ∀ k, rgQ m l n t k = if k < t ∧ toldB m n k = true then l ((k : Int) - m).toNat else 0
  | 0, _, k => by rw [rgQ, if_neg (by omega)]
  | t + 1, ht, k => by
    rw [rgQ]
    have ih := rgQ_at m l n (t := t) (by omega) k
    cases hc : toldB m n t
    · rw [cond_false, ih]
      by_cases h1 : k < t ∧ toldB m n k = true
      · rw [if_pos h1, if_pos ⟨by omega, h1.2⟩]
      · rw [if_neg h1, if_neg ?_]
        rintro ⟨b, c⟩
        by_cases e : k = t
        · rw [e, hc] at c; cases c
        · exact h1 ⟨by omega, c⟩
    · rw [cond_true]
      unfold upd
      by_cases e : k = t
      · subst e
        rw [if_pos rfl, if_pos ⟨by omega, hc⟩]
      · rw [if_neg e, ih]
        by_cases h1 : k < t ∧ toldB m n k = true
        · rw [if_pos h1, if_pos ⟨by omega, h1.2⟩]
        · rw [if_neg h1, if_neg ?_]
          rintro ⟨b, c⟩
          exact h1 ⟨by omega, c⟩
theorem rrH_iff (m : Int) (l : Nat → Int) (n : Nat) : ∀ {t : Nat}, rrH m l n t = true ↔ ∃ i, i < t ∧ toldB m n i = true ∧ clamph (l ((i : Int) - m).toNat) 1 72057594037927936 = true
  | 0 => by
    constructor
    · intro h; cases h
    · rintro ⟨i, h, _⟩; omega
  | t + 1 => by
    rw [rrH, Bool.or_eq_true, rrH_iff m l n, Bool.and_eq_true]
    constructor
    · rintro (⟨i, h1, h2⟩ | h)
      · exact ⟨i, by omega, h2⟩
      · exact ⟨t, by omega, h⟩
    · rintro ⟨i, h1, h2⟩
      by_cases e : i = t
      · subst e; exact .inr h2
      · exact .inl ⟨i, by omega, h2⟩
theorem rr_same {m : Int} (hm : -900 ≤ m ∧ m ≤ 900) (l : Nat → Int) {n : Nat} (hn : n ≤ 900) : (∀ k, k < 576 → rrG m n 24 k = rsS m l n k) ∧ (∀ k, k < 24 → rrQ m l n 24 k = tailS (rsS m l n) k) ∧ rrH m l n 24 = rsH m l n := by
  refine ⟨fun k hk => ?_, fun k hk => ?_, ?_⟩
  · rw [rrG_at m n (Nat.le_refl _), rsS_at (by omega) l (by omega), if_neg (show ¬ (576 ≤ k ∧ k < 600 ∧ m ≤ ((k - 576 : Nat) : Int) ∧ ((k - 576 : Nat) : Int) < m + n) by omega)]
    simp only [toldB_iff]
    have e : anew0 k = oneG k := by unfold anew0; rw [if_pos hk]
    rw [e]
    by_cases h : k / 24 = k % 24 ∧ k / 24 < 24 ∧ -1000 ≤ m ∧ m ≤ 24 ∧ m ≤ ((k / 24 : Nat) : Int) ∧ ((k / 24 : Nat) : Int) < m + n
    · rw [if_pos h, if_pos (by omega)]
    · rw [if_neg h, if_neg (by omega)]
  · unfold tailS
    rw [rrQ_at m l n (Nat.le_refl _), rsS_at (by omega) l (by omega)]
    simp only [toldB_iff]
    have e : anew0 (576 + k) = 0 := by unfold anew0; rw [if_neg (by omega)]
    rw [e, show 576 + k - 576 = k by omega]
    by_cases h : k < 24 ∧ -1000 ≤ m ∧ m ≤ 24 ∧ m ≤ (k : Int) ∧ (k : Int) < m + n
    · rw [if_pos h, if_pos (by omega)]
    · rw [if_neg h, if_neg (by omega), if_neg (by omega)]
  · have h : rrH m l n 24 = true ↔ rsH m l n = true := by
      rw [rrH_iff, rsH_no (by omega) l (by omega)]
      constructor
      · rintro ⟨i, h1, h2, h3⟩
        rw [toldB_iff] at h2
        exact ⟨i, h1, h2.2.2.1, h2.2.2.2, h3⟩
      · rintro ⟨i, h1, h2, h3, h4⟩
        exact ⟨i, h1, toldB_iff.2 (by omega), h4⟩
    cases h1 : rrH m l n 24 <;> cases h2 : rsH m l n <;> simp_all
theorem rg_same {m : Int} (hm : -900 ≤ m ∧ m ≤ 900) (l : Nat → Int) {n : Nat} (hn : n ≤ 900) : ∀ k, k < 24 → rgQ m l n 24 k = grQ m l n k := fun k hk => by
  rw [rgQ_at m l n (Nat.le_refl _), grQ_at (by omega) l (by omega) k hk]
  simp only [toldB_iff]
  by_cases h : k < 24 ∧ -1000 ≤ m ∧ m ≤ 24 ∧ m ≤ (k : Int) ∧ (k : Int) < m + n
  · rw [if_pos h, if_pos (by omega)]
  · rw [if_neg h, if_neg (by omega)]
def rfS (f l : Nat → Int) : Nat → Nat → Int
  | 0 => anew0
  | k + 1 => bif inN (l k) && !decide (rfS f l k (25 * (l k).toNat) = 0) then bgS (rfS f l k) (l k) (atV f (l k) (l k)) else rfS f l k
def rfH (f l : Nat → Int) : Nat → Bool
  | 0 => false
  | k + 1 => bif inN (l k) && !decide (rfS f l k (25 * (l k).toNat) = 0) then rfH f l k || (atH f (l k) (l k) || clamph (atV f (l k) (l k)) 1 72057594037927936) else rfH f l k
theorem rf_same (f l : Nat → Int) : ∀ n, rfS f l n = fgS f l n ∧ rfH f l n = fgH f l n ∧ ∀ i : Nat, i < 24 → fgS f l n (25 * i) = 0 → fgS f l n (576 + i) = clampv (atV f i i) 1 72057594037927936 ∧ ((atH f i i || clamph (atV f i i) 1 72057594037927936) = true → fgH f l n = true)
  | 0 => by
    refine ⟨rfl, rfl, fun i hi h => ?_⟩
    have : anew0 (25 * i) = 0 := h
    unfold anew0 at this
    rw [if_pos (by omega), oneG_diag hi] at this
    omega
  | n + 1 => by
    obtain ⟨h1, h2, h3⟩ := rf_same f l n
    rw [rfS, rfH, fgS, fgH, h1, h2]
    cases hi : inN (l n)
    · rw [Bool.false_and, Bool.false_and, cond_false, cond_false, Bool.or_false, bgS_out (by rw [← inN_no]; exact hi)]
      exact ⟨rfl, rfl, h3⟩
    · rw [inN_iff] at hi
      obtain ⟨i, hi2⟩ : ∃ i : Nat, l n = (i : Int) := ⟨(l n).toNat, by omega⟩
      have hi24 : i < 24 := by omega
      rw [hi2, Int.toNat_natCast, Bool.true_and, Bool.true_and]
      have h3i := h3 i hi24
      have hnew : ∀ j : Nat, j < 24 → bgS (fgS f l n) (i : Int) (atV f i i) (25 * j) = 0 → bgS (fgS f l n) (i : Int) (atV f i i) (576 + j) = clampv (atV f j j) 1 72057594037927936 ∧ ((atH f j j || clamph (atV f j j) 1 72057594037927936) = true → (fgH f l n || (atH f i i || clamph (atV f i i) 1 72057594037927936)) = true) := by
        intro j hj hz
        rw [bgS_in hi24] at hz ⊢
        by_cases e : j = i
        · subst e
          rw [if_pos rfl]
          exact ⟨rfl, fun h => by rw [h, Bool.or_true]⟩
        · rw [if_neg (by omega), if_neg (by omega)] at hz
          rw [if_neg (by omega), if_neg (by omega)]
          obtain ⟨k1, k2⟩ := h3 j hj hz
          exact ⟨k1, fun h => by rw [k2 h]; rfl⟩
      by_cases hz : fgS f l n (25 * i) = 0
      · rw [decide_eq_true hz, Bool.not_true, cond_false, cond_false]
        obtain ⟨k1, k2⟩ := h3i hz
        have e1 : bgS (fgS f l n) (i : Int) (atV f i i) = fgS f l n := by
          funext k
          rw [bgS_in hi24]
          by_cases a : k = 576 + i
          · rw [if_pos a, a, k1]
          · rw [if_neg a]
            by_cases b : k = 25 * i
            · rw [if_pos b, b, hz]
            · rw [if_neg b]
        have e2 : (fgH f l n || (atH f i i || clamph (atV f i i) 1 72057594037927936)) = fgH f l n := by
          cases hc : (atH f i i || clamph (atV f i i) 1 72057594037927936)
          · rw [Bool.or_false]
          · rw [k2 hc]; rfl
        refine ⟨e1.symm, e2.symm, ?_⟩
        rw [e1]
        intro j hj hz2
        have := h3 j hj hz2
        rw [e2]
        exact this
      · rw [decide_eq_false hz, Bool.not_false, cond_true, cond_true]
        exact ⟨rfl, rfl, hnew⟩
end Go.Proofs.Ytfkeljolpcbbkaa
