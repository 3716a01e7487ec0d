/- Covariances as factors: their numbers. Nothing of a program is used. -/
import Derived.Test.YtaehmhdcniegkaaRowA
namespace Go.Proofs.Ytaehmhdcniegkaa
open Go.RowKit

def mulv (a b : Int) : Int := satv (rnd (satv a * satv b) 30)
def mulh (a b : Int) : Bool := sath a || sath b || sath (rnd (satv a * satv b) 30)
/-- Where the number of the row i and the column j stands. -/
def plc (i j : Int) : Int := j * (j - 1) / 2 + i
def inN (i : Int) : Bool := decide (0 ≤ i) && decide (i < 24)
def aboveB (i j : Int) : Bool := inN i && inN j && decide (i < j)
/-- A number of U. -/
def uF (f : Nat → Int) (i j : Int) : Int := bif aboveB i j then f (plc i j).toNat else bif decide (i = j) && inN i then 1073741824 else 0
theorem inN_iff (i : Int) : inN i = true ↔ 0 ≤ i ∧ i < 24 := by simp [inN]
theorem inN_no (i : Int) : inN i = false ↔ i < 0 ∨ 23 < i := by
  rw [← Bool.not_eq_true, inN_iff]; omega
theorem aboveB_iff (i j : Int) : aboveB i j = true ↔ 0 ≤ i ∧ i < j ∧ j < 24 := by
  simp only [aboveB, Bool.and_eq_true, inN_iff, decide_eq_true_eq]; omega
theorem aboveB_no (i j : Int) : aboveB i j = false ↔ i < 0 ∨ j ≤ i ∨ 23 < j := by
  rw [← Bool.not_eq_true, aboveB_iff]; omega
theorem plc_bd {i j : Int} (h0 : 0 ≤ i) (h1 : i < j) (h2 : j < 24) : 0 ≤ j * (j - 1) ∧ j * (j - 1) ≤ 506 ∧ 0 ≤ plc i j ∧ plc i j < 276 := by
  unfold plc
  have hj : j = 1 ∨ j = 2 ∨ j = 3 ∨ j = 4 ∨ j = 5 ∨ j = 6 ∨ j = 7 ∨ j = 8 ∨ j = 9 ∨ j = 10 ∨ j = 11 ∨ j = 12 ∨ j = 13 ∨ j = 14 ∨ j = 15 ∨ j = 16 ∨ j = 17 ∨ j = 18 ∨ j = 19 ∨ j = 20 ∨ j = 21 ∨ j = 22 ∨ j = 23 := by omega
  rcases hj with rfl | rfl | rfl | rfl | rfl | rfl | rfl | rfl | rfl | rfl | rfl | rfl | rfl | rfl | rfl | rfl | rfl | rfl | rfl | rfl | rfl | rfl | rfl <;> omega
theorem half_of {b : Int} (h0 : 0 ≤ b) (h1 : b < 24) : 2 * (b * (b - 1) / 2) = b * (b - 1) := by
  have hj : b = 0 ∨ b = 1 ∨ b = 2 ∨ b = 3 ∨ b = 4 ∨ b = 5 ∨ b = 6 ∨ b = 7 ∨ b = 8 ∨ b = 9 ∨ b = 10 ∨ b = 11 ∨ b = 12 ∨ b = 13 ∨ b = 14 ∨ b = 15 ∨ b = 16 ∨ b = 17 ∨ b = 18 ∨ b = 19 ∨ b = 20 ∨ b = 21 ∨ b = 22 ∨ b = 23 := by omega
  rcases hj with rfl | rfl | rfl | rfl | rfl | rfl | rfl | rfl | rfl | rfl | rfl | rfl | rfl | rfl | rfl | rfl | rfl | rfl | rfl | rfl | rfl | rfl | rfl | rfl <;> decide
theorem plc_inj {i j x y : Int} (h0 : 0 ≤ i) (h1 : i < j) (h2 : j < 24) (k0 : 0 ≤ x) (k1 : x < y) (k2 : y < 24) (h : plc i j = plc x y) : i = x ∧ j = y := by
  have hs : ∀ {a b c d : Int}, 0 ≤ a → a < b → b < 24 → 0 ≤ c → c < d → d < 24 → b < d → plc a b < plc c d := by
    intro a b c d a0 a1 a2 c0 c1 c2 hbd
    have e1 := half_of (show 0 ≤ b by omega) (show b < 24 by omega)
    have e2 := half_of (show 0 ≤ d by omega) (show d < 24 by omega)
    have e3 : (b + 1) * b ≤ d * (d - 1) := Int.mul_le_mul (by omega) (by omega) (by omega) (by omega)
    have e4 : (b + 1) * b = b * (b - 1) + 2 * b := by grind
    unfold plc
    omega
  rcases Int.lt_trichotomy j y with hjy | hjy | hjy
  · have := hs h0 h1 h2 k0 k1 k2 hjy; omega
  · subst hjy
    unfold plc at h
    omega
  · have := hs k0 k1 k2 h0 h1 h2 hjy; omega
/-- A number of the covariance: what is multiplied. -/
def atX (f : Nat → Int) (i : Int) (m : Nat) : Nat → Int := fun t => uF f i ((m + t : Nat) : Int)
def atY (f : Nat → Int) (j : Int) (m : Nat) : Nat → Int := fun t => mulv (uF f j ((m + t : Nat) : Int)) (f (276 + (m + t)))
def anyY (f : Nat → Int) (j : Int) (m : Nat) : Nat → Bool
  | 0 => false
  | k + 1 => anyY f j m k || mulh (uF f j ((m + k : Nat) : Int)) (f (276 + (m + k)))
def atS (f : Nat → Int) (i j : Int) : Int := sumP (atX f i (max i j).toNat) (atY f j (max i j).toNat) (24 - (max i j).toNat)
def atV (f : Nat → Int) (i j : Int) : Int := bif inN i && inN j then satv (rnd (atS f i j) 30) else 0
def atH (f : Nat → Int) (i j : Int) : Bool := inN i && inN j && (anyY f j (max i j).toNat (24 - (max i j).toNat) || anyP (atX f i (max i j).toNat) (atY f j (max i j).toNat) (24 - (max i j).toNat) || sath (rnd (atS f i j) 30))
theorem uF_bd {f : Nat → Int} (h : ∀ k, -9223372036854775808 ≤ f k ∧ f k ≤ 9223372036854775807) (i j : Int) : -9223372036854775808 ≤ uF f i j ∧ uF f i j ≤ 9223372036854775807 := by
  unfold uF
  cases aboveB i j
  · cases decide (i = j) && inN i
    · rw [cond_false, cond_false]; omega
    · rw [cond_false, cond_true]; omega
  · exact h _
/-- What is kept within its bounds. -/
def condF (f : Nat → Int) : Nat → Int := fun k => if k < 276 then satv (f k) else clampv (f k) 1 72057594037927936
def hitD (f : Nat → Int) : Nat → Bool
  | 0 => false
  | k + 1 => hitD f k || clamph (f (276 + k)) 1 72057594037927936
def hitU (f : Nat → Int) : Nat → Bool
  | 0 => false
  | k + 1 => hitU f k || sath (f k)
def condH (f : Nat → Int) : Bool := hitD f 24 || hitU f 276
/-- The first t numbers of D kept; then all of D and the first t of U. -/
def partD (f : Nat → Int) (t : Nat) : Nat → Int := fun k => if 276 ≤ k ∧ k < 276 + t then clampv (f k) 1 72057594037927936 else f k
def partU (f : Nat → Int) (t : Nat) : Nat → Int := fun k => if 276 ≤ k then clampv (f k) 1 72057594037927936 else if k < t then satv (f k) else f k
theorem partD_zero (f : Nat → Int) : partD f 0 = f := by
  funext k; unfold partD; rw [if_neg (by omega)]
theorem partD_next (f : Nat → Int) (t : Nat) : upd (partD f t) (276 + t) (clampv (f (276 + t)) 1 72057594037927936) = partD f (t + 1) := by
  funext k; unfold upd partD
  by_cases h : k = 276 + t
  · subst h; rw [if_pos rfl, if_pos (by omega)]
  · rw [if_neg h]
    by_cases h2 : 276 ≤ k ∧ k < 276 + t
    · rw [if_pos h2, if_pos (by omega)]
    · rw [if_neg h2, if_neg (by omega)]
theorem partD_self (f : Nat → Int) (t : Nat) : partD f t (276 + t) = f (276 + t) := by unfold partD; rw [if_neg (by omega)]
theorem partU_zero {f : Nat → Int} {k : Nat} (hk : k < 300) : partD f 24 k = partU f 0 k := by
  unfold partD partU
  by_cases h : 276 ≤ k
  · rw [if_pos (by omega), if_pos h]
  · rw [if_neg (by omega), if_neg h, if_neg (by omega)]
theorem partU_next (f : Nat → Int) {t : Nat} (ht : t < 276) : upd (partU f t) t (satv (f t)) = partU f (t + 1) := by
  funext k; unfold upd partU
  by_cases h : k = t
  · subst h; rw [if_pos rfl, if_neg (by omega), if_pos (by omega)]
  · rw [if_neg h]
    by_cases h2 : 276 ≤ k
    · rw [if_pos h2, if_pos h2]
    · rw [if_neg h2, if_neg h2]
      by_cases h3 : k < t
      · rw [if_pos h3, if_pos (by omega)]
      · rw [if_neg h3, if_neg (by omega)]
theorem partU_self (f : Nat → Int) {t : Nat} (ht : t < 276) : partU f t t = f t := by unfold partU; rw [if_neg (by omega), if_neg (by omega)]
theorem partU_low (f : Nat → Int) {t : Nat} (ht : t < 276) : partD f 24 t = f t := by unfold partD; rw [if_neg (by omega)]
theorem partU_all {f : Nat → Int} (k : Nat) : partU f 276 k = condF f k := by
  unfold partU condF
  by_cases h : 276 ≤ k
  · rw [if_pos h, if_neg (by omega)]
  · rw [if_neg h, if_pos (by omega), if_pos (by omega)]
/-- What is made of variances: the first n of l, at most 24. -/
def newF (l : Nat → Int) (n : Nat) : Nat → Int := fun k => if k < 276 then 0 else if k - 276 < n then clampv (l (k - 276)) 1 72057594037927936 else 1
def newH (l : Nat → Int) (n : Nat) : Nat → Bool
  | 0 => false
  | k + 1 => newH l n k || (decide (k < n) && clamph (l k) 1 72057594037927936)
/-- The greatest D. -/
def mostF (f : Nat → Int) : Nat → Int
  | 0 => f 276
  | k + 1 => max (mostF f k) (f (276 + (k + 1)))
def goodB (f : Nat → Int) : Bool := !condH f
/-- The variances. -/
def diagF (f : Nat → Int) (t : Nat) : Nat → Int := fun k => if k < t then atV f k k else 0
def diagH (f : Nat → Int) : Nat → Bool
  | 0 => false
  | k + 1 => diagH f k || atH f k k
theorem diagF_zero (f : Nat → Int) : diagF f 0 = fun _ => 0 := by funext k; unfold diagF; rw [if_neg (by omega)]
theorem diagF_next (f : Nat → Int) (t : Nat) : upd (diagF f t) t (atV f t t) = diagF f (t + 1) := by
  funext k; unfold upd diagF
  by_cases h : k = t
  · subst h; rw [if_pos rfl, if_pos (by omega)]
  · rw [if_neg h]
    by_cases h2 : k < t
    · rw [if_pos h2, if_pos (by omega)]
    · rw [if_neg h2, if_neg (by omega)]
theorem atV_bd (f : Nat → Int) (i j : Int) : -1152921504606846976 ≤ atV f i j ∧ atV f i j ≤ 1152921504606846976 := by
  unfold atV
  cases inN i && inN j
  · rw [cond_false]; omega
  · rw [cond_true]; exact ⟨satv_lo _, satv_hi _⟩
end Go.Proofs.Ytaehmhdcniegkaa
