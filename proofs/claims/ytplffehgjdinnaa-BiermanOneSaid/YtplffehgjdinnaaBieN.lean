/- A covariance learns a number (Bierman): its numbers. Nothing of a program is used. -/
import Derived.Test.YtplffehgjdinnaaRN
namespace Go.Proofs.Ytplffehgjdinnaa
open Go.RowKit

def addv (a b : Int) : Int := satv (satv a + satv b)
def addh (a b : Int) : Bool := sath a || sath b || sath (satv a + satv b)
/-- A product, of 44 bits less; a quotient, of 44 bits more; a product divided. -/
def mul4v (a b : Int) : Int := satv (rnd (satv a * satv b) 44)
def mul4h (a b : Int) : Bool := sath a || sath b || sath (rnd (satv a * satv b) 44)
def quo4v (a b : Int) : Int := divv (satv a * 2 ^ 44) (satv b)
def quo4h (a b : Int) : Bool := sath a || sath b || divh (satv a * 2 ^ 44) (satv b)
def mdv (a b d : Int) : Int := divv (satv a * satv b) (satv d)
def mdh (a b d : Int) : Bool := sath a || sath b || sath d || divh (satv a * satv b) (satv d)
/-- What a row h sees of a column (p, h within their bounds): of the column itself, times its variance; the variance of what is measured. -/
def colU (p : Nat → Int) (j : Nat) : Nat → Int := fun t => uF p (t : Int) (j : Int)
def bF (p h : Nat → Int) (j : Nat) : Int := dotv h (colU p j) (j + 1)
def bV (p h : Nat → Int) (j : Nat) : Int := mulv (p (276 + j)) (bF p h j)
def bA (p h : Nat → Int) (r : Int) : Nat → Int
  | 0 => r
  | j + 1 => addv (bA p h r j) (mulv (bF p h j) (bV p h j))
def lookH1 (p h : Nat → Int) (r : Int) (j : Nat) : Bool := doth h (colU p j) (j + 1) || mulh (p (276 + j)) (bF p h j) || mulh (bF p h j) (bV p h j) || addh (bA p h r j) (mulv (bF p h j) (bV p h j))
def satH (h : Nat → Int) : Nat → Int := fun k => satv (h k)
def rV (r : Int) : Int := clampv r 1 72057594037927936
def rH (r : Int) : Bool := clamph r 1 72057594037927936
def lookR (p h : Nat → Int) (r : Int) : Nat → Int := fun k => if k < 24 then bF p (satH h) k else if k < 48 then bV p (satH h) (k - 24) else bA p (satH h) (rV r) (k - 48)
def lookH (p h : Nat → Int) (r : Int) : Bool := anyN (fun k => sath (h k)) 24 || rH r || anyN (lookH1 p (satH h) (rV r)) 24
/-- One column learnt: x, D; the numbers b behind it, the factors behind it. -/
def bX (f a : Nat → Int) (j : Nat) : Int := -quo4v (f j) (a j)
def bD (p a : Nat → Int) (j : Nat) : Int := clampv (mdv (p (276 + j)) (a j) (a (j + 1))) 1 72057594037927936
def nexB (p v b : Nat → Int) (j t : Nat) : Nat → Int := fun k => if k < t then addv (b k) (mulv (colU p j k) (v j)) else b k
def nexO (p b o : Nat → Int) (x : Int) (j : Nat) : Nat → Nat → Int
  | 0 => o
  | t + 1 => upd (nexO p b o x j t) (plc t j).toNat (addv (colU p j t) (mul4v (b t) x))
def nexL (p v b : Nat → Int) (x : Int) (j : Nat) : Nat → Bool := fun t => mul4h (b t) x || addh (colU p j t) (mul4v (b t) x) || (mulh (colU p j t) (v j) || addh (b t) (mulv (colU p j t) (v j)))
/-- .. the first n columns. -/
def lrB (p v : Nat → Int) : Nat → Nat → Int
  | 0 => fun _ => 0
  | j + 1 => nexB p v (upd (lrB p v j) j (v j)) j j
def lrO (p f v a : Nat → Int) : Nat → Nat → Int
  | 0 => p
  | j + 1 => nexO p (upd (lrB p v j) j (v j)) (upd (lrO p f v a j) (276 + j) (bD p a j)) (bX f a j) j j
def lrH1 (p f v a : Nat → Int) (j : Nat) : Bool := (mdh (p (276 + j)) (a j) (a (j + 1)) || clamph (mdv (p (276 + j)) (a j) (a (j + 1))) 1 72057594037927936) || quo4h (f j) (a j) || anyN (nexL p v (upd (lrB p v j) j (v j)) (bX f a j) j) j
/-- A number is learnt: the factors, the gains, the variance of what is measured; was something clamped? -/
def updF (p h : Nat → Int) (r : Int) : Nat → Int := lrO (condF p) (bF (condF p) (satH h)) (bV (condF p) (satH h)) (bA (condF p) (satH h) (rV r)) 24
def updB (p h : Nat → Int) : Nat → Int := lrB (condF p) (bV (condF p) (satH h)) 24
def updS (p h : Nat → Int) (r : Int) : Int := bA (condF p) (satH h) (rV r) 24
def updK (p h : Nat → Int) (r : Int) : Nat → Int := fun k => quov (updB p h k) (updS p h r)
def innH (p h : Nat → Int) (r : Int) : Bool := condH p || lookH (condF p) h r
def updH (p h : Nat → Int) (r : Int) : Bool := innH p h r || anyN (lrH1 (condF p) (bF (condF p) (satH h)) (bV (condF p) (satH h)) (bA (condF p) (satH h) (rV r))) 24 || anyN (fun k => quoh (updB p h k) (updS p h r)) 24
theorem nexB_zero (p v b : Nat → Int) (j : Nat) : nexB p v b j 0 = b := by funext k; unfold nexB; rw [if_neg (by omega)]
theorem nexB_self (p v b : Nat → Int) (j t : Nat) : nexB p v b j t t = b t := by unfold nexB; rw [if_neg (by omega)]
theorem nexB_next (p v b : Nat → Int) (j t : Nat) : upd (nexB p v b j t) t (addv (b t) (mulv (colU p j t) (v j))) = nexB p v b j (t + 1) := by
  funext k; unfold upd nexB
  by_cases h : k = t
  · subst h; rw [if_pos rfl, if_pos (by omega)]
  · rw [if_neg h]
    by_cases h2 : k < t
    · rw [if_pos h2, if_pos (by omega)]
    · rw [if_neg h2, if_neg (by omega)]
theorem upd_swap (f : Nat → Int) {i k : Nat} (h : i ≠ k) (u v : Int) : upd (upd f i u) k v = upd (upd f k v) i u := by
  funext q; unfold upd
  by_cases h1 : q = k
  · rw [if_pos h1, if_neg (by omega), if_pos h1]
  · rw [if_neg h1]
    by_cases h2 : q = i
    · rw [if_pos h2, if_pos h2]
    · rw [if_neg h2, if_neg h2, if_neg h1]
theorem plcT_bd {t j : Nat} (h : t < j) (hj : j < 24) : (plc t j).toNat < 276 := by
  have := plc_bd (i := (t : Int)) (j := (j : Int)) (by omega) (by omega) (by omega)
  omega
/-- What stands beyond U may be written before or behind. -/
theorem nexO_swap (p b o : Nat → Int) (x : Int) {j : Nat} (hj : j < 24) {q : Nat} (hq : 276 ≤ q) (d : Int) : ∀ t, t ≤ j → nexO p b (upd o q d) x j t = upd (nexO p b o x j t) q d
  | 0, _ => rfl
  | t + 1, ht => by
    have := plcT_bd (show t < j by omega) hj
    rw [nexO, nexO, nexO_swap p b o x hj hq d t (by omega), upd_swap _ (by omega)]
/-- What other columns hold stays. -/
theorem nexO_D (p b o : Nat → Int) (x : Int) {j : Nat} (hj : j < 24) {q : Nat} (hq : 276 ≤ q) : ∀ t, t ≤ j → nexO p b o x j t q = o q
  | 0, _ => rfl
  | t + 1, ht => by
    have := plcT_bd (show t < j by omega) hj
    rw [nexO, upd_other _ _ (by omega), nexO_D p b o x hj hq t (by omega)]
theorem plcT_inj {t j u k : Nat} (h : t < j) (hj : j < 24) (h2 : u < k) (hk : k < 24) (e : (plc t j).toNat = (plc u k).toNat) : t = u ∧ j = k := by
  have a := plc_bd (i := (t : Int)) (j := (j : Int)) (by omega) (by omega) (by omega)
  have b := plc_bd (i := (u : Int)) (j := (k : Int)) (by omega) (by omega) (by omega)
  have := plc_inj (i := (t : Int)) (j := (j : Int)) (x := (u : Int)) (y := (k : Int)) (by omega) (by omega) (by omega) (by omega) (by omega) (by omega) (by omega)
  omega
theorem nexO_U (p b o : Nat → Int) (x : Int) {j k u : Nat} (hj : j < 24) (hu : u < k) (hk : k < 24) : ∀ t, t ≤ j → (j = k → t ≤ u) → nexO p b o x j t (plc u k).toNat = o (plc u k).toNat
  | 0, _, _ => rfl
  | t + 1, ht, hne => by
    have hh : (plc u k).toNat ≠ (plc t j).toNat := fun e => by
      have := plcT_inj hu hk (show t < j by omega) hj e
      have := hne this.2.symm
      omega
    rw [nexO, upd_other _ _ hh, nexO_U p b o x hj hu hk t (by omega) (by omega)]
theorem nexO_at (p b o : Nat → Int) (x : Int) {j u : Nat} (hj : j < 24) : ∀ t, t ≤ j → u < t → nexO p b o x j t (plc u j).toNat = addv (colU p j u) (mul4v (b u) x)
  | 0, _, h => by omega
  | t + 1, ht, h => by
    rw [nexO]
    by_cases e : u = t
    · subst e; rw [upd_same]
    · have hh : (plc u j).toNat ≠ (plc t j).toNat := fun e2 => e (plcT_inj (show u < j by omega) hj (show t < j by omega) hj e2).1
      rw [upd_other _ _ hh, nexO_at p b o x hj t (by omega) (by omega)]
theorem lrO_D (p f v a : Nat → Int) : ∀ (n j : Nat), n ≤ 24 → j < 24 → lrO p f v a n (276 + j) = if j < n then bD p a j else p (276 + j)
  | 0, j, _, _ => by rw [if_neg (by omega)]; rfl
  | n + 1, j, hn, hj => by
    rw [lrO, nexO_D _ _ _ _ (by omega) (by omega) _ (Nat.le_refl _)]
    by_cases e : j = n
    · subst e; rw [upd_same, if_pos (by omega)]
    · rw [upd_other _ _ (by omega), lrO_D p f v a n j (by omega) hj]
      by_cases h : j < n
      · rw [if_pos h, if_pos (by omega)]
      · rw [if_neg h, if_neg (by omega)]
theorem lrO_U (p f v a : Nat → Int) {u k : Nat} (hu : u < k) (hk : k < 24) : ∀ n, n ≤ 24 → lrO p f v a n (plc u k).toNat = if k < n then addv (colU p k u) (mul4v (upd (lrB p v k) k (v k) u) (bX f a k)) else p (plc u k).toNat
  | 0, _ => by rw [if_neg (by omega)]; rfl
  | n + 1, hn => by
    rw [lrO]
    by_cases e : k = n
    · subst e
      rw [nexO_at _ _ _ _ hk _ (Nat.le_refl _) hu, if_pos (by omega)]
    · rw [nexO_U _ _ _ _ (by omega) hu hk _ (Nat.le_refl _) (fun h => absurd h.symm e), upd_other _ _ (by have := plcT_bd hu hk; omega), lrO_U p f v a hu hk n (by omega)]
      by_cases h : k < n
      · rw [if_pos h, if_pos (by omega)]
      · rw [if_neg h, if_neg (by omega)]
theorem lrB_out (p v : Nat → Int) : ∀ (n k : Nat), n ≤ k → lrB p v n k = 0
  | 0, _, _ => rfl
  | n + 1, k, h => by
    rw [lrB]; unfold nexB
    rw [if_neg (by omega), upd_other _ _ (by omega), lrB_out p v n k (by omega)]
/-- The document's own way: a column's D behind its numbers of U, in the place of the old. -/
def rfO (p f v a : Nat → Int) : Nat → Nat → Int
  | 0 => p
  | j + 1 => upd (nexO p (upd (lrB p v j) j (v j)) (rfO p f v a j) (bX f a j) j j) (276 + j) (bD p a j)
theorem rfO_eq (p f v a : Nat → Int) : ∀ n, n ≤ 24 → rfO p f v a n = lrO p f v a n
  | 0, _ => rfl
  | n + 1, h => by rw [rfO, lrO, rfO_eq p f v a n (by omega), nexO_swap _ _ _ _ (by omega) (by omega) _ _ (Nat.le_refl _)]
theorem rfO_D (p f v a b : Nat → Int) (x : Int) {j : Nat} (hj : j < 24) {t : Nat} (ht : t ≤ j) : nexO p b (rfO p f v a j) x j t (276 + j) = p (276 + j) := by
  rw [nexO_D _ _ _ _ hj (by omega) _ ht, rfO_eq _ _ _ _ _ (by omega), lrO_D _ _ _ _ _ _ (by omega) hj, if_neg (by omega)]
end Go.Proofs.Ytplffehgjdinnaa
