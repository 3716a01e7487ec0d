/- Parts of a covariance begun anew: their numbers. Nothing of a program is used. -/
import Derived.Test.YtadeadpcpgfkbaaRN
namespace Go.Proofs.Ytadeadpcpgfkbaa
open Go.RowKit

def oneG : Nat → Int := fun k => if k / 24 = k % 24 then 1073741824 else 0
def oneT (t : Nat) : Nat → Int := fun k => if k / 24 = k % 24 ∧ k / 24 < t then 1073741824 else 0
theorem oneT_zero : oneT 0 = fun _ => 0 := by funext k; unfold oneT; rw [if_neg (by omega)]
theorem oneT_next {t : Nat} (ht : t < 24) : upd (oneT t) (t * 24 + t) 1073741824 = oneT (t + 1) := by
  funext k; unfold upd oneT
  by_cases h : k = t * 24 + t
  · subst h; rw [if_pos rfl, if_pos (by omega)]
  · rw [if_neg h]
    by_cases h2 : k / 24 = k % 24 ∧ k / 24 < t
    · rw [if_pos h2, if_pos (by omega)]
    · rw [if_neg h2, if_neg (by omega)]
theorem oneT_all {k : Nat} (hk : k < 576) : oneT 24 k = oneG k := by
  unfold oneT oneG
  by_cases h : k / 24 = k % 24
  · rw [if_pos h, if_pos (by omega)]
  · rw [if_neg h, if_neg (by omega)]
def bgS (s : Nat → Int) (i v : Int) : Nat → Int := bif inN i then upd (upd s (25 * i.toNat) 0) (576 + i.toNat) (clampv v 1 72057594037927936) else s
def bgH (i v : Int) : Bool := inN i && clamph v 1 72057594037927936
def anew0 : Nat → Int := fun k => if k < 576 then oneG k else 0
def rsS (m : Int) (l : Nat → Int) : Nat → Nat → Int
  | 0 => anew0
  | k + 1 => bgS (rsS m l k) (wrap64 (m + (k : Int))) (l k)
def rsH (m : Int) (l : Nat → Int) : Nat → Bool
  | 0 => false
  | k + 1 => rsH m l k || bgH (wrap64 (m + (k : Int))) (l k)
def fgS (f l : Nat → Int) : Nat → Nat → Int
  | 0 => anew0
  | k + 1 => bgS (fgS f l k) (l k) (atV f (l k) (l k))
def fgH (f l : Nat → Int) : Nat → Bool
  | 0 => false
  | k + 1 => fgH f l k || (inN (l k) && (atH f (l k) (l k) || clamph (atV f (l k) (l k)) 1 72057594037927936))
def grQ (m : Int) (l : Nat → Int) : Nat → Nat → Int
  | 0 => fun _ => 0
  | k + 1 => bif inN (wrap64 (m + (k : Int))) then upd (grQ m l k) (wrap64 (m + (k : Int))).toNat (l k) else grQ m l k
def tailS (s : Nat → Int) : Nat → Int := fun k => s (576 + k)
def resetF (f : Nat → Int) (m : Int) (l : Nat → Int) (n : Nat) : Nat → Int := stepF f (rsS m l n) (tailS (rsS m l n))
def resetH (f : Nat → Int) (m : Int) (l : Nat → Int) (n : Nat) : Bool := rsH m l n || stepH f (rsS m l n) (tailS (rsS m l n))
def forgetF (f l : Nat → Int) (n : Nat) : Nat → Int := stepF f (fgS f l n) (tailS (fgS f l n))
def forgetH (f l : Nat → Int) (n : Nat) : Bool := fgH f l n || stepH f (fgS f l n) (tailS (fgS f l n))
def growF (f : Nat → Int) (m : Int) (l : Nat → Int) (n : Nat) : Nat → Int := stepF f oneG (grQ m l n)
def growH (f : Nat → Int) (m : Int) (l : Nat → Int) (n : Nat) : Bool := stepH f oneG (grQ m l n)
theorem wrap64_sm {x : Int} (h1 : -9223372036854775808 ≤ x) (h2 : x ≤ 9223372036854775807) : wrap64 x = x := by unfold wrap64; omega
theorem bgS_in {s : Nat → Int} {i : Nat} {v : Int} (hi : i < 24) (k : Nat) : bgS s (i : Int) v k = if k = 576 + i then clampv v 1 72057594037927936 else if k = 25 * i then 0 else s k := by
  unfold bgS
  rw [(inN_iff _).2 (by omega), cond_true, Int.toNat_natCast]
  rfl
theorem bgS_out {s : Nat → Int} {i v : Int} (hi : i < 0 ∨ 23 < i) : bgS s i v = s := by unfold bgS; rw [(inN_no _).2 hi]; rfl
theorem rsS_at {m : Int} (hm : -100000 ≤ m ∧ m ≤ 100000) (l : Nat → Int) : ∀ {n : Nat}, n ≤ 100000 → ∀ k, rsS m l n k =
    if 576 ≤ k ∧ k < 600 ∧ m ≤ ((k - 576 : Nat) : Int) ∧ ((k - 576 : Nat) : Int) < m + n then clampv (l (((k - 576 : Nat) : Int) - m).toNat) 1 72057594037927936
    else if k < 576 ∧ k / 24 = k % 24 ∧ m ≤ ((k / 24 : Nat) : Int) ∧ ((k / 24 : Nat) : Int) < m + n then 0 else anew0 k
  | 0, _, k => by rw [rsS, if_neg (by omega), if_neg (by omega)]
  | n + 1, hn, k => by
    rw [rsS, wrap64_sm (by omega) (by omega)]
    have ih := rsS_at hm l (n := n) (by omega) k
    by_cases hi : m + (n : Int) < 0 ∨ 23 < m + (n : Int)
    · rw [bgS_out hi, ih]
      by_cases h1 : 576 ≤ k ∧ k < 600 ∧ m ≤ ((k - 576 : Nat) : Int) ∧ ((k - 576 : Nat) : Int) < m + n
      · rw [if_pos h1, if_pos (by omega)]
      · rw [if_neg h1]
        by_cases h2 : k < 576 ∧ k / 24 = k % 24 ∧ m ≤ ((k / 24 : Nat) : Int) ∧ ((k / 24 : Nat) : Int) < m + n
        · rw [if_pos h2, if_neg (by omega), if_pos (by omega)]
        · rw [if_neg h2, if_neg (by omega), if_neg (by omega)]
    · obtain ⟨i, hi2⟩ : ∃ i : Nat, m + (n : Int) = (i : Int) := ⟨(m + (n : Int)).toNat, by omega⟩
      have hi24 : i < 24 := by omega
      rw [hi2, bgS_in hi24, ih]
      by_cases e1 : k = 576 + i
      · subst e1
        rw [if_pos rfl, if_pos (by omega), show (((576 + i - 576 : Nat) : Int) - m).toNat = n by omega]
      · rw [if_neg e1]
        by_cases e2 : k = 25 * i
        · subst e2
          rw [if_pos rfl, if_neg (by omega), if_pos (by omega)]
        · rw [if_neg e2]
          by_cases h1 : 576 ≤ k ∧ k < 600 ∧ m ≤ ((k - 576 : Nat) : Int) ∧ ((k - 576 : Nat) : Int) < m + n
          · rw [if_pos h1, if_pos (by omega)]
          · rw [if_neg h1]
            by_cases h2 : k < 576 ∧ k / 24 = k % 24 ∧ m ≤ ((k / 24 : Nat) : Int) ∧ ((k / 24 : Nat) : Int) < m + n
            · rw [if_pos h2, if_neg (by omega), if_pos (by omega)]
            · rw [if_neg h2, if_neg (by omega), if_neg (by omega)]
theorem grQ_at {m : Int} (hm : -100000 ≤ m ∧ m ≤ 100000) (l : Nat → Int) : ∀ {n : Nat}, n ≤ 100000 → ∀ k, k < 24 → grQ m l n k = if m ≤ (k : Int) ∧ (k : Int) < m + n then l ((k : Int) - m).toNat else 0
  | 0, _, k, _ => by rw [grQ, if_neg (by omega)]
  | n + 1, hn, k, hk => by
    rw [grQ, wrap64_sm (by omega) (by omega)]
    have ih := grQ_at hm l (n := n) (by omega) k hk
    cases hi : inN (m + (n : Int))
    · rw [inN_no] at hi
      rw [cond_false, ih]
      by_cases h1 : m ≤ (k : Int) ∧ (k : Int) < m + n
      · rw [if_pos h1, if_pos (by omega)]
      · rw [if_neg h1, if_neg (by omega)]
    · rw [inN_iff] at hi
      rw [cond_true]
      unfold upd
      by_cases e : k = (m + (n : Int)).toNat
      · rw [if_pos e, if_pos (by omega), show ((k : Int) - m).toNat = n by omega]
      · rw [if_neg e, ih]
        by_cases h1 : m ≤ (k : Int) ∧ (k : Int) < m + n
        · rw [if_pos h1, if_pos (by omega)]
        · rw [if_neg h1, if_neg (by omega)]
/-! ### The document's own -/
end Go.Proofs.Ytadeadpcpgfkbaa
