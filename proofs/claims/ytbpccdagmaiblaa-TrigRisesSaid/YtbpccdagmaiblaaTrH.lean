/- Laws of sines and cosines: numbers alone. -/
import Derived.Test.YtbpccdagmaiblaaTrW
namespace Go.Proofs.Ytbpccdagmaiblaa.Tr
open Go SX
theorem wrapT_mod (a : Int) : ∃ q : Int, wrapT a = a - 6746518852 * q := by
  have e : a.tmod 6746518852 = a - 6746518852 * a.tdiv 6746518852 := Int.tmod_def a 6746518852
  unfold wrapT
  rw [e]
  (repeat' split)
  · exact ⟨a.tdiv 6746518852 + 1, by omega⟩
  · exact ⟨a.tdiv 6746518852, by omega⟩
  · exact ⟨a.tdiv 6746518852 - 1, by omega⟩
/-- A whole turn more makes no difference. -/
theorem wrapT_turn {a b k : Int} (h : b = a + 6746518852 * k) : wrapT b = wrapT a := by
  obtain ⟨p, hp⟩ := wrapT_mod a
  obtain ⟨q, hq⟩ := wrapT_mod b
  have i := wrapT_in a
  have j := wrapT_in b
  omega
/-- The square of the sine and that of the cosine. -/
theorem circle_T {w s k : Int} (w1 : -3373259426 ≤ w) (w2 : w ≤ 3373259426) (s1 : -36561 ≤ 16384 * s - sT w) (s2 : 16384 * s - sT w ≤ 36561) (k1 : -36561 ≤ 16384 * k - cT w) (k2 : 16384 * k - cT w ≤ 36561) :
    -10000000000 ≤ s * s + k * k - 1152921504606846976 ∧ s * s + k * k - 1152921504606846976 ≤ 10000000000 := by
  have bc := cT_in w1 w2
  have bs := sT_in w1 w2
  have g := diff_c w1 w2 w1 w2
  rw [Int.sub_self, cT0] at g
  have o1 := prod_near k1 k2 k1 k2 (by decide) (by omega) (by omega) (by omega) (by omega)
  have o2 := prod_near s1 s2 s1 s2 (by decide) (by omega) (by omega) (by omega) (by omega)
  have t1 : 16384 * k * (16384 * k) = 268435456 * (k * k) := by grind
  have t2 : 16384 * s * (16384 * s) = 268435456 * (s * s) := by grind
  rw [t1] at o1
  rw [t2] at o2
  omega
/-- Odd. -/
theorem rnd_neg (v : Int) (s : Nat) : rnd (-v) s = -rnd v s := by
  unfold rnd withSign
  rcases Int.lt_trichotomy v 0 with h | h | h
  · rw [decide_eq_false (by omega), decide_eq_true h, Int.natAbs_neg]; simp
  · subst h
    have hz : rq (0 : Int).natAbs s = 0 := by
      have k := rnd_nr 0 s
      have hp : 0 < 2 ^ s := Nat.pow_pos (by omega)
      unfold rnd withSign at k
      rw [decide_eq_false (by omega)] at k
      simp only [Int.natAbs_zero] at k ⊢
      generalize (2 ^ s : Nat) = P at *
      refine Nat.eq_zero_of_not_pos fun hc => ?_
      have m := Int.mul_le_mul_of_nonneg_left (show (1 : Int) ≤ ((rq 0 s : Nat) : Int) by omega) (show (0 : Int) ≤ (P : Int) by omega)
      simp at k
      omega
    rw [Int.neg_zero, decide_eq_false (by omega), hz]; rfl
  · rw [decide_eq_true (show -v < 0 by omega), decide_eq_false (by omega), Int.natAbs_neg]; simp
theorem satv_neg (a : Int) : satv (-a) = -satv a := by
  unfold satv; (repeat' split) <;> omega
theorem mq_neg_l (a b : Int) : mq (-a) b = -mq a b := by
  unfold mq
  rw [satv_neg a, Int.neg_mul, rnd_neg, satv_neg]
theorem mq_neg_neg (a : Int) : mq (-a) (-a) = mq a a := by
  unfold mq
  rw [satv_neg a, Int.neg_mul_neg]
theorem sinP_neg (w : Int) : sinP (-w) = -sinP w := by
  unfold sinP
  rw [mq_neg_neg, mq_neg_l]
theorem sineF_neg {w : Int} : sineF (-w) = -sineF w := by
  unfold sineF
  rcases Int.lt_trichotomy w 0 with h | h | h
  · rw [if_neg (by omega), if_pos h]
    by_cases h2 : 843314857 < -w
    · rw [if_pos h2, if_pos h2, show 1686629713 - -w = 1686629713 + w by omega]; omega
    · rw [if_neg h2, if_neg h2, sinP_neg]
  · subst h; decide +kernel
  · rw [if_pos (show -w < 0 by omega), if_neg (show ¬ w < 0 by omega), Int.neg_neg]
    by_cases h2 : 843314857 < w
    · rw [if_pos h2, if_pos h2, show 1686629713 + -w = 1686629713 - w by omega]
    · rw [if_neg h2, if_neg h2, sinP_neg]
theorem sinF_odd {a : Int} (a1 : -1152921504606846976 ≤ a) (a2 : a ≤ 1152921504606846976) : sinF (-a) = -sinF a := by
  rw [sinF_eq, sinF_eq, satv_id (a := a) (by unfold mx; omega) (by unfold mx; omega), satv_id (a := -a) (by unfold mx; omega) (by unfold mx; omega)]
  obtain ⟨p, hp⟩ := wrapT_mod a
  obtain ⟨q, hq⟩ := wrapT_mod (-a)
  have i := wrapT_in a
  have j := wrapT_in (-a)
  have e : wrapT (-a) = -wrapT a ∨ (wrapT a = 3373259426 ∧ wrapT (-a) = 3373259426) := by omega
  rcases e with e | ⟨e1, e2⟩
  · rw [e]
    have f : foldT (-wrapT a) = -foldT (wrapT a) := by
      unfold foldT; (repeat' split) <;> omega
    rw [f, sineF_neg]
  · rw [e1, e2]
    have f : foldT 3373259426 = 0 := by decide
    rw [f]; decide +kernel
/-- Sines of angles whose wraps are known. -/
theorem sinF_w {a : Int} (a1 : -1152921504606846976 ≤ a) (a2 : a ≤ 1152921504606846976) : -36561 ≤ 16384 * sinF a - sT (wrapT a) ∧ 16384 * sinF a - sT (wrapT a) ≤ 36561 := by
  have i := wrapT_in a
  have k := sinF_T (a := a) (w := wrapT a) (by omega) (by omega) (by rw [satv_id (by unfold mx; omega) (by unfold mx; omega)])
  omega
/-- The sine and cosine of a sum, as the program tells them. -/
theorem sums_T {a b : Int} : (-20000 ≤ sT (wrapT (a + b)) - sT (wrapT a + wrapT b) ∧ sT (wrapT (a + b)) - sT (wrapT a + wrapT b) ≤ 20000) ∧ (-20000 ≤ cT (wrapT (a + b)) - cT (wrapT a + wrapT b) ∧ cT (wrapT (a + b)) - cT (wrapT a + wrapT b) ≤ 20000) := by
  have i := wrapT_in a
  have j := wrapT_in b
  have l := wrapT_in (a + b)
  obtain ⟨p, hp⟩ := wrapT_mod a
  obtain ⟨q, hq⟩ := wrapT_mod b
  obtain ⟨r, hr⟩ := wrapT_mod (a + b)
  obtain ⟨y, hy, y1, y2, hs, hc⟩ := home (z := wrapT a + wrapT b) (by omega) (by omega)
  have e : wrapT (a + b) = y ∨ wrapT (a + b) = y + 6746518852 := by omega
  rcases e with e | e
  · rw [e]; omega
  · -- y = - half a turn, the wrap is half a turn
    have y0 : y = -3373259426 := by omega
    have e2 : wrapT (a + b) = 3373259426 := by omega
    rw [e2, sTP, cTP]
    rw [y0, sTPn] at hs
    rw [y0, cTPn] at hc
    omega
/-- The sine rises. -/
theorem rises_T {a b : Int} (a1 : -1686629713 ≤ a) (b1 : b ≤ 1686629713) (h : a ≤ b) : -200000 ≤ sT b - sT a := by
  obtain ⟨m, k, hm, hk⟩ : ∃ m k : Int, a = m - k ∧ (b = m + k ∨ b = m + k + 1) := ⟨(a + b) / 2, (a + b) / 2 - a, by omega, by omega⟩
  have k1 := diff_s (x := m) (y := k) (by omega) (by omega) (by omega) (by omega)
  have k2 := sum_s (x := m) (y := k) (by omega) (by omega) (by omega) (by omega)
  have cm : -2000 ≤ cT m := by
    have q := sQ (x := m) (by omega) (by omega)
    have q2 := sQ (x := -m) (by omega) (by omega)
    rw [cT_neg] at q2
    rcases Int.le_total 0 m with h0 | h0
    · have j := jord (z := -m + 1686629713) (by omega) (by omega); omega
    · have j := jord (z := m + 1686629713) (by omega) (by omega); omega
  have sk := jord (z := k) (by omega) (by omega)
  have bk := sT_in (x := k) (by omega) (by omega)
  have bm := cT_in (x := m) (by omega) (by omega)
  have p := Int.mul_nonneg (show 0 ≤ cT m + 2000 by omega) (show 0 ≤ sT k + 1 by omega)
  have e : (cT m + 2000) * (sT k + 1) = cT m * sT k + cT m + 2000 * sT k + 2000 := by grind
  rw [← hm] at k1
  have u : -100000 ≤ sT (m + k) - sT a := by
    rw [e] at p; omega
  rcases hk with hk | hk
  · rw [hk]; omega
  · have s := shift2 (x := m + k) (y := b) (by omega) (by omega) (by omega) (by omega)
    omega
theorem falls_T {a b : Int} (a1 : 0 ≤ a) (b1 : b ≤ 1686629713) (h : a ≤ b) : -210000 ≤ cT a - cT b := by
  have k := rises_T (a := -b + 1686629713) (b := -a + 1686629713) (by omega) (by omega) (by omega)
  have q := sQ (x := -a) (by omega) (by omega)
  have q2 := sQ (x := -b) (by omega) (by omega)
  rw [cT_neg] at q q2
  omega
end Go.Proofs.Ytbpccdagmaiblaa.Tr
