/- What the scalars of chapter 2 come to, as whole numbers. Nothing of a program is used. -/
import Derived.Test.YtahedampmjfoeaaWideG
namespace Go.Proofs.Ytahedampmjfoeaa
open Go.RowKit

def satv (a : Int) : Int := if a < -1152921504606846976 then -1152921504606846976 else if 1152921504606846976 < a then 1152921504606846976 else a
def sath (a : Int) : Bool := decide (a < -1152921504606846976) || decide (1152921504606846976 < a)
theorem satv_lo (a : Int) : -1152921504606846976 ≤ satv a := by unfold satv; split <;> (try split) <;> omega
theorem satv_hi (a : Int) : satv a ≤ 1152921504606846976 := by unfold satv; split <;> (try split) <;> omega
theorem satv_in {a : Int} (h1 : -1152921504606846976 ≤ a) (h2 : a ≤ 1152921504606846976) : satv a = a ∧ sath a = false := by
  unfold satv sath
  rw [if_neg (by omega), if_neg (by omega), decide_eq_false (by omega), decide_eq_false (by omega)]
  exact ⟨rfl, rfl⟩
theorem satv_under {a : Int} (h : a < -1152921504606846976) : satv a = -1152921504606846976 ∧ sath a = true := by
  unfold satv sath
  rw [if_pos h, decide_eq_true h]
  exact ⟨rfl, rfl⟩
theorem satv_over {a : Int} (h : 1152921504606846976 < a) : satv a = 1152921504606846976 ∧ sath a = true := by
  unfold satv sath
  rw [if_neg (by omega), if_pos h, decide_eq_true h]
  exact ⟨rfl, Bool.or_true _⟩
theorem satv_neg (a : Int) : satv (-a) = -satv a := by
  unfold satv
  repeat split
  all_goals omega
theorem satv_mono {a b : Int} (h : a ≤ b) : satv a ≤ satv b := by
  unfold satv
  repeat split
  all_goals omega
def clampv (a lo hi : Int) : Int := if hi < lo then lo else if a < lo then lo else if hi < a then hi else a
def clamph (a lo hi : Int) : Bool := decide (hi < lo) || decide (a < lo) || decide (hi < a)
theorem clamp_sat (a : Int) : clampv a (-1152921504606846976) 1152921504606846976 = satv a ∧ clamph a (-1152921504606846976) 1152921504606846976 = sath a := by
  unfold clampv clamph satv sath
  constructor
  · rw [if_neg (by omega)]
  · rw [decide_eq_false (by omega : ¬ (1152921504606846976 : Int) < -1152921504606846976)]; rfl

/-- v divided by 2^s, rounded; v divided by d, rounded. -/
def rnd (v : Int) (s : Nat) : Int := withSign (decide (v < 0)) (rq v.natAbs s)
/-- The bound on v's side of 0. -/
def sideOf (v : Int) : Int := cmpI v 0 * 1152921504606846976
theorem side_neg {v : Int} (h : v < 0) : sideOf v = -1152921504606846976 := by unfold sideOf cmpI; rw [if_neg (by omega), if_pos h]; omega
theorem side_pos {v : Int} (h : 0 < v) : sideOf v = 1152921504606846976 := by unfold sideOf cmpI; rw [if_neg (by omega), if_neg (by omega)]; omega
theorem side_zero : sideOf 0 = 0 := rfl
theorem side_bd (v : Int) : -1152921504606846976 ≤ sideOf v ∧ sideOf v ≤ 1152921504606846976 := by
  rcases Int.lt_trichotomy v 0 with h | h | h
  · rw [side_neg h]; omega
  · subst h; rw [side_zero]; omega
  · rw [side_pos h]; omega
theorem rq_zero (s : Nat) : rq 0 s = 0 := by
  unfold rq halfOf
  split
  · rename_i h; subst h; rfl
  · rw [Nat.zero_add]
    exact Nat.div_eq_of_lt (Nat.pow_lt_pow_right (by omega) (by omega))
theorem sok_iff (z : Int) : sok z = true ↔ -9223372036854775808 ≤ z ∧ z ≤ 9223372036854775807 := by unfold sok; simp
theorem round_far {v : Int} {s : Nat} (h : sok (rnd v s) = false) : satv (rnd v s) = sideOf v ∧ sath (rnd v s) = true := by
  have h1 : ¬ (-9223372036854775808 ≤ rnd v s ∧ rnd v s ≤ 9223372036854775807) := fun h2 => by rw [(sok_iff _).2 h2] at h; cases h
  rcases Int.lt_trichotomy v 0 with hv | hv | hv
  · have e : rnd v s = -(rq v.natAbs s : Nat) := by unfold rnd withSign; rw [decide_eq_true hv]; rfl
    rw [side_neg hv]
    exact satv_under (by omega)
  · subst hv
    have e : rnd 0 s = 0 := by unfold rnd withSign; rw [show (0 : Int).natAbs = 0 from rfl, rq_zero]; rfl
    rw [e] at h1; omega
  · have e : rnd v s = (rq v.natAbs s : Nat) := by unfold rnd withSign; rw [decide_eq_false (by omega)]; rfl
    rw [side_pos hv]
    exact satv_over (by omega)
theorem divZ_sign (v d : Int) : divZ v d = withSign (decide (v < 0) != decide (d < 0)) (dq v.natAbs d.natAbs) := by unfold divZ; rw [xor_sign]
theorem dq_zero (d : Nat) (h : 0 < d) : dq 0 d = 0 := by
  unfold dq
  simp
  try omega
theorem div_far {v d : Int} (d0 : d ≠ 0) (h : sok (divZ v d) = false) : satv (divZ v d) = (if d < 0 then -sideOf v else sideOf v) ∧ sath (divZ v d) = true := by
  have h1 : ¬ (-9223372036854775808 ≤ divZ v d ∧ divZ v d ≤ 9223372036854775807) := fun h2 => by rw [(sok_iff _).2 h2] at h; cases h
  rw [divZ_sign] at *
  unfold withSign at *
  rcases Int.lt_trichotomy v 0 with hv | hv | hv
  · rw [side_neg hv]
    by_cases hd : d < 0
    · rw [decide_eq_true hv, decide_eq_true hd] at *
      simp only [bne_self_eq_false, Bool.false_eq_true, if_false, if_pos hd] at *
      exact satv_over (by omega)
    · rw [decide_eq_true hv, decide_eq_false hd] at *
      simp only [show (true != false) = true from rfl, if_true, if_neg hd] at *
      exact satv_under (by omega)
  · subst hv
    have : dq (0 : Int).natAbs d.natAbs = 0 := dq_zero _ (by omega)
    rw [this] at h1
    exfalso
    apply h1
    split <;> omega
  · rw [side_pos hv]
    by_cases hd : d < 0
    · rw [decide_eq_false (by omega : ¬ v < 0), decide_eq_true hd] at *
      simp only [show (false != true) = true from rfl, if_true, if_pos hd] at *
      exact satv_under (by omega)
    · rw [decide_eq_false (by omega : ¬ v < 0), decide_eq_false hd] at *
      simp only [bne_self_eq_false, Bool.false_eq_true, if_false, if_neg hd] at *
      exact satv_over (by omega)
end Go.Proofs.Ytahedampmjfoeaa
