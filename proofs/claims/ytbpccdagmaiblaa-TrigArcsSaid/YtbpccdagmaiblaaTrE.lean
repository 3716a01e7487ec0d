/- The angle of a sine. Numbers alone. -/
import Derived.Test.YtbpccdagmaiblaaTrH
namespace Go.Proofs.Ytbpccdagmaiblaa.Tr
open Go SX
/-- The sine of the angle of (a, c), where a and c lie near the circle. -/
theorem arc_T {a c R : Int} (hR : R = a * a + c * c) (R1 : 1152921504606846976 - 1610612800 ≤ R) (R2 : R ≤ 1152921504606846976 + 1610612800) (c0 : 0 ≤ c) :
    (-3373259426 ≤ atanF a c ∧ atanF a c ≤ 3373259426) ∧ -(40 * 16384) ≤ sT (atanF a c) - 16384 * a ∧ sT (atanF a c) - 16384 * a ≤ 40 * 16384 := by
  have k1 := Nm.sqnn a
  have k2 := Nm.sqnn c
  have ba := abs_of_sq (x := a) (B := 1073741826) (by decide) (by omega)
  have bc := abs_of_sq (x := c) (B := 1073741826) (by decide) (by omega)
  have hs : satv a = a := satv_id (by unfold mx; omega) (by unfold mx; omega)
  have hx : satv c = c := satv_id (by unfold mx; omega) (by unfold mx; omega)
  have h0 : a ≠ 0 ∨ c ≠ 0 := by
    refine Decidable.byContradiction fun hc => ?_
    have e1 : a = 0 := by omega
    have e2 : c = 0 := by omega
    subst e1 e2; omega
  obtain ⟨m, hm⟩ : ∃ m, m = if absv c < absv a then absv a else absv c := ⟨_, rfl⟩
  obtain ⟨ha, hT, hd⟩ := atan_T hs hx h0 hm
  have hmm : 1 ≤ m ∧ m ≤ 1073741826 := by
    have ey : (0 ≤ a ∧ absv a = a) ∨ (a < 0 ∧ absv a = -a) := by
      rcases Int.lt_or_le a 0 with h | h
      · exact .inr ⟨h, absN (by omega) (by omega)⟩
      · exact .inl ⟨h, absP (by omega) (by omega)⟩
    have ex : absv c = c := absP c0 (by omega)
    rw [hm]
    split <;> omega
  refine ⟨ha, ?_⟩
  generalize atanF a c = x at *
  have bs := sT_in ha.1 ha.2
  have bk := cT_in ha.1 ha.2
  have g := diff_c ha.1 ha.2 ha.1 ha.2
  rw [Int.sub_self, cT0] at g
  -- D small, P about 2^30 of the unit
  have hD : -80000000000000 ≤ a * cT x - c * sT x ∧ a * cT x - c * sT x ≤ 80000000000000 := by
    have w := Int.mul_le_mul_of_nonneg_right hmm.2 (show (0 : Int) ≤ 4632 * 17592186044416 by decide)
    omega
  have hP0 : 0 ≤ c * cT x + a * sT x := by
    have w := Int.mul_nonneg (show 0 ≤ m by omega) (show (0 : Int) ≤ 7300000000000 by decide)
    omega
  have key : (a * cT x - c * sT x) * (a * cT x - c * sT x) + (c * cT x + a * sT x) * (c * cT x + a * sT x) = R * (cT x * cT x + sT x * sT x) := by rw [hR]; grind
  have main : R * sT x = a * (c * cT x + a * sT x) - c * (a * cT x - c * sT x) := by rw [hR]; grind
  have qq : 309485009821345068724781056 - 10 * 17592186044416 ≤ cT x * cT x + sT x * sT x ∧ cT x * cT x + sT x * sT x ≤ 309485009821345068724781056 + 10 * 17592186044416 := by omega
  generalize cT x * cT x + sT x * sT x = q at *
  have qb := bil (u := R - 1152921504606846976) (B := 1610612800) (by omega) (by omega) (d := q) (S := 309485009821345068724781056 + 10 * 17592186044416) (by omega) (by omega)
  have e1 : (R - 1152921504606846976) * q = R * q - 1152921504606846976 * q := by grind
  rw [e1] at qb
  generalize a * cT x - c * sT x = D at *
  generalize c * cT x + a * sT x = P at *
  have dd := bil hD.1 hD.2 hD.1 hD.2
  have d0 := Nm.sqnn D
  have hP : 18889465931478580854784 - 4 * 17592186044416 ≤ P ∧ P ≤ 18889465931478580854784 + 4 * 17592186044416 := by
    constructor
    · refine Int.not_lt.1 fun hc => ?_
      have k := Int.mul_le_mul (show P ≤ 18889465931478580854784 - 4 * 17592186044416 by omega) (show P ≤ 18889465931478580854784 - 4 * 17592186044416 by omega) hP0 (by decide)
      omega
    · refine Int.not_lt.1 fun hc => ?_
      have k := Int.mul_le_mul (show 18889465931478580854784 + 4 * 17592186044416 ≤ P by omega) (show 18889465931478580854784 + 4 * 17592186044416 ≤ P by omega) (by decide) hP0
      omega
  have m1 := bil (u := a) (B := 1073741826) (by omega) (by omega) (d := P - 18889465931478580854784) (S := 4 * 17592186044416) (by omega) (by omega)
  have m2 := bil (u := c) (B := 1073741826) (by omega) (by omega) hD.1 hD.2
  have m3 := bil (u := R - 1152921504606846976) (B := 1610612800) (by omega) (by omega) (d := sT x) (S := 17592186044418) (by omega) (by omega)
  have e2 : a * (P - 18889465931478580854784) = a * P - 18889465931478580854784 * a := by grind
  have e3 : (R - 1152921504606846976) * sT x = R * sT x - 1152921504606846976 * sT x := by grind
  rw [e2] at m1
  rw [e3] at m3
  omega
theorem slope_pos {t : Int} (t1 : 1 ≤ t) (t2 : t ≤ 1073741824) : 1 ≤ slopeF t := by
  rcases Int.lt_or_le 444758426 t with h | h
  · have s := slope_T (t := t) (by omega) t2
    -- the angle is at least an eighth of a turn less than that of the steepest
    refine Int.not_lt.1 fun hc => ?_
    have z : slopeF t = 0 := by omega
    have hT := s.2
    rw [z, show sT 0 = 0 by decide +kernel, cT0] at hT
    omega
  · have e : slopeF t = mq t (atanS (mq t t)) := by unfold slopeF; rw [if_neg (by omega)]
    rw [e]
    obtain ⟨z1, z2⟩ := zx_bd (x := t) (by omega) (by omega)
    have hb := at_bd z1 z2
    have hi := at_in (x := t) (by omega) (by omega)
    have lo : 600000000 ≤ atanS (mq t t) := by unfold atanS; omega
    have h := mq_near (a := t) (b := atanS (mq t t)) (by omega) (by omega) (by omega) (by omega)
    have k := Int.mul_le_mul_of_nonneg_right t1 (show 0 ≤ atanS (mq t t) by omega)
    omega
/-- The angle's sign is the point's. -/
theorem atan_sign {a c : Int} (a1 : -1073741826 ≤ a) (a2 : a ≤ 1073741826) (c0 : 1 ≤ c) (c1 : c ≤ 1073741826) : (0 < a → 0 < atanF a c) ∧ (a < 0 → atanF a c < 0) ∧ (a = 0 → atanF a c = 0) := by
  have hs : satv a = a := satv_id (by unfold mx; omega) (by unfold mx; omega)
  have hx : satv c = c := satv_id (by unfold mx; omega) (by unfold mx; omega)
  have ex : absv c = c := absP (by omega) (by omega)
  have hp : (2 : Int) ^ 30 = 1073741824 := by decide
  -- the quotient is at least 1
  have T : ∀ {n m : Int}, 1 ≤ n → n ≤ m → m ≤ 1073741826 → 1 ≤ divv (n * 2 ^ 30) m ∧ divv (n * 2 ^ 30) m ≤ 1073741824 := fun {n m} h1 h2 h3 => by
    rw [hp]
    have hi := divZ_in (v := n * 1073741824) (d := m) (B := 1073741824) (by omega) (by decide) (by omega) (by omega)
    have hn := divv_nr (v := n * 1073741824) (d := m) (by omega) (by omega)
    generalize divv (n * 1073741824) m = t at *
    constructor
    · refine Int.not_lt.1 fun hc => ?_
      have k := Int.mul_le_mul_of_nonneg_left (show t ≤ 0 by omega) (show 0 ≤ m by omega)
      omega
    · refine Int.not_lt.1 fun hc => ?_
      have k := Int.mul_le_mul_of_nonneg_left (show 1073741825 ≤ t by omega) (show 0 ≤ m by omega)
      omega
  have pos : ∀ {b : Int}, 1 ≤ b → b ≤ 1073741826 → 1 ≤ (if c < b then 1686629713 - slopeF (divv (c * 2 ^ 30) b) else slopeF (divv (b * 2 ^ 30) c)) := fun {b} h1 h2 => by
    split
    · have t := T (n := c) (m := b) c0 (by omega) h2
      have s := slope_T (t := divv (c * 2 ^ 30) b) (by omega) t.2
      omega
    · have t := T (n := b) (m := c) h1 (by omega) c1
      exact slope_pos t.1 t.2
  unfold atanF
  rw [hs, hx, ex, if_neg (by omega)]
  simp only
  rw [if_neg (show ¬ c < 0 by omega)]
  refine ⟨fun h => ?_, fun h => ?_, fun h => ?_⟩
  · rw [if_neg (show ¬ a < 0 by omega), absP (by omega) (by omega)]
    have := pos (b := a) (by omega) a2
    omega
  · rw [if_pos h, absN (by omega) (by omega)]
    have := pos (b := -a) (by omega) (by omega)
    omega
  · subst h
    rw [if_neg (show ¬ (0 : Int) < 0 by decide), absP (a := 0) (by decide) (by decide), if_neg (by omega)]
    have e : divv (0 * 2 ^ 30) c = 0 := by
      rw [hp]
      have hi := divZ_in (v := 0 * 1073741824) (d := c) (B := 0) (by omega) (by decide) (by omega) (by omega)
      have hn := divv_nr (v := 0 * 1073741824) (d := c) (by omega) (by omega)
      generalize divv (0 * 1073741824) c = t at *
      rcases Int.lt_trichotomy t 0 with h | h | h
      · have k := Int.mul_le_mul_of_nonneg_left (show t ≤ -1 by omega) (show 0 ≤ c by omega)
        omega
      · exact h
      · have k := Int.mul_le_mul_of_nonneg_left (show 1 ≤ t by omega) (show 0 ≤ c by omega)
        omega
    rw [e]; decide +kernel
end Go.Proofs.Ytbpccdagmaiblaa.Tr
