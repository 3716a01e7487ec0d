/- The runner: known calls of fx and wide; laws over symbols. -/
import Derived.Test.YtdgapclgapjhiaaPC
import Derived.Test.YtdgapclgapjhiaaPD
import Derived.Test.YtdgapclgapjhiaaQP
import Derived.Test.YtdgapclgapjhiaaSD

/- SxU -/
namespace Go.Proofs.Ytdgapclgapjhiaa.SX
open Go Go.RowKit

def sumL : List Int → Int
  | [] => 0
  | a :: l => sumL l + satv a
def anyL : List Int → Bool
  | [] => false
  | a :: l => anyL l || sath a
def dotL : List Int → Int
  | a :: b :: l => dotL l + satv a * satv b
  | _ => 0
def dotH : List Int → Bool
  | a :: b :: l => dotH l || sath a || sath b
  | _ => false
def inWB (z : Int) : Bool := ile (-170141183460469231731687303715884105728) z && !ile 170141183460469231731687303715884105728 z
/-- The sum of all, if each sum on the way (from acc on) is in bounds. -/
def wsum : Int → List Int → Option Int
  | acc, [] => some acc
  | acc, z :: l => bif inWB (acc + z) then wsum (acc + z) l else none
def rootOk (z : Int) : Bool := ile 0 z && ile z 85070591730234615856620279821087277056
/-- What the marks stand for. -/
def U (n : Nat) (l : List Int) : Int := match n with
  | 0 => (match l with | [a] => satv a | _ => 0)
  | 1 => (match l with | [a] => b2i (sath a) | _ => 0)
  | 2 => (match l with | [a, b, s] => satv (rnd (satv a * satv b) s.toNat) | _ => 0)
  | 3 => (match l with | [a, b, s] => b2i (sath a || sath b || sath (rnd (satv a * satv b) s.toNat)) | _ => 0)
  | 4 => (match l with | [a, b, s] => divv (satv a * 2 ^ s.toNat) (satv b) | _ => 0)
  | 5 => (match l with | [a, b, s] => b2i (sath a || sath b || divh (satv a * 2 ^ s.toNat) (satv b)) | _ => 0)
  | 6 => (match l with | [a, b, d] => divv (satv a * satv b) (satv d) | _ => 0)
  | 7 => (match l with | [a, b, d] => b2i (sath a || sath b || sath d || divh (satv a * satv b) (satv d)) | _ => 0)
  | 8 => (match l with | [a, b] => satv (satv a - satv b) | _ => 0)
  | 9 => (match l with | [a, b] => b2i (sath a || sath b || sath (satv a - satv b)) | _ => 0)
  | 10 => (match l with | [a, lo, hi] => clampv a lo hi | _ => 0)
  | 11 => (match l with | [a, lo, hi] => b2i (clamph a lo hi) | _ => 0)
  | 12 => (match l with | [a] => absv a | _ => 0)
  | 14 => satv (sumL l)
  | 15 => b2i (anyL l || sath (sumL l))
  | 16 => (match l with | s :: r => satv (rnd (dotL r) s.toNat) | _ => 0)
  | 17 => (match l with | s :: r => b2i (dotH r || sath (rnd (dotL r) s.toNat)) | _ => 0)
  | 20 => (match l with | [a, b] => a * b | _ => 0)
  | 21 => (match l with | [z] => wh z | _ => 0)
  | 22 => (match l with | [z] => wl z | _ => 0)
  | 23 => (match l with | [h, x] => h * 18446744073709551616 + x | _ => 0)
  | 24 => (match wsum 0 l with | some z => z | none => 0)
  | 25 => b2i (wsum 0 l).isSome
  | 26 => (match l with | [z] => (bif rootOk z then (rootN z.toNat : Nat) else 0) | _ => 0)
  | 27 => (match l with | [z] => b2i (rootOk z) | _ => 0)
  | 28 => (match l with | [x, y] => cmpI x y | _ => 0)
  | 30 => (match l with | [a] => sqw a | _ => 0)
  | 31 => (match l with | [a] => b2i (sath a || decide (satv a < 0)) | _ => 0)
  | _ => 0


theorem satR_ok {r : Rg} {z : Int} (h : within r z) : within (satR r) (satv z) := by
  unfold satR
  split
  · rename_i a b
    have e := h a b rfl
    rw [clampI_eq, clampI_eq]
    unfold mx satv
    refine within_some ?_ ?_
    · repeat' split
      all_goals omega
    · repeat' split
      all_goals omega
  · exact within_some (satv_lo z) (satv_hi z)
theorem sat_mx (z : Int) : within (some (-mx, mx)) (satv z) := within_some (satv_lo z) (satv_hi z)
theorem rnd_nr (v : Int) (s : Nat) : -((2 ^ s : Nat) : Int) ≤ 2 * (((2 ^ s : Nat) : Int) * rnd v s - v) ∧ 2 * (((2 ^ s : Nat) : Int) * rnd v s - v) ≤ ((2 ^ s : Nat) : Int) := by
  have hp : 0 < 2 ^ s := Nat.pow_pos (by omega)
  have h1 : 2 * (2 ^ s * rq v.natAbs s) ≤ 2 * v.natAbs + 2 ^ s ∧ 2 * v.natAbs ≤ 2 * (2 ^ s * rq v.natAbs s) + 2 ^ s := by
    unfold rq
    have h2 := Nat.div_add_mod (v.natAbs + halfOf s) (2 ^ s)
    have h3 := Nat.mod_lt (v.natAbs + halfOf s) hp
    have h4 : 2 * halfOf s = 2 ^ s ∨ (s = 0 ∧ halfOf s = 0) := by
      unfold halfOf
      split
      · rename_i h; exact .inr ⟨h, rfl⟩
      · left; rw [← Nat.pow_succ']; congr 1; omega
    rcases h4 with h4 | ⟨rfl, h4⟩
    · generalize halfOf s = hh at *
      generalize (v.natAbs + hh) / 2 ^ s = q at *
      generalize (v.natAbs + hh) % 2 ^ s = m at *
      generalize 2 ^ s * q = pq at *
      omega
    · rw [h4] at *
      simp at *
  have e : (((2 ^ s : Nat) : Int) * ((rq v.natAbs s : Nat) : Int)) = ((2 ^ s * rq v.natAbs s : Nat) : Int) := by simp
  by_cases hv : v < 0
  · have er : rnd v s = -((rq v.natAbs s : Nat) : Int) := by unfold rnd withSign; rw [decide_eq_true hv]; rfl
    rw [er, Int.mul_neg, e]
    clear e er
    generalize 2 ^ s * rq v.natAbs s = pq at *
    generalize 2 ^ s = P at *
    omega
  · have er : rnd v s = ((rq v.natAbs s : Nat) : Int) := by unfold rnd withSign; rw [decide_eq_false hv]; rfl
    rw [er, e]
    clear e er
    generalize 2 ^ s * rq v.natAbs s = pq at *
    generalize 2 ^ s = P at *
    omega
theorem rnd_fdiv {lo v hi : Int} (s : Nat) (h1 : lo ≤ v) (h2 : v ≤ hi) : lo.fdiv ((2 ^ s : Nat) : Int) ≤ rnd v s ∧ rnd v s ≤ hi.fdiv ((2 ^ s : Nat) : Int) + 1 := by
  have hp : (0 : Int) < ((2 ^ s : Nat) : Int) := by have : 0 < 2 ^ s := Nat.pow_pos (by omega); omega
  have hr := rnd_nr v s
  generalize ((2 ^ s : Nat) : Int) = p at *
  rw [Int.fdiv_eq_ediv_of_nonneg _ (by omega), Int.fdiv_eq_ediv_of_nonneg _ (by omega)]
  generalize rnd v s = q at *
  have e1 : lo / p < q + 1 := by
    rw [Int.ediv_lt_iff_lt_mul hp, Int.add_mul, Int.mul_comm q p]
    generalize p * q = pq at *
    omega
  have e2 : q - 1 ≤ hi / p := by
    rw [Int.le_ediv_iff_mul_le hp, Int.sub_mul, Int.mul_comm q p]
    generalize p * q = pq at *
    omega
  omega
theorem prodR_ok {s : Nat} {r q : Rg} {x y : Int} (h1 : within r x) (h2 : within q y) : within (prodR s r q) (rnd (x * y) s) := by
  unfold prodR
  split
  · rename_i a b c d
    have e1 := h1 a b rfl
    have e2 := h2 c d rfl
    have k := mul_ok4 e1.1 e1.2 e2.1 e2.2
    have := rnd_fdiv s k.1 k.2
    exact within_some this.1 this.2
  · exact within_none _
theorem divZ_pos {v d : Int} (hd : 1 ≤ d) : (0 ≤ v → 0 ≤ divZ v d ∧ divZ v d ≤ v / d + 1) ∧ (v ≤ 0 → -((-v) / d + 1) ≤ divZ v d ∧ divZ v d ≤ 0) := by
  have hw : (wh v < 0) ↔ v < 0 := by unfold wh; omega
  have dqb : ∀ n m : Nat, (dq n m : Nat) ≤ n / m + 1 := fun n m => by unfold dq; split <;> omega
  have hdn : decide (d < 0) = false := decide_eq_false (by omega)
  have cast : ∀ {x : Int}, 0 ≤ x → (((x.natAbs / d.natAbs : Nat)) : Int) = x / d := fun hx => by
    rw [Int.natCast_ediv, Int.natAbs_of_nonneg hx, Int.natAbs_of_nonneg (by omega)]
  constructor
  · intro h
    have := dqb v.natAbs d.natAbs
    have hc := cast h
    unfold divZ withSign
    rw [hdn, decide_eq_false (by rw [hw]; omega : ¬ wh v < 0)]
    simp only [bne_self_eq_false, Bool.false_eq_true, if_false]
    omega
  · intro h
    by_cases h0 : v = 0
    · subst h0
      have e : dq 0 d.natAbs = 0 := by
        unfold dq
        simp
        omega
      have hz : divZ 0 d = 0 := by
        unfold divZ withSign
        rw [show (0 : Int).natAbs = 0 from rfl, e]
        split <;> rfl
      rw [hz]; simp
    · have := dqb v.natAbs d.natAbs
      have hc := cast (x := -v) (by omega)
      rw [Int.natAbs_neg] at hc
      unfold divZ withSign
      rw [hdn, decide_eq_true (by rw [hw]; omega : wh v < 0)]
      simp only [Bool.true_bne, Bool.not_false, if_true]
      omega
theorem ratioR_ok {s : Nat} {r q : Rg} {x y : Int} (h1 : within r x) (h2 : within q y) : ∀ lo hi, ratioR s r q = some (lo, hi) → 1 ≤ y ∧ lo ≤ divZ (x * ((2 ^ s : Nat) : Int)) y ∧ divZ (x * ((2 ^ s : Nat) : Int)) y ≤ hi := by
  unfold ratioR
  intro lo hi h
  split at h
  · rename_i a b c d
    have e1 := h1 a b rfl
    have e2 := h2 c d rfl
    rw [ile_iff, ile_iff, ile_iff, Bool.cond_decide, Bool.cond_decide, Bool.cond_decide] at h
    split at h
    · rename_i hc
      have hp : (0 : Int) ≤ ((2 ^ s : Nat) : Int) := Int.natCast_nonneg _
      have hy : 1 ≤ y := by omega
      obtain ⟨k1, k2⟩ := divZ_pos (v := x * ((2 ^ s : Nat) : Int)) hy
      simp only [Option.some.injEq, Prod.mk.injEq] at h
      obtain ⟨h3, h4⟩ := h
      generalize ((2 ^ s : Nat) : Int) = p at *
      have mono : ∀ {u w : Int}, 0 ≤ w → u ≤ w → u / y ≤ w / c := fun {u w} hw huw => by
        have q1 : u / y ≤ w / y := Int.ediv_le_ediv (by omega) huw
        have q2 : w / y ≤ w / c := by
          have q3 := Int.mul_ediv_self_le (x := w) (k := y) (by omega)
          have q4 : 0 ≤ w / y := Int.ediv_nonneg hw (by omega)
          rw [Int.le_ediv_iff_mul_le (by omega)]
          have q5 : w / y * c ≤ w / y * y := Int.mul_le_mul_of_nonneg_left e2.1 q4
          rw [Int.mul_comm (w / y) y] at q5
          omega
        omega
      have xa : a * p ≤ x * p := Int.mul_le_mul_of_nonneg_right e1.1 hp
      have xb : x * p ≤ b * p := Int.mul_le_mul_of_nonneg_right e1.2 hp
      refine ⟨hy, ?_, ?_⟩
      · by_cases hx : 0 ≤ x
        · have xp : 0 ≤ x * p := Int.mul_nonneg hx hp
          have := (k1 xp).1
          split at h3
          · omega
          · subst h3
            have ap : a * p ≤ 0 := Int.mul_nonpos_of_nonpos_of_nonneg (by omega) hp
            have : 0 ≤ (-(a * p)).fdiv c := by
              rw [Int.fdiv_eq_ediv_of_nonneg _ (by omega)]; exact Int.ediv_nonneg (by omega) (by omega)
            omega
        · have xp : x * p ≤ 0 := Int.mul_nonpos_of_nonpos_of_nonneg (by omega) hp
          have := (k2 xp).1
          rw [if_neg (by omega)] at h3
          subst h3
          rw [Int.fdiv_eq_ediv_of_nonneg _ (by omega)]
          have := mono (u := -(x * p)) (w := -(a * p)) (by omega) (by omega)
          omega
      · by_cases hx : 0 ≤ x
        · have xp : 0 ≤ x * p := Int.mul_nonneg hx hp
          have := (k1 xp).2
          split at h4
          · have : x = 0 := by omega
            subst this
            have := (k2 (by simp)).2
            simp at *
            omega
          · subst h4
            rw [Int.fdiv_eq_ediv_of_nonneg _ (by omega)]
            have := mono (u := x * p) (w := b * p) (by omega) (by omega)
            omega
        · have xp : x * p ≤ 0 := Int.mul_nonpos_of_nonpos_of_nonneg (by omega) hp
          have := (k2 xp).2
          split at h4
          · omega
          · subst h4
            have : 0 ≤ (b * p).fdiv c := by
              rw [Int.fdiv_eq_ediv_of_nonneg _ (by omega)]; exact Int.ediv_nonneg (Int.mul_nonneg (by omega) hp) (by omega)
            omega
    · cases h
  · cases h
theorem div_range {s : Nat} {r q : Rg} {x y : Int} (h1 : within r x) (h2 : within q y) : within (satR (ratioR s r q)) (divv (x * ((2 ^ s : Nat) : Int)) y) := by
  cases hr : ratioR s r q with
  | none =>
    unfold divv
    split
    · exact within_some (side_bd _).1 (side_bd _).2
    · exact sat_mx _
  | some p =>
    obtain ⟨lo, hi⟩ := p
    obtain ⟨hy, k1, k2⟩ := ratioR_ok h1 h2 lo hi hr
    unfold divv
    rw [if_neg (by omega)]
    exact satR_ok (within_some k1 k2)
theorem cap_ok {a b : Int} (s : Nat) (h0 : 0 ≤ a) (h : a ≤ b) : divv (satv a * ((2 ^ s : Nat) : Int)) (satv b) ≤ ((2 ^ s : Nat) : Int) := by
  have k := satv_mono h
  have k0 : 0 ≤ satv a := by unfold satv; (repeat' split) <;> omega
  have hp : (0 : Int) ≤ ((2 ^ s : Nat) : Int) := Int.natCast_nonneg _
  generalize satv a = x at *
  generalize satv b = y at *
  unfold divv
  split
  · rename_i hy
    have : x = 0 := by omega
    subst this
    rw [Int.zero_mul, side_zero]; exact hp
  · have hy : 1 ≤ y := by omega
    have hxp : 0 ≤ x * ((2 ^ s : Nat) : Int) := Int.mul_nonneg k0 hp
    have : divZ (x * ((2 ^ s : Nat) : Int)) y ≤ ((2 ^ s : Nat) : Int) := by
      have hw : ¬ (wh (x * ((2 ^ s : Nat) : Int)) < 0) := by unfold wh; omega
      unfold divZ withSign
      rw [decide_eq_false hw, decide_eq_false (by omega : ¬ y < 0)]
      simp only [bne_self_eq_false, Bool.false_eq_true, if_false]
      have hn : (x * ((2 ^ s : Nat) : Int)).natAbs ≤ 2 ^ s * y.natAbs := by
        rw [Int.natAbs_mul, Nat.mul_comm, Int.natAbs_natCast]
        exact Nat.mul_le_mul (Nat.le_refl _) (by omega)
      generalize (x * ((2 ^ s : Nat) : Int)).natAbs = n at *
      generalize 2 ^ s = p at *
      have hq : n / y.natAbs ≤ p := Nat.div_le_of_le_mul (by rw [Nat.mul_comm]; exact hn)
      have hdm := Nat.div_add_mod n y.natAbs
      have : dq n y.natAbs ≤ p := by
        unfold dq
        split
        · rename_i hr
          rcases Nat.lt_or_ge (n / y.natAbs) p with hl | hl
          · omega
          · have e : n / y.natAbs = p := by omega
            rw [e, Nat.mul_comm] at hdm
            omega
        · exact hq
      omega
    have h2 := satv_mono this
    have h3 : satv ((2 ^ s : Nat) : Int) ≤ ((2 ^ s : Nat) : Int) := by unfold satv; (repeat' split) <;> omega
    omega
theorem cap_nn {a b : Int} (s : Nat) (h0 : 0 ≤ a) (h : a ≤ b) : 0 ≤ divv (satv a * ((2 ^ s : Nat) : Int)) (satv b) := by
  have k := satv_mono h
  have k0 : 0 ≤ satv a := by unfold satv; (repeat' split) <;> omega
  have hp : (0 : Int) ≤ ((2 ^ s : Nat) : Int) := Int.natCast_nonneg _
  generalize satv a = x at *
  generalize satv b = y at *
  unfold divv
  split
  · rename_i hy
    have : x = 0 := by omega
    subst this
    rw [Int.zero_mul, side_zero]; omega
  · have hxp : 0 ≤ x * ((2 ^ s : Nat) : Int) := Int.mul_nonneg k0 hp
    have := ((divZ_pos (v := x * ((2 ^ s : Nat) : Int)) (d := y) (by omega)).1 hxp).1
    generalize divZ (x * ((2 ^ s : Nat) : Int)) y = q at *
    unfold satv
    (repeat' split) <;> omega
theorem sumR_ok {g : Sg} : ∀ {xs : List A} {rs : List Rg}, Rs g xs rs → within (sumR rs) (sumL (xs.map (A.val g)))
  | [], [], _ => within_some (Int.le_refl _) (Int.le_refl _)
  | a :: l, r :: rs, ⟨h1, h2⟩ => by
    have k := sumR_ok h2
    have k1 := satR_ok h1
    unfold sumR
    split
    · rename_i p q c d e1 e2
      have e1 := k _ _ e1
      have e2 := k1 _ _ e2
      exact within_some (by simp only [List.map, sumL]; omega) (by simp only [List.map, sumL]; omega)
    · exact within_none _
  | [], _ :: _, h => h.elim
  | _ :: _, [], h => h.elim
theorem sqw_bd (a : Int) : 0 ≤ sqw a ∧ sqw a ≤ 35184372088833 := by
  unfold sqw
  split
  · omega
  · have hm : (satv a).natAbs * 2 ^ 30 ≤ 1237940039285380274899124224 := by
      have := satv_lo a
      have := satv_hi a
      have : (satv a).natAbs * 2 ^ 30 ≤ 1152921504606846976 * 2 ^ 30 := Nat.mul_le_mul_right _ (by omega)
      omega
    have : isq ((satv a).natAbs * 2 ^ 30) ≤ 35184372088832 := isq_le (by omega)
    unfold rootN
    split <;> omega
instance : UOk U where
  clamp a lo hi h := by
    show clampv a lo hi = _
    unfold clampv
    rw [if_neg (by omega)]
  ok := fun g le n xs rs hle h => by
    unfold rngU
    split
    · match xs, h with
      | [a], ⟨h1, _⟩ => exact satR_ok h1
    · obtain ⟨h1, h2, _⟩ := h
      exact satR_ok (prodR_ok (satR_ok h1) (satR_ok h2))
    · rename_i a b s r1 r2 _
      obtain ⟨h1, h2, _⟩ := h
      have hd := div_range (s := s) (satR_ok h1) (satR_ok h2)
      have e : U 4 (List.map (A.val g) [a, b, .k (.ofNat s)]) = divv (satv (a.val g) * ((2 ^ s : Nat) : Int)) (satv (b.val g)) := by
        show divv (satv (a.val g) * 2 ^ s) (satv (b.val g)) = _
        rw [show (((2 ^ s : Nat)) : Int) = 2 ^ s by simp]
      rw [e]
      unfold capR
      split
      · rename_i lo hi a1 b1 hr
        have k := hd _ _ hr
        have k1 := h1 _ _ rfl
        cases hc : (le a b && ile 0 a1)
        · exact within_some k.1 k.2
        · rw [Bool.and_eq_true, ile_iff, decide_eq_true_eq] at hc
          have := cap_ok s (by omega) (hle _ _ hc.1)
          have := cap_nn s (by omega) (hle _ _ hc.1)
          rw [imin_eq, imax_eq]
          refine within_some ?_ ?_ <;> split <;> omega
      · exact hd
    · match xs, h with
      | [a, b], ⟨h1, h2, _⟩ =>
        refine satR_ok ?_
        split
        · rename_i e1 e2
          have e1 := satR_ok h1 _ _ e1
          have e2 := satR_ok h2 _ _ e2
          exact within_some (by omega) (by omega)
        · exact within_none _
    · rename_i a lo hi r _ _
      obtain ⟨h1, _⟩ := h
      show within _ (clampv (a.val g) lo hi)
      unfold clampR
      split
      · rename_i p q
        have e := h1 _ _ rfl
        rw [ile_iff, Bool.cond_decide]
        split
        · unfold clampv
          rw [clampI_eq, clampI_eq]
          refine within_some ?_ ?_
          · repeat' split
            all_goals omega
          · repeat' split
            all_goals omega
        · exact within_none _
      · rw [ile_iff, Bool.cond_decide]
        split
        · unfold clampv
          refine within_some ?_ ?_
          · repeat' split
            all_goals omega
          · repeat' split
            all_goals omega
        · exact within_none _
    · match xs, h with
      | [a], ⟨h1, _⟩ =>
        show within _ (absv (a.val g))
        unfold absR
        split
        · rename_i p q
          have e := h1 _ _ rfl
          rw [ile_iff, ile_iff, Bool.cond_decide, Bool.cond_decide]
          simp only [imin_eq, imax_eq]
          unfold absv mx
          split
          · refine within_some ?_ ?_
            · repeat' split
              all_goals omega
            · repeat' split
              all_goals omega
          · split
            · refine within_some ?_ ?_
              · repeat' split
                all_goals omega
              · repeat' split
                all_goals omega
            · refine within_some ?_ ?_
              · repeat' split
                all_goals omega
              · repeat' split
                all_goals omega
        · unfold absv mx
          refine within_some ?_ ?_
          · repeat' split
            all_goals omega
          · repeat' split
            all_goals omega
    · exact satR_ok (sumR_ok h)
    · unfold U
      simp only
      split
      · exact within_some (sqw_bd _).1 (sqw_bd _).2
      · exact within_some (by decide) (by decide)
    · unfold U
      simp only
      split
      · unfold divv
        split
        · exact within_some (side_bd _).1 (side_bd _).2
        · exact sat_mx _
      · exact within_some (by decide) (by decide)
    · unfold U
      simp only
      split
      · exact sat_mx _
      · exact within_some (by decide) (by decide)
    · exact within_none _
end Go.Proofs.Ytdgapclgapjhiaa.SX

/- SxM -/
namespace Go.Proofs.Ytdgapclgapjhiaa.SX
open Go Go.RowKit

/-! ### A flag -/
def orA (h x : A) (st : St) : A × St := match h with
  | .k z => bif ieq z 1 then (.k 1, st) else (x, st)
  | .x n => match x with
    | .k z => bif ieq z 1 then (.k 1, st) else (.x n, st)
    | .x m => app U .sel [.x n, .k 1, .x m] st
theorem orA_ok {g : Sg} {h x r : A} {st st' : St} (ho : orA h x st = (r, st')) (hg : Good U g st') :
    Good U g st ∧ Same st st' ∧ ieq (r.val g) 1 = (ieq (h.val g) 1 || ieq (x.val g) 1) := by
  unfold orA at ho
  split at ho
  · rename_i z
    cases hz : ieq z 1
    · rw [hz] at ho; cases ho
      exact ⟨hg, Same.refl _, by simp [A.val, hz]⟩
    · rw [hz] at ho; cases ho
      exact ⟨hg, Same.refl _, by simp [A.val, hz]; decide⟩
  · rename_i n
    split at ho
    · rename_i z
      cases hz : ieq z 1
      · rw [hz] at ho; cases ho
        exact ⟨hg, Same.refl _, by simp [A.val, hz]⟩
      · rw [hz] at ho; cases ho
        exact ⟨hg, Same.refl _, by simp [A.val, hz]; decide⟩
    · rename_i m
      obtain ⟨h1, h2, h3⟩ := app_ok ho hg
      refine ⟨h1, h2, ?_⟩
      rw [h3]
      simp only [List.map, mean, val_k]
      cases ieq (A.val g (.x n)) 1
      · simp
      · simp [ieq]
/-! ### Values that are clamped nowhere -/
def inMx (r : Rg) : Bool := match r with
  | some (a, b) => ile (-mx) a && ile b mx
  | none => false
theorem inMx_ok {r : Rg} {z : Int} (h : inMx r = true) (hw : within r z) : -1152921504606846976 ≤ z ∧ z ≤ 1152921504606846976 := by
  unfold inMx at h
  split at h
  · rename_i a b
    have e := hw a b rfl
    rw [Bool.and_eq_true, ile_iff, ile_iff, decide_eq_true_eq, decide_eq_true_eq] at h
    unfold mx at h
    omega
  · cases h
def rawAdd : Rg → Rg → Rg
  | some (a, b), some (c, d) => some (a + c, b + d)
  | _, _ => none
def rawSub : Rg → Rg → Rg
  | some (a, b), some (c, d) => some (a - d, b - c)
  | _, _ => none
theorem rawAdd_ok {r q : Rg} {x y : Int} (h1 : within r x) (h2 : within q y) : within (rawAdd r q) (x + y) := by
  unfold rawAdd
  split
  · have e1 := h1 _ _ rfl
    have e2 := h2 _ _ rfl
    exact within_some (by omega) (by omega)
  · exact within_none _
theorem rawSub_ok {r q : Rg} {x y : Int} (h1 : within r x) (h2 : within q y) : within (rawSub r q) (x - y) := by
  unfold rawSub
  split
  · have e1 := h1 _ _ rfl
    have e2 := h2 _ _ rfl
    exact within_some (by omega) (by omega)
  · exact within_none _
def inBnd (lo hi : Int) (r : Rg) : Bool := match r with
  | some (a, b) => ile lo a && ile b hi
  | none => false
theorem inBnd_ok {lo hi : Int} {r : Rg} {z : Int} (h : inBnd lo hi r = true) (hw : within r z) : lo ≤ z ∧ z ≤ hi := by
  unfold inBnd at h
  split at h
  · rename_i a b
    have e := hw a b rfl
    rw [Bool.and_eq_true, ile_iff, ile_iff, decide_eq_true_eq, decide_eq_true_eq] at h
    omega
  · cases h
def above (hi : Int) (r : Rg) : Bool := match r with
  | some (a, _) => ile hi a
  | none => false
def under (lo : Int) (r : Rg) : Bool := match r with
  | some (_, b) => ile b lo
  | none => false
theorem above_ok {hi : Int} {r : Rg} {z : Int} (h : above hi r = true) (hw : within r z) : hi ≤ z := by
  unfold above at h
  split at h
  · have e := hw _ _ rfl
    rw [ile_iff, decide_eq_true_eq] at h
    omega
  · cases h
theorem under_ok {lo : Int} {r : Rg} {z : Int} (h : under lo r = true) (hw : within r z) : z ≤ lo := by
  unfold under at h
  split at h
  · have e := hw _ _ rfl
    rw [ile_iff, decide_eq_true_eq] at h
    omega
  · cases h
inductive Sm where
  | same (a : A)
  | op (p : Pr) (xa : List A)
  | no
def both (st : St) (f : Rg → Rg → Rg) (a b : A) : Bool := inMx (rangeOf st a) && inMx (rangeOf st b) && inMx (f (rangeOf st a) (rangeOf st b))
def simpV (st : St) : Nat → List A → Sm
  | 0, [a] => bif inMx (rangeOf st a) then .same a else .no
  | 10, [a, .k lo, .k hi] => bif inBnd lo hi (rangeOf st a) then .same a else bif ile lo hi && above hi (rangeOf st a) then .same (.k hi) else bif ile lo hi && under lo (rangeOf st a) then .same (.k lo) else bif ile lo hi && above lo (rangeOf st a) then .op .min [a, .k hi] else bif ile lo hi && under hi (rangeOf st a) then .op .max [a, .k lo] else .no
  | 8, [a, b] => bif both st rawSub a b then .op (.iop .sub .i64) [a, b] else .no
  | 14, [a, b] => bif both st rawAdd a b then .op (.iop .add .i64) [a, b] else .no
  | _, _ => .no
def noHit (st : St) : Nat → List A → Bool
  | 1, [a] => inMx (rangeOf st a)
  | 11, [a, .k lo, .k hi] => inBnd lo hi (rangeOf st a)
  | 31, [a] => inBnd 0 mx (rangeOf st a)
  | 9, [a, b] => both st rawSub a b
  | 15, [a, b] => both st rawAdd a b
  | 3, [a, b, .k (.ofNat s)] => both st (prodR s) a b
  | 5, [a, b, .k (.ofNat s)] => both st (ratioR s) a b
  | _, _ => false
theorem both_ok {g : Sg} {st : St} (hg : Good U g st) {f : Rg → Rg → Rg} {a b : A} (h : both st f a b = true) :
    (-1152921504606846976 ≤ a.val g ∧ a.val g ≤ 1152921504606846976) ∧ (-1152921504606846976 ≤ b.val g ∧ b.val g ≤ 1152921504606846976) ∧ inMx (f (rangeOf st a) (rangeOf st b)) = true := by
  unfold both at h
  rw [Bool.and_eq_true, Bool.and_eq_true] at h
  exact ⟨inMx_ok h.1.1 (range_ok hg a), inMx_ok h.1.2 (range_ok hg b), h.2⟩
theorem wrap_small {z : Int} (h1 : -9223372036854775808 ≤ z) (h2 : z ≤ 9223372036854775807) : wrapF .i64 z = z := by
  unfold wrapF
  rw [(inR_i64 z).2 ⟨h1, h2⟩]; rfl
def SmOk (g : Sg) (n : Nat) (xa : List A) : Sm → Prop
  | .same a => a.val g = U n (xa.map (A.val g))
  | .op p ys => mean U p (ys.map (A.val g)) = U n (xa.map (A.val g))
  | .no => True
theorem simpV_ok {g : Sg} {st : St} (hg : Good U g st) {n : Nat} {xa : List A} : SmOk g n xa (simpV st n xa) := by
  unfold simpV
  split
  · rename_i a
    cases hb : inMx (rangeOf st a)
    · trivial
    · have := inMx_ok hb (range_ok hg a)
      simp only [cond_true]
      exact (satv_in this.1 this.2).1.symm
  · rename_i a lo hi
    cases hb : inBnd lo hi (rangeOf st a)
    · rw [cond_false]
      cases h1 : (ile lo hi && above hi (rangeOf st a))
      · rw [cond_false]
        cases h2 : (ile lo hi && under lo (rangeOf st a))
        · rw [cond_false]
          cases h3 : (ile lo hi && above lo (rangeOf st a))
          · rw [cond_false]
            cases h4 : (ile lo hi && under hi (rangeOf st a))
            · trivial
            · rw [cond_true]
              rw [Bool.and_eq_true, ile_iff, decide_eq_true_eq] at h4
              have := under_ok h4.2 (range_ok hg a)
              show (bif ile lo (a.val g) then a.val g else lo) = clampv (a.val g) lo hi
              rw [ile_iff, Bool.cond_decide]
              unfold clampv
              (repeat' split) <;> omega
          · rw [cond_true]
            rw [Bool.and_eq_true, ile_iff, decide_eq_true_eq] at h3
            have := above_ok h3.2 (range_ok hg a)
            show (bif ile (a.val g) hi then a.val g else hi) = clampv (a.val g) lo hi
            rw [ile_iff, Bool.cond_decide]
            unfold clampv
            (repeat' split) <;> omega
        · rw [cond_true]
          rw [Bool.and_eq_true, ile_iff, decide_eq_true_eq] at h2
          have := under_ok h2.2 (range_ok hg a)
          show lo = clampv (a.val g) lo hi
          unfold clampv
          (repeat' split) <;> omega
      · rw [cond_true]
        rw [Bool.and_eq_true, ile_iff, decide_eq_true_eq] at h1
        have := above_ok h1.2 (range_ok hg a)
        show hi = clampv (a.val g) lo hi
        unfold clampv
        (repeat' split) <;> omega
    · have := inBnd_ok hb (range_ok hg a)
      simp only [cond_true]
      show a.val g = clampv (a.val g) lo hi
      unfold clampv
      rw [if_neg (by omega), if_neg (by omega), if_neg (by omega)]
  · rename_i a b
    cases hb : both st rawSub a b
    · trivial
    · obtain ⟨h1, h2, h3⟩ := both_ok hg hb
      have h4 := inMx_ok h3 (rawSub_ok (range_ok hg a) (range_ok hg b))
      simp only [cond_true]
      show wrapF .i64 (a.val g - b.val g) = satv (satv (a.val g) - satv (b.val g))
      rw [(satv_in h1.1 h1.2).1, (satv_in h2.1 h2.2).1, (satv_in h4.1 h4.2).1, wrap_small (by omega) (by omega)]
  · rename_i a b
    cases hb : both st rawAdd a b
    · trivial
    · obtain ⟨h1, h2, h3⟩ := both_ok hg hb
      have h4 := inMx_ok h3 (rawAdd_ok (range_ok hg a) (range_ok hg b))
      simp only [cond_true]
      show wrapF .i64 (a.val g + b.val g) = satv (0 + satv (b.val g) + satv (a.val g))
      rw [(satv_in h1.1 h1.2).1, (satv_in h2.1 h2.2).1, show 0 + b.val g + a.val g = a.val g + b.val g by omega, (satv_in h4.1 h4.2).1, wrap_small (by omega) (by omega)]
  · trivial
theorem noHit_ok {g : Sg} {st : St} (hg : Good U g st) {n : Nat} {xa : List A} (h : noHit st n xa = true) : ieq (U n (xa.map (A.val g))) 1 = false := by
  unfold noHit at h
  split at h
  · rename_i a
    have := inMx_ok h (range_ok hg a)
    show ieq (b2i (sath (a.val g))) 1 = false
    rw [ieq_b2i, (satv_in this.1 this.2).2]
  · rename_i a lo hi
    have := inBnd_ok h (range_ok hg a)
    show ieq (b2i (clamph (a.val g) lo hi)) 1 = false
    rw [ieq_b2i]
    unfold clamph
    rw [decide_eq_false (by omega), decide_eq_false (by omega), decide_eq_false (by omega)]
    rfl
  · rename_i a
    have := inBnd_ok h (range_ok hg a)
    unfold mx at this
    show ieq (b2i (sath (a.val g) || decide (satv (a.val g) < 0))) 1 = false
    rw [ieq_b2i, (satv_in (by omega) this.2).2, (satv_in (by omega) this.2).1, decide_eq_false (by omega)]
    rfl
  · rename_i a b
    obtain ⟨h1, h2, h3⟩ := both_ok hg h
    have h4 := inMx_ok h3 (rawSub_ok (range_ok hg a) (range_ok hg b))
    show ieq (b2i (sath (a.val g) || sath (b.val g) || sath (satv (a.val g) - satv (b.val g)))) 1 = false
    rw [ieq_b2i, (satv_in h1.1 h1.2).1, (satv_in h2.1 h2.2).1, (satv_in h1.1 h1.2).2, (satv_in h2.1 h2.2).2, (satv_in h4.1 h4.2).2]
    rfl
  · rename_i a b
    obtain ⟨h1, h2, h3⟩ := both_ok hg h
    have h4 := inMx_ok h3 (rawAdd_ok (range_ok hg a) (range_ok hg b))
    show ieq (b2i ((false || sath (b.val g) || sath (a.val g)) || sath (0 + satv (b.val g) + satv (a.val g)))) 1 = false
    rw [ieq_b2i, (satv_in h1.1 h1.2).1, (satv_in h2.1 h2.2).1, (satv_in h1.1 h1.2).2, (satv_in h2.1 h2.2).2, show 0 + b.val g + a.val g = a.val g + b.val g by omega, (satv_in h4.1 h4.2).2]
    rfl
  · rename_i a b s
    obtain ⟨h1, h2, h3⟩ := both_ok hg h
    have h4 := inMx_ok h3 (prodR_ok (range_ok hg a) (range_ok hg b))
    show ieq (b2i (sath (a.val g) || sath (b.val g) || sath (rnd (satv (a.val g) * satv (b.val g)) s))) 1 = false
    rw [ieq_b2i, (satv_in h1.1 h1.2).1, (satv_in h2.1 h2.2).1, (satv_in h1.1 h1.2).2, (satv_in h2.1 h2.2).2, (satv_in h4.1 h4.2).2]
    rfl
  · rename_i a b s
    obtain ⟨h1, h2, h3⟩ := both_ok hg h
    show ieq (b2i (sath (a.val g) || sath (b.val g) || divh (satv (a.val g) * 2 ^ s) (satv (b.val g)))) 1 = false
    rw [ieq_b2i, (satv_in h1.1 h1.2).1, (satv_in h2.1 h2.2).1, (satv_in h1.1 h1.2).2, (satv_in h2.1 h2.2).2]
    rw [show (2 ^ s : Int) = ((2 ^ s : Nat) : Int) by simp]
    have key : ∀ r, ratioR s (rangeOf st a) (rangeOf st b) = r → inMx r = true → divh (a.val g * ((2 ^ s : Nat) : Int)) (b.val g) = false := fun r hr hm => by
      match r, hm with
      | some (lo, hi), hm =>
        obtain ⟨k0, k1, k2⟩ := ratioR_ok (range_ok hg a) (range_ok hg b) lo hi hr
        have := inMx_ok hm (within_some k1 k2)
        unfold divh
        rw [if_neg (by omega)]
        exact (satv_in this.1 this.2).2
    rw [key _ rfl h3]
    rfl
  · cases h
def valA (n : Nat) (xa : List A) (st : St) : A × St := match allK xa with
  | some l => (.k (U n l), st)
  | none => match simpV st n xa with
    | .same a => (a, st)
    | .op p ys => app U p ys st
    | .no => app U (.u n) xa st
def hitA (n : Nat) (xa : List A) (st : St) : A × St := match allK xa with
  | some l => (.k (U n l), st)
  | none => bif noHit st n xa then (.k 0, st) else app U (.u n) xa st
theorem valA_ok {g : Sg} {n : Nat} {xa : List A} {r : A} {st st' : St} (h : valA n xa st = (r, st')) (hg : Good U g st') :
    Good U g st ∧ Same st st' ∧ r.val g = U n (xa.map (A.val g)) := by
  unfold valA at h
  split at h
  · rename_i l hl
    cases h
    exact ⟨hg, Same.refl _, by rw [allK_val hl]; rfl⟩
  · split at h
    · rename_i a hs
      cases h
      have := simpV_ok hg (n := n) (xa := xa)
      rw [hs] at this
      exact ⟨hg, Same.refl _, this⟩
    · rename_i p ys hs
      obtain ⟨h1, h2, h3⟩ := app_ok h hg
      have := simpV_ok h1 (n := n) (xa := xa)
      rw [hs] at this
      exact ⟨h1, h2, h3.trans this⟩
    · exact app_ok h hg
theorem hitA_ok {g : Sg} {n : Nat} {xa : List A} {r : A} {st st' : St} (h : hitA n xa st = (r, st')) (hg : Good U g st') :
    Good U g st ∧ Same st st' ∧ ieq (r.val g) 1 = ieq (U n (xa.map (A.val g))) 1 := by
  unfold hitA at h
  split at h
  · rename_i l hl
    cases h
    exact ⟨hg, Same.refl _, by rw [allK_val hl]; rfl⟩
  · cases hb : noHit st n xa
    · rw [hb] at h
      obtain ⟨h1, h2, h3⟩ := app_ok h hg
      exact ⟨h1, h2, by rw [h3]; rfl⟩
    · rw [hb] at h
      cases h
      exact ⟨hg, Same.refl _, by rw [noHit_ok hg hb]; rfl⟩
/-- A number without its sign; where it is small, its sign is asked for. -/
def absA (a : A) (st : St) : A × St := match a with
  | .k z => (.k (absv z), st)
  | .x n => bif inMx (rangeOf st (.x n)) then (match lssA U (.x n) (.k 0) st with
      | (r, st1) => match decA r st1 with
        | (c, st2) => bif c then app U (.iop .sub .i64) [.k 0, .x n] st2 else (.x n, st2))
    else app U (.u 12) [.x n] st
theorem absA_ok {g : Sg} {a r : A} {st st' : St} (h : absA a st = (r, st')) (hg : Good U g st') : Good U g st ∧ Same st st' ∧ r.val g = absv (a.val g) := by
  unfold absA at h
  split at h
  · cases h; exact ⟨hg, Same.refl _, rfl⟩
  · rename_i n
    cases hb : inMx (rangeOf st (.x n))
    · rw [hb, cond_false] at h
      exact app_ok h hg
    · rw [hb] at h
      rw [cond_true] at h
      split at h
      rename_i q st1 h1
      split at h
      rename_i c st2 h2
      cases c
      · cases h
        obtain ⟨k1, k2, k3⟩ := decA_ok h2 hg
        obtain ⟨l1, l2, l3⟩ := lssA_ok h1 k1
        have := inMx_ok hb (range_ok l1 _)
        refine ⟨l1, l2.trans k2, ?_⟩
        rw [k3] at l3
        have l3 := of_decide_eq_false l3.symm
        rw [val_k] at l3
        generalize (A.x n).val g = z at *
        unfold absv
        rw [if_neg (by omega), if_neg (by omega)]
        omega
      · rw [cond_true] at h
        obtain ⟨m1, m2, m3⟩ := app_ok h hg
        obtain ⟨k1, k2, k3⟩ := decA_ok h2 m1
        obtain ⟨l1, l2, l3⟩ := lssA_ok h1 k1
        have := inMx_ok hb (range_ok l1 _)
        refine ⟨l1, (l2.trans k2).trans m2, ?_⟩
        rw [k3] at l3
        have l3 := of_decide_eq_true l3.symm
        rw [val_k] at l3
        rw [m3]
        show wrapF .i64 (0 - (A.x n).val g) = _
        generalize (A.x n).val g = z at *
        rw [wrap_small (by omega) (by omega)]
        unfold absv
        rw [if_neg (by omega), if_neg (by omega)]
        omega
def flagA (n o : Nat) (pv ph : Nat) (xa : List A) (st : St) : Option (V × St) :=
  match hget st.heap n with
  | none => none
  | some bk => match lkL bk.cells o with
    | some (.b h) => (match valA pv xa st with
      | (rv, st1) => match hitA ph xa st1 with
        | (rh, st2) => match orA h rh st2 with
          | (h', st3) => some (.w (.c (.i .i64 rv)), { st3 with heap := hset st3.heap n ⟨bk.cells.set o (.b h'), bk.ty⟩ }))
    | _ => none
theorem lkL_lt {α : Type} {l : List α} {i : Nat} {x : α} (h : lkL l i = some x) : i < l.length := (List.getElem?_eq_some_iff.1 (lkL_get h)).1
theorem DL.set {g : Sg} {r : Rho} {l : List C} {vs : List Value} (h : DL g r l vs) (o : Nat) {c : C} {v : Value} (hc : c.den g r = some v) : DL g r (l.set o c) (vs.set o v) := by
  unfold DL at *
  rw [List.map_set, List.map_set, h, hc]
/-- A flag that a call sets where something has been clamped: memory before it and behind it. -/
theorem flag_mem {g : Sg} {st : St} {n o : Nat} {bk : Bk} {h h' : A} (hb : hget st.heap n = some bk) (hl : lkL bk.cells o = some (.b h)) {r : Rho} {w : World} (hI : Inv g r st w) {q : Nat} (hq : r n = some q) {st' : St}
    (hst : st'.heap = hset st.heap n ⟨bk.cells.set o (.b h'), bk.ty⟩) (hnx : st'.next = st.next) (hrs : st'.resv = st.resv) :
    Fl q o (ieq (h.val g) 1) w ∧ ∀ w', FlW q o (ieq (h'.val g) 1) w w' → Inv g r st' w' ∧ Ext r w r w' := by
  obtain ⟨q', vs, hq', hw, hD⟩ := hI.holds n bk hb
  rw [hq] at hq'; cases hq'
  obtain ⟨u, hu, hd⟩ := hD.get hl
  have hu' : u = .bool (ieq (h.val g) 1) := (Option.some.inj hd).symm
  have hF : Fl q o (ieq (h.val g) 1) w := ⟨by rw [cell_of_heap hw, hu, hu'], by simp [World.frozen?, hw], hI.lt n q hq⟩
  refine ⟨hF, fun w' hk => ⟨⟨?_, hI.inj, ?_, ?_, ?_⟩, ⟨Sub.refl _, fun _ _ h => .inl h, hk.size, ?_, ?_, ?_, ?_⟩⟩⟩
  · intro m b hm
    rw [hst, hget_hset] at hm
    by_cases e : m = n
    · subst e
      simp at hm; subst hm
      refine ⟨q, vs.set o (.bool (ieq (h'.val g) 1)), hq, ?_, hD.set o rfl⟩
      rw [hk.out.block q hF.lt, set_block hw]
      simp
    · simp [e] at hm
      obtain ⟨b', us, k1, k2, k3⟩ := hI.holds m b hm
      refine ⟨b', us, k1, ?_, k3⟩
      rw [hk.block (hI.lt m b' k1) (fun e' => e (hI.inj m n b' k1 (by rw [e']; exact hq)))]
      exact k2
  · rw [hnx, hrs]; exact hI.fresh
  · intro m b hm; exact Nat.lt_of_lt_of_le (hI.lt m b hm) hk.size
  · rw [hnx, hrs]; exact hI.rlt
  · intro b hb hn
    exact hk.block hb (fun e => hn n (e ▸ hq))
  · exact hk.out.os
  · exact hk.out.tape
  · exact hk.out.output
theorem flagA_ok {g : Sg} {n o pv ph : Nat} {xa : List A} {st st' : St} {v : V} (h : flagA n o pv ph xa st = some (v, st')) (hg : Good U g st') :
    Good U g st ∧ ∃ bk hb rv, v = .w (.c (.i .i64 rv)) ∧ rv.val g = U pv (xa.map (A.val g)) ∧ hget st.heap n = some bk ∧ lkL bk.cells o = some (.b hb) ∧
      ∀ r w, Inv g r st w → ∀ q, r n = some q → Fl q o (ieq (hb.val g) 1) w ∧ ∀ w', FlW q o (ieq (hb.val g) 1 || ieq (U ph (xa.map (A.val g))) 1) w w' → Inv g r st' w' ∧ Ext r w r w' := by
  unfold flagA at h
  split at h
  · cases h
  · rename_i bk hbk
    split at h
    · rename_i hb hl
      split at h
      rename_i rv st1 h1
      split at h
      rename_i rh st2 h2
      split at h
      rename_i h' st3 h3
      cases h
      have hg3 : Good U g st3 := ⟨hg.defs, hg.cs, hg.ci, hg.rg, hg.ok⟩
      obtain ⟨g2, s3, e3⟩ := orA_ok h3 hg3
      obtain ⟨g1, s2, e2⟩ := hitA_ok h2 g2
      obtain ⟨g0, s1, e1⟩ := valA_ok h1 g1
      have hs := (s1.trans s2).trans s3
      refine ⟨g0, bk, hb, rv, rfl, e1, hbk, hl, fun r w hI q hq => ?_⟩
      obtain ⟨k1, k2⟩ := flag_mem (h' := h') (st' := { st3 with heap := hset st3.heap n ⟨bk.cells.set o (.b h'), bk.ty⟩ }) hbk hl hI hq (by rw [hs.heap]) hs.next hs.resv
      refine ⟨k1, fun w' hk => k2 w' ?_⟩
      rw [e3, e2]; exact hk
    · cases h

/-! ### Each call -/
abbrev Said (g : Sg) (f : FuncId) (vs : List Value) (st' : St) (v : V) (r : Rho) (w : World) : Prop :=
  Calls Try.prog f ⟨vs⟩ w fun e w' => ∃ r' u, e = .returned u ∧ v.Den g r' u ∧ Inv g r' st' w' ∧ Ext r w r' w'
theorem flag_call {g : Sg} {f : FuncId} {n o pv ph : Nat} {xa : List A} {st st' : St} {v : V} {vs : List Value} (h : flagA n o pv ph xa st = some (v, st')) (hg : Good U g st') :
    Good U g st ∧ ∀ r w x, Inv g r st w → V.Den g r (.w (.c (.p n o))) x → (inK .i64 (U pv (xa.map (A.val g)))) →
      (∀ q hb, r n = some q → Fl q o hb w → Calls Try.prog f ⟨.pointer (some ⟨q, o, none⟩) :: vs⟩ w fun e w' => e = .returned (.int .i64 (U pv (xa.map (A.val g)))) ∧ FlW q o (hb || ieq (U ph (xa.map (A.val g))) 1) w w') →
      Said g f (x :: vs) st' v r w := by
  obtain ⟨h1, bk, hb, rv, rfl, e1, _, _, h2⟩ := flagA_ok h hg
  refine ⟨h1, fun r w x hI hx hin hC => ?_⟩
  obtain ⟨q, hq, rfl⟩ := den_p hx
  obtain ⟨hF, hK⟩ := h2 r w hI q hq
  refine (hC q _ hq hF).mono fun e w' hp => ?_
  obtain ⟨rfl, hk⟩ := hp
  obtain ⟨k1, k2⟩ := hK w' hk
  exact ⟨r, _, rfl, e1 ▸ mk_i r (by rw [e1]; exact hin), k1, k2⟩
theorem sat_i64 (a : Int) : inK .i64 (satv a) := inK_i64.2 (by have := satv_lo a; have := satv_hi a; omega)
theorem side_i64 (v : Int) : inK .i64 (sideOf v) := inK_i64.2 (by have := side_bd v; omega)
theorem divv_i64 (v d : Int) : inK .i64 (divv v d) := by
  unfold divv; split
  · exact side_i64 v
  · exact sat_i64 _
def satS (args : List V) (st : St) : Option (V × St) := match args with
  | [.w (.c (.p n o)), .w (.c (.i .i64 a))] => flagA n o 0 1 [a] st
  | _ => none
def clampS (args : List V) (st : St) : Option (V × St) := match args with
  | [.w (.c (.p n o)), .w (.c (.i .i64 a)), .w (.c (.i .i64 b)), .w (.c (.i .i64 c))] => flagA n o 10 11 [a, b, c] st
  | _ => none
def subS (args : List V) (st : St) : Option (V × St) := match args with
  | [.w (.c (.p n o)), .w (.c (.i .i64 a)), .w (.c (.i .i64 b))] => flagA n o 8 9 [a, b] st
  | _ => none
def mulS (args : List V) (st : St) : Option (V × St) := match args with
  | [.w (.c (.p n o)), .w (.c (.i .i64 a)), .w (.c (.i .i64 b)), .w (.c (.i .i64 (.k (.ofNat s))))] => bif Nat.ble s 120 then flagA n o 2 3 [a, b, .k (.ofNat s)] st else none
  | _ => none
def divS (args : List V) (st : St) : Option (V × St) := match args with
  | [.w (.c (.p n o)), .w (.c (.i .i64 a)), .w (.c (.i .i64 b)), .w (.c (.i .i64 (.k (.ofNat s))))] => bif Nat.ble s 66 then flagA n o 4 5 [a, b, .k (.ofNat s)] st else none
  | _ => none
def muldivS (args : List V) (st : St) : Option (V × St) := match args with
  | [.w (.c (.p n o)), .w (.c (.i .i64 a)), .w (.c (.i .i64 b)), .w (.c (.i .i64 d))] => flagA n o 6 7 [a, b, d] st
  | _ => none
def sqrtS (args : List V) (st : St) : Option (V × St) := match args with
  | [.w (.c (.p n o)), .w (.c (.i .i64 (.x a)))] => flagA n o 30 31 [.x a] st
  | _ => none
theorem sqw_i64 (a : Int) : inK .i64 (sqw a) := inK_i64.2 (by have := sqw_bd a; omega)
def absS (args : List V) (st : St) : Option (V × St) := match args with
  | [.w (.c (.i .i64 a))] => (match absA a st with | (r, st') => some (.w (.c (.i .i64 r)), st'))
  | _ => none
section
variable {g : Sg}
abbrev CaseOk (g : Sg) (f : FuncId) (S : List V → St → Option (V × St)) : Prop := ∀ args st v st', S args st = some (v, st') → Good U g st' →
  Good U g st ∧ ∀ r w vs, Inv g r st w → VL g r args vs → Said g f vs st' v r w
theorem sat_case : CaseOk g 42 satS := fun args st v st' h hg => by
  unfold satS at h
  split at h
  · rename_i n o a
    refine ⟨(flag_call (f := 0) (vs := []) h hg).1, fun r w vs hI hv => ?_⟩
    match vs, hv with
    | [x, y], ⟨hx, hy, _⟩ =>
      obtain rfl := den_i hy
      refine (flag_call h hg).2 r w x hI hx (sat_i64 _) fun q hb _ hF => ?_
      simp only [U, List.map, ieq_b2i]
      exact sat_any q o _ hb w hF
  · cases h
theorem clamp_case : CaseOk g 40 clampS := fun args st v st' h hg => by
  unfold clampS at h
  split at h
  · rename_i n o a b c
    refine ⟨(flag_call (f := 0) (vs := []) h hg).1, fun r w vs hI hv => ?_⟩
    match vs, hv with
    | [x, y, z, u], ⟨hx, hy, hz, hu, _⟩ =>
      have i1 := den_in hy
      have i2 := den_in hz
      have i3 := den_in hu
      obtain rfl := den_i hy
      obtain rfl := den_i hz
      obtain rfl := den_i hu
      refine (flag_call h hg).2 r w x hI hx (by simp only [U, List.map]; unfold clampv; (repeat' split) <;> assumption) fun q hb _ hF => ?_
      simp only [U, List.map, ieq_b2i]
      exact clamp_any q o _ _ _ hb w hF
  · cases h
theorem sub_case : CaseOk g 46 subS := fun args st v st' h hg => by
  unfold subS at h
  split at h
  · rename_i n o a b
    refine ⟨(flag_call (f := 0) (vs := []) h hg).1, fun r w vs hI hv => ?_⟩
    match vs, hv with
    | [x, y, z], ⟨hx, hy, hz, _⟩ =>
      obtain rfl := den_i hy
      obtain rfl := den_i hz
      refine (flag_call h hg).2 r w x hI hx (sat_i64 _) fun q hb _ hF => ?_
      simp only [U, List.map, ieq_b2i, ← Bool.or_assoc]
      exact sub_any q o _ _ hb w hF
  · cases h
theorem mul_case : CaseOk g 48 mulS := fun args st v st' h hg => by
  unfold mulS at h
  split at h
  · rename_i n o a b s
    rw [nble, Bool.cond_decide] at h
    split at h
    · rename_i hs
      refine ⟨(flag_call (f := 0) (vs := []) h hg).1, fun r w vs hI hv => ?_⟩
      match vs, hv with
      | [x, y, z, u], ⟨hx, hy, hz, hu, _⟩ =>
        obtain rfl := den_i hy
        obtain rfl := den_i hz
        obtain rfl := den_i hu
        refine (flag_call h hg).2 r w x hI hx (sat_i64 _) fun q hb _ hF => ?_
        simp only [U, List.map, ieq_b2i, ← Bool.or_assoc]
        exact mul_fx q o _ _ s hb w hF hs
    · cases h
  · cases h
theorem div_case : CaseOk g 50 divS := fun args st v st' h hg => by
  unfold divS at h
  split at h
  · rename_i n o a b s
    rw [nble, Bool.cond_decide] at h
    split at h
    · rename_i hs
      refine ⟨(flag_call (f := 0) (vs := []) h hg).1, fun r w vs hI hv => ?_⟩
      match vs, hv with
      | [x, y, z, u], ⟨hx, hy, hz, hu, _⟩ =>
        obtain rfl := den_i hy
        obtain rfl := den_i hz
        obtain rfl := den_i hu
        refine (flag_call h hg).2 r w x hI hx (divv_i64 _ _) fun q hb _ hF => ?_
        simp only [U, List.map, ieq_b2i, ← Bool.or_assoc]
        exact div_fx q o _ _ s hb w hF hs
    · cases h
  · cases h
theorem muldiv_case : CaseOk g 52 muldivS := fun args st v st' h hg => by
  unfold muldivS at h
  split at h
  · rename_i n o a b d
    refine ⟨(flag_call (f := 0) (vs := []) h hg).1, fun r w vs hI hv => ?_⟩
    match vs, hv with
    | [x, y, z, u], ⟨hx, hy, hz, hu, _⟩ =>
      obtain rfl := den_i hy
      obtain rfl := den_i hz
      obtain rfl := den_i hu
      refine (flag_call h hg).2 r w x hI hx (divv_i64 _ _) fun q hb _ hF => ?_
      simp only [U, List.map, ieq_b2i, ← Bool.or_assoc]
      exact muldiv_fx q o _ _ _ hb w hF
  · cases h
theorem sqrt_case : CaseOk g 61 sqrtS := fun args st v st' h hg => by
  unfold sqrtS at h
  split at h
  · rename_i n o a
    refine ⟨(flag_call (f := 0) (vs := []) h hg).1, fun r w vs hI hv => ?_⟩
    match vs, hv with
    | [x, y], ⟨hx, hy, _⟩ =>
      obtain rfl := den_i hy
      refine (flag_call h hg).2 r w x hI hx (sqw_i64 _) fun q hb _ hF => ?_
      simp only [U, List.map, ieq_b2i]
      exact rsqrt q o _ hb w hF
  · cases h
theorem absv_i64 (a : Int) : inK .i64 (absv a) := by
  unfold absv; rw [inK_i64]; (repeat' split) <;> omega
theorem abs_case : CaseOk g 55 absS := fun args st v st' h hg => by
  unfold absS at h
  split at h
  · rename_i a
    split at h
    rename_i rv st1 happ
    cases h
    obtain ⟨h1, h2, h3⟩ := absA_ok happ hg
    refine ⟨h1, fun r w vs hI hv => ?_⟩
    match vs, hv with
    | [x], ⟨hx, _⟩ =>
      obtain rfl := den_i hx
      refine (abs_any (a.val g) w).mono fun e w' hp => ?_
      obtain ⟨rfl, rfl⟩ := hp
      exact ⟨r, _, rfl, (by have h3 : rv.val g = absv (a.val g) := h3; rw [← h3]; exact mk_i r (by rw [h3]; exact absv_i64 _)), hI.same h2, Ext.refl _ _⟩
  · cases h
end
end Go.Proofs.Ytdgapclgapjhiaa.SX

/- SxN -/
namespace Go.Proofs.Ytdgapclgapjhiaa.SX
open Go Go.RowKit
section
variable {g : Sg}
/-- The whole numbers that stand in cells. -/
def intsC : List C → Option (List A)
  | [] => some []
  | .i .i64 a :: r => match intsC r with
    | some l => some (a :: l)
    | none => none
  | _ :: _ => none
theorem intsC_ok {r : Rho} : ∀ {l : List C} {xa : List A} {vs : List Value}, intsC l = some xa → DL g r l vs → ∀ i, i < xa.length → vs[i]? = some (.int .i64 ((xa.map (A.val g)).getD i 0)) ∧ inK .i64 ((xa.map (A.val g)).getD i 0)
  | [], xa, vs, h, _, i, hi => by simp [intsC] at h; subst h; simp at hi
  | .i k a :: l, xa, vs, h, hD, i, hi => by
    cases k <;> simp only [intsC] at h <;> try cases h
    split at h
    · rename_i m hm
      cases h
      obtain ⟨v, vs, rfl, h1, h2⟩ := hD.cons_inv
      cases i with
      | zero =>
        refine ⟨?_, den_in (r := r) h1⟩
        have := den_i (r := r) (g := g) h1
        subst this; rfl
      | succ i =>
        obtain ⟨k1, k2⟩ := intsC_ok hm h2 i (by simpa using hi)
        exact ⟨by simpa using k1, by simpa using k2⟩
    · cases h
  | .b _ :: _, _, _, h, _, _, _ => by simp [intsC] at h
  | .p _ _ :: _, _, _, h, _, _, _ => by simp [intsC] at h
  | .pn :: _, _, _, h, _, _, _ => by simp [intsC] at h
  | .s _ _ _ _ :: _, _, _, h, _, _, _ => by simp [intsC] at h
  | .sn :: _, _, _, h, _, _, _ => by simp [intsC] at h
theorem intsC_len : ∀ {l : List C} {xa : List A}, intsC l = some xa → xa.length = l.length
  | [], xa, h => by simp [intsC] at h; subst h; rfl
  | .i k a :: l, xa, h => by
    cases k <;> simp only [intsC] at h <;> try cases h
    split at h
    · rename_i m hm
      cases h
      simp [intsC_len hm]
    · cases h
  | .b _ :: _, _, h => by simp [intsC] at h
  | .p _ _ :: _, _, h => by simp [intsC] at h
  | .pn :: _, _, h => by simp [intsC] at h
  | .s _ _ _ _ :: _, _, h => by simp [intsC] at h
  | .sn :: _, _, h => by simp [intsC] at h
/-- A slice of whole numbers, xa it lies. -/
def intsAt (heap : List (Nat × Bk)) (n o l : Nat) : Option (List A) := match hget heap n with
  | some bk => match takeN (bk.cells.drop o) l with
    | some m => intsC m
    | none => none
  | none => none
theorem intsAt_ok {st : St} {n o l : Nat} {xa : List A} (h : intsAt st.heap n o l = some xa) {r : Rho} {w : World} (hI : Inv g r st w) :
    xa.length = l ∧ ∃ q, r n = some q ∧ q < w.heap.size ∧ Ints w q o l (fun i => (xa.map (A.val g)).getD i 0) := by
  unfold intsAt at h
  split at h
  · rename_i bk hbk
    split at h
    · rename_i m hm
      obtain ⟨rfl, hl⟩ := takeN_take hm
      have hlen := intsC_len h
      have hlen : xa.length = l := by rw [hlen]; simp at hl ⊢; omega
      obtain ⟨q, vs, hq, hw, hD⟩ := hI.holds n bk hbk
      refine ⟨hlen, q, hq, hI.lt n q hq, ⟨fun i hi => ?_⟩⟩
      obtain ⟨k1, _⟩ := intsC_ok h ((hD.drop o).take l) i (by omega)
      rw [cell_of_heap hw, ← k1, List.getElem?_take, if_pos hi, List.getElem?_drop]
    · cases h
  · cases h
theorem rnd_zero (v : Int) : rnd v 0 = v := by
  unfold rnd withSign
  have : rq v.natAbs 0 = v.natAbs := by unfold rq halfOf; simp
  rw [this]
  by_cases h : v < 0 <;> simp [h] <;> omega
theorem sumS_cons (a : Int) (l : List Int) : ∀ n, sumS (fun i => (a :: l).getD i 0) (n + 1) = sumS (fun i => l.getD i 0) n + satv a
  | 0 => by simp [sumS]
  | n + 1 => by
    rw [sumS, sumS_cons a l n, sumS]
    simp only [List.getD_cons_succ]
    omega
theorem sumS_list : ∀ (l : List Int), sumS (fun i => l.getD i 0) l.length = sumL l
  | [] => rfl
  | a :: l => by rw [List.length_cons, sumS_cons, sumS_list l]; rfl
theorem anyS_cons (a : Int) (l : List Int) : ∀ n, anyS (fun i => (a :: l).getD i 0) (n + 1) = (anyS (fun i => l.getD i 0) n || sath a)
  | 0 => by simp [anyS]
  | n + 1 => by
    rw [anyS, anyS_cons a l n, anyS]
    simp only [List.getD_cons_succ]
    cases anyS (fun i => l.getD i 0) n <;> cases sath a <;> simp
theorem anyS_list : ∀ (l : List Int), anyS (fun i => l.getD i 0) l.length = anyL l
  | [] => rfl
  | a :: l => by rw [List.length_cons, anyS_cons, anyS_list l]; rfl
def addS (args : List V) (st : St) : Option (V × St) := match args with
  | [.w (.c (.p n o)), .w (.c (.s m mo l _))] => bif Nat.beq m n then none else bif Nat.ble l 9223372036854775807 then (match intsAt st.heap m mo l with
    | some xa => flagA n o 14 15 xa st
    | none => none) else none
  | _ => none
theorem add_case : CaseOk g 44 addS := fun args st v st' h hg => by
  unfold addS at h
  split at h
  · rename_i n o m mo l c
    rw [nbeq, nble, Bool.cond_decide, Bool.cond_decide] at h
    split at h
    · cases h
    · rename_i hmn
      split at h
      · rename_i hl
        split at h
        · rename_i xa has
          refine ⟨(flag_call (f := 0) (vs := []) h hg).1, fun r w vs hI hv => ?_⟩
          match vs, hv with
          | [x, y], ⟨hx, hy, _⟩ =>
            obtain ⟨q', hq', rfl⟩ := den_s hy
            obtain ⟨e1, q1, k1, k2, k3⟩ := intsAt_ok has hI
            rw [hq'] at k1; cases k1
            refine (flag_call h hg).2 r w x hI hx (sat_i64 _) fun q hb hq hF => ?_
            have hc := add_fx q o q' mo l c _ hb w hF hl k2 (fun e => hmn (hI.inj m n q' hq' (e ▸ hq))) k3
            have e2 := sumS_list (xa.map (A.val g))
            have e3 := anyS_list (xa.map (A.val g))
            rw [List.length_map, e1] at e2 e3
            rw [e2, e3, rnd_zero] at hc
            simp only [U, ieq_b2i, ← Bool.or_assoc]
            exact hc
        · cases h
      · cases h
  · cases h

/-! ### Wide numbers -/
/-- The number that two parts stand for. -/
def joinA (h l : A) (st : St) : A × St := match h, l with
  | .x i, .x j => (match getD st i, getD st j with
    | some (.u 21, [z]), some (.u 22, [z']) => if z = z' then (z, st) else app U (.u 23) [.x i, .x j] st
    | _, _ => app U (.u 23) [.x i, .x j] st)
  | h, l => app U (.u 23) [h, l] st
theorem joinA_ok {h l r : A} {st st' : St} (he : joinA h l st = (r, st')) (hg : Good U g st') :
    Good U g st ∧ Same st st' ∧ r.val g = h.val g * 18446744073709551616 + l.val g := by
  have gen : ∀ h l : A, app U (.u 23) [h, l] st = (r, st') → Good U g st ∧ Same st st' ∧ r.val g = h.val g * 18446744073709551616 + l.val g := fun h l he => by
    obtain ⟨h1, h2, h3⟩ := app_ok he hg
    exact ⟨h1, h2, h3⟩
  unfold joinA at he
  split at he
  · rename_i i j
    split at he
    · rename_i z z' hi hj
      split at he
      · rename_i hc
        subst hc
        cases he
        refine ⟨hg, Same.refl _, ?_⟩
        have e1 := hg.defs _ _ _ hi
        have e2 := hg.defs _ _ _ hj
        simp only [mean, List.map, U] at e1 e2
        show r.val g = g i * 18446744073709551616 + g j
        rw [e1, e2]
        unfold wh wl; omega
      · exact gen _ _ he
    · exact gen _ _ he
  · exact gen _ _ he
/-- A number in its two parts. -/
def splitA (z : A) (st : St) : W × St := match app U (.u 21) [z] st with
  | (h, st1) => match app U (.u 22) [z] st1 with
    | (l, st2) => (.agg [.i .i64 h, .i .u64 l], st2)
theorem wide_in {z : Int} (h : InW z) : inK .i64 (wh z) ∧ inK .u64 (wl z) := by
  have h1 := h.lo
  have h2 := h.hi
  unfold wh wl
  rw [inK_i64, inK_u64]
  omega
theorem splitA_ok {z : A} {x : W} {st st' : St} (he : splitA z st = (x, st')) (hg : Good U g st') :
    Good U g st ∧ Same st st' ∧ (InW (z.val g) → ∀ r, x.Den g r (Wv (z.val g))) := by
  unfold splitA at he
  split at he
  rename_i h st1 h1
  split at he
  rename_i l st2 h2
  cases he
  obtain ⟨g1, s1, e1⟩ := app_ok h2 hg
  obtain ⟨g0, s0, e0⟩ := app_ok h1 g1
  refine ⟨g0, s0.trans s1, fun hin r => ?_⟩
  obtain ⟨k1, k2⟩ := wide_in hin
  have e0 : h.val g = wh (z.val g) := e0
  have e1 : l.val g = wl (z.val g) := e1
  refine ⟨[.int .i64 (wh (z.val g)), .int .u64 (wl (z.val g))], rfl, DL.cons ?_ (DL.cons ?_ DL.nil)⟩
  · have := mk_i r (k := .i64) (a := h) (g := g) (by rw [e0]; exact k1)
    rw [e0] at this; exact this
  · have := mk_i r (k := .u64) (a := l) (g := g) (by rw [e1]; exact k2)
    rw [e1] at this; exact this
/-- Two parts that come in: the number, within 128 bits. -/
theorem wide_arg {h l : A} {r : Rho} {v : Value} (hd : V.Den g r (.w (.agg [.i .i64 h, .i .u64 l])) v) : v = Wv (h.val g * 18446744073709551616 + l.val g) ∧ InW (h.val g * 18446744073709551616 + l.val g) := by
  obtain ⟨vs, rfl, hD⟩ := den_agg hd
  obtain ⟨a, vs, rfl, h1, hD⟩ := hD.cons_inv
  obtain ⟨b, vs, rfl, h2, hD⟩ := hD.cons_inv
  obtain rfl := hD.nil_inv
  have i1 := inK_i64.1 (den_in (r := r) (v := a) h1)
  have i2 := inK_u64.1 (den_in (r := r) (v := b) h2)
  obtain rfl := den_i (r := r) (v := a) h1
  obtain rfl := den_i (r := r) (v := b) h2
  refine ⟨?_, ⟨by omega, by omega⟩⟩
  have e1 : wh (h.val g * 18446744073709551616 + l.val g) = h.val g := by unfold wh; omega
  have e2 : wl (h.val g * 18446744073709551616 + l.val g) = l.val g := by unfold wl; omega
  show Value.agg #[_, _] = .agg #[_, _]
  rw [e1, e2]
theorem below_mem {r : Rho} {st : St} {w w' : World} (hI : Inv g r st w) (hb : Below w.heap.size w w') : Inv g r st w' ∧ Ext r w r w' :=
  ⟨⟨fun n bk hn => by
      obtain ⟨b, vs, h1, h2, h3⟩ := hI.holds n bk hn
      exact ⟨b, vs, h1, by rw [hb.block b (hI.lt n b h1)]; exact h2, h3⟩, hI.inj, hI.fresh, fun n b h => Nat.lt_of_lt_of_le (hI.lt n b h) hb.size, hI.rlt⟩,
    ⟨Sub.refl _, fun _ _ h => .inl h, hb.size, fun b hlt _ => hb.block b hlt, hb.os, hb.tape, hb.output⟩⟩
def wmulS (args : List V) (st : St) : Option (V × St) := match args with
  | [.w (.c (.i .i64 a)), .w (.c (.i .i64 b))] => (match app U (.u 20) [a, b] st with
    | (z, st1) => match splitA z st1 with
      | (x, st2) => some (.w x, st2))
  | _ => none
theorem mul_inW {a b : Int} (ha : inK .i64 a) (hb : inK .i64 b) : InW (a * b) := by
  rw [inK_i64] at ha hb
  have h1 : (a * b).natAbs ≤ 9223372036854775808 * 9223372036854775808 := by
    rw [Int.natAbs_mul]
    exact Nat.mul_le_mul (by omega) (by omega)
  exact ⟨by omega, by omega⟩
theorem wmul_case : CaseOk g 22 wmulS := fun args st v st' h hg => by
  unfold wmulS at h
  split at h
  · rename_i a b
    split at h
    rename_i z st1 h1
    split at h
    rename_i x st2 h2
    cases h
    obtain ⟨g1, s1, e1⟩ := splitA_ok h2 hg
    obtain ⟨g0, s0, e0⟩ := app_ok h1 g1
    refine ⟨g0, fun r w vs hI hv => ?_⟩
    match vs, hv with
    | [p, q], ⟨hx, hy, _⟩ =>
      have i1 := den_in hx
      have i2 := den_in hy
      obtain rfl := den_i hx
      obtain rfl := den_i hy
      have e0 : z.val g = a.val g * b.val g := e0
      refine (wmul_any (a.val g) (b.val g) w (inK_i64.1 i1).1 (inK_i64.1 i1).2 (inK_i64.1 i2).1 (inK_i64.1 i2).2).mono fun e w' hp => ?_
      obtain ⟨rfl, hb⟩ := hp
      obtain ⟨k1, k2⟩ := below_mem (hI.same (s0.trans s1)) hb
      exact ⟨r, _, rfl, e0 ▸ e1 (by rw [e0]; exact mul_inW i1 i2) r, k1, k2⟩
  · cases h
def isK : A → Bool
  | .k _ => true
  | .x _ => false
def wrootS (args : List V) (st : St) : Option (V × St) := match args with
  | [.w (.agg [.i .i64 h, .i .u64 l])] => (match joinA h l st with
    | (z, st1) => bif isK z then none else (match app U (.u 26) [z] st1 with
      | (a, st2) => match app U (.u 27) [z] st2 with
        | (b, st3) => some (.tup [.c (.i .i64 a), .c (.b b)], st3)))
  | _ => none
theorem root_top (n : Nat) (h : n ≤ 85070591730234615856620279821087277056) : rootN n ≤ 9223372036854775807 := by
  obtain ⟨h1, h2⟩ := isq_spec n
  have h3 : isq n ≤ 9223372036854775807 := isq_le (by omega)
  unfold rootN
  split
  · rename_i h4
    rcases Nat.lt_or_ge (isq n) 9223372036854775807 with h5 | h5
    · omega
    · have : isq n = 9223372036854775807 := by omega
      rw [this] at h4
      omega
  · omega
theorem root_i64 (z : Int) : inK .i64 (U 26 [z]) := by
  simp only [U]
  unfold rootOk
  rw [inK_i64, ile_iff, ile_iff, ← Bool.decide_and, Bool.cond_decide]
  split
  · rename_i h
    obtain ⟨h1, h2⟩ := h
    have := root_top z.toNat (by omega)
    omega
  · omega
theorem wroot_case : CaseOk g 75 wrootS := fun args st v st' h hg => by
  unfold wrootS at h
  split at h
  · rename_i p q
    split at h
    rename_i z st1 h1
    cases hz : isK z
    rotate_left
    · rw [hz] at h; cases h
    rw [hz] at h
    rw [cond_false] at h
    split at h
    rename_i a st2 h2
    split at h
    rename_i b st3 h3
    cases h
    obtain ⟨g2, s2, e2⟩ := app_ok h3 hg
    obtain ⟨g1, s1, e1⟩ := app_ok h2 g2
    obtain ⟨g0, s0, e0⟩ := joinA_ok h1 g1
    refine ⟨g0, fun r w vs hI hv => ?_⟩
    match vs, hv with
    | [x], ⟨hx, _⟩ =>
      obtain ⟨rfl, hin⟩ := wide_arg hx
      rw [← e0] at hin ⊢
      have hres : ∀ c w', Below w.heap.size w w' → c = .tuple #[.int .i64 (U 26 [z.val g]), .bool (rootOk (z.val g))] → ∃ r' u, Ending.returned c = .returned u ∧ V.Den g r' (.tup [.c (.i .i64 a), .c (.b b)]) u ∧ Inv g r' st' w' ∧ Ext r w r' w' := by
        intro c w' hb hc
        obtain ⟨k1, k2⟩ := below_mem (hI.same ((s0.trans s1).trans s2)) hb
        refine ⟨r, c, rfl, ?_, k1, k2⟩
        subst hc
        have e1 : a.val g = U 26 [z.val g] := e1
        have e2 : b.val g = b2i (rootOk (z.val g)) := e2
        refine ⟨[.int .i64 (U 26 [z.val g]), .bool (rootOk (z.val g))], rfl, ?_, ?_, trivial⟩
        · rw [← e1]; exact mk_i r (by rw [e1]; exact root_i64 _)
        · have := mk_b (g := g) r b; rw [e2, ieq_b2i] at this; exact this
      have hok : rootOk (z.val g) = decide (0 ≤ z.val g ∧ z.val g ≤ 85070591730234615856620279821087277056) := by unfold rootOk; rw [ile_iff, ile_iff, ← Bool.decide_and]
      by_cases c1 : 0 ≤ z.val g
      · by_cases c2 : z.val g ≤ 85070591730234615856620279821087277056
        · refine (wroot_any (z.val g) w c1 c2).mono fun e w' hp => ?_
          obtain ⟨rfl, hb⟩ := hp
          exact hres _ w' hb (by rw [hok, decide_eq_true ⟨c1, c2⟩]; simp only [U, hok, decide_eq_true (show _ ∧ _ from ⟨c1, c2⟩), cond_true])
        · refine (wroot_big (z.val g) w c1 (by omega)).mono fun e w' hp => ?_
          obtain ⟨rfl, hb⟩ := hp
          have hf : decide (0 ≤ z.val g ∧ z.val g ≤ 85070591730234615856620279821087277056) = false := by simp; omega
          exact hres _ w' hb (by rw [hok, hf]; simp only [U, hok, hf, cond_false])
      · refine (wroot_neg (z.val g) w (by omega)).mono fun e w' hp => ?_
        obtain ⟨rfl, hb⟩ := hp
        have hf : decide (0 ≤ z.val g ∧ z.val g ≤ 85070591730234615856620279821087277056) = false := by simp; omega
        exact hres _ w' hb (by rw [hok, hf]; simp only [U, hok, hf, cond_false])
  · cases h

/-! ### Sums of wide numbers -/
def joinsA : List C → St → Option (List A × St)
  | [], st => some ([], st)
  | .i .i64 h :: .i .u64 l :: r, st => (match joinA h l st with
    | (z, st1) => match joinsA r st1 with
      | some (m, st2) => some (z :: m, st2)
      | none => none)
  | _, _ => none
theorem joinsA_ok : ∀ {l : List C} {m : List A} {st st' : St}, joinsA l st = some (m, st') → Good U g st' → Good U g st ∧ Same st st' ∧ l.length = 2 * m.length ∧
    ∀ r vs, DL g r l vs → ∀ i, i < m.length → InW ((m.map (A.val g)).getD i 0) ∧ vs[i * 2]? = some (.int .i64 (wh ((m.map (A.val g)).getD i 0))) ∧ vs[i * 2 + 1]? = some (.int .u64 (wl ((m.map (A.val g)).getD i 0)))
  | [], m, st, st', h, hg => by
    simp [joinsA] at h
    obtain ⟨rfl, rfl⟩ := h
    exact ⟨hg, Same.refl _, rfl, fun r vs _ i hi => by simp at hi⟩
  | .i k1 h :: .i k2 l :: rest, m, st, st', hh, hg => by
    have hk : k1 = .i64 ∧ k2 = .u64 := by cases k1 <;> cases k2 <;> first | exact ⟨rfl, rfl⟩ | (simp [joinsA] at hh)
    obtain ⟨rfl, rfl⟩ := hk
    rw [joinsA] at hh
    split at hh
    rename_i z st1 h1
    split at hh
    · rename_i m' st2 h2
      cases hh
      obtain ⟨g1, s1, l1, k⟩ := joinsA_ok h2 hg
      obtain ⟨g0, s0, e0⟩ := joinA_ok h1 g1
      refine ⟨g0, s0.trans s1, by simp [l1]; omega, fun r vs hD i hi => ?_⟩
      obtain ⟨a, vs, rfl, d1, hD⟩ := hD.cons_inv
      obtain ⟨b, vs, rfl, d2, hD⟩ := hD.cons_inv
      cases i with
      | zero =>
        have ha : V.Den g r (.w (.agg [.i .i64 h, .i .u64 l])) (.agg ⟨[a, b]⟩) := ⟨_, rfl, DL.cons d1 (DL.cons d2 DL.nil)⟩
        obtain ⟨e1, e2⟩ := wide_arg ha
        have e1 : Value.agg ⟨[a, b]⟩ = .agg ⟨[.int .i64 (wh (h.val g * 18446744073709551616 + l.val g)), .int .u64 (wl (h.val g * 18446744073709551616 + l.val g))]⟩ := e1
        injection e1 with e1
        injection e1 with e1
        injection e1 with e3 e4
        injection e4 with e4
        simp only [List.map_cons, List.getD_cons_zero, e0]
        exact ⟨e2, by simp [e3], by simp [e4]⟩
      | succ i =>
        obtain ⟨q1, q2, q3⟩ := k r vs hD i (by simpa using hi)
        simp only [List.map_cons, List.getD_cons_succ]
        have a1 : (i + 1) * 2 = i * 2 + 1 + 1 := by omega
        rw [a1]
        exact ⟨q1, by simpa using q2, by simpa using q3⟩
    · cases hh
  | [.i _ _], _, _, _, h, _ => by simp [joinsA] at h
  | .i k _ :: .b _ :: _, _, _, _, h, _ => by cases k <;> simp [joinsA] at h
  | .i k _ :: .p _ _ :: _, _, _, _, h, _ => by cases k <;> simp [joinsA] at h
  | .i k _ :: .pn :: _, _, _, _, h, _ => by cases k <;> simp [joinsA] at h
  | .i k _ :: .s _ _ _ _ :: _, _, _, _, h, _ => by cases k <;> simp [joinsA] at h
  | .i k _ :: .sn :: _, _, _, _, h, _ => by cases k <;> simp [joinsA] at h
  | .b _ :: _, _, _, _, h, _ => by simp [joinsA] at h
  | .p _ _ :: _, _, _, _, h, _ => by simp [joinsA] at h
  | .pn :: _, _, _, _, h, _ => by simp [joinsA] at h
  | .s _ _ _ _ :: _, _, _, _, h, _ => by simp [joinsA] at h
  | .sn :: _, _, _, _, h, _ => by simp [joinsA] at h
def waddS (args : List V) (st : St) : Option (V × St) := match args with
  | [.w (.c (.s n o l _))] => (match hget st.heap n with
    | some bk => (match takeN (bk.cells.drop o) (2 * l) with
      | some m => bif Nat.ble l 9223372036854775807 then (match joinsA m st with
        | some (zs, st1) => (match app U (.u 24) zs st1 with
          | (z, st2) => match app U (.u 25) zs st2 with
            | (b, st3) => match splitA z st3 with
              | (x, st4) => some (.tup [x, .c (.b b)], st4))
        | none => none) else none
      | none => none)
    | none => none)
  | _ => none
theorem inWB_iff (z : Int) : inWB z = true ↔ InW z := by
  unfold inWB
  rw [ile_iff, ile_iff]
  simp
  exact ⟨fun ⟨h1, h2⟩ => ⟨h1, h2⟩, fun ⟨h1, h2⟩ => ⟨h1, h2⟩⟩
theorem accum_shift (a : Int) (l : List Int) : ∀ k, accum (fun i => (a :: l).getD i 0) (k + 1) = a + accum (fun i => l.getD i 0) k
  | 0 => by simp [accum]
  | k + 1 => by rw [accum, accum_shift a l k, accum]; simp only [List.getD_cons_succ]; omega
/-- Where the sum stops. -/
theorem wsum_spec : ∀ (l : List Int) (c : Int), ∃ m, m ≤ l.length ∧ (∀ k, 0 < k → k ≤ m → InW (c + accum (fun i => l.getD i 0) k)) ∧
    ((m = l.length ∧ wsum c l = some (c + accum (fun i => l.getD i 0) l.length)) ∨ (m < l.length ∧ ¬ InW (c + accum (fun i => l.getD i 0) (m + 1)) ∧ wsum c l = none))
  | [], c => ⟨0, by simp, fun k h1 h2 => by omega, .inl ⟨rfl, by simp [wsum, accum]⟩⟩
  | a :: l, c => by
    cases hb : inWB (c + a)
    · refine ⟨0, by simp, fun k h1 h2 => by omega, .inr ⟨by simp, ?_, by simp [wsum, hb]⟩⟩
      rw [accum_shift]
      simp only [accum, Int.add_zero]
      intro h; rw [(inWB_iff _).2 h] at hb; cases hb
    · obtain ⟨m, h1, h2, h3⟩ := wsum_spec l (c + a)
      have hw : wsum c (a :: l) = wsum (c + a) l := by simp [wsum, hb]
      refine ⟨m + 1, by simp; omega, fun k k1 k2 => ?_, ?_⟩
      · cases k with
        | zero => omega
        | succ k =>
          rw [accum_shift, ← Int.add_assoc]
          rcases Nat.eq_zero_or_pos k with h0 | h0
          · subst h0; simp only [accum, Int.add_zero]; exact (inWB_iff _).1 hb
          · exact h2 k h0 (by omega)
      · rw [hw]
        rcases h3 with ⟨e1, e2⟩ | ⟨e1, e2, e3⟩
        · refine .inl ⟨by simp [e1], ?_⟩
          rw [e2, List.length_cons, accum_shift, Int.add_assoc]
        · refine .inr ⟨by simp; omega, ?_, e3⟩
          rw [accum_shift, ← Int.add_assoc]; exact e2
theorem wadd_case : CaseOk g 31 waddS := fun args st v st' h hg => by
  unfold waddS at h
  split at h
  · rename_i n o l c
    split at h
    · rename_i bk hbk
      split at h
      · rename_i m hm
        rw [nble, Bool.cond_decide] at h
        split at h
        · rename_i hl
          split at h
          · rename_i zs st1 h1
            split at h
            rename_i z st2 h2
            split at h
            rename_i b st3 h3
            split at h
            rename_i x st4 h4
            cases h
            obtain ⟨g3, s3, e3⟩ := splitA_ok h4 hg
            obtain ⟨g2, s2, e2⟩ := app_ok h3 g3
            obtain ⟨g1, s1, e1⟩ := app_ok h2 g2
            obtain ⟨g0, s0, l0, k0⟩ := joinsA_ok h1 g1
            obtain ⟨rfl, hle⟩ := takeN_take hm
            have hzl : zs.length = l := by simp at l0 hle; omega
            refine ⟨g0, fun r w vs hI hv => ?_⟩
            match vs, hv with
            | [y], ⟨hy, _⟩ =>
              obtain ⟨q, hq, rfl⟩ := den_s hy
              obtain ⟨q', vs, hq', hw, hD⟩ := hI.holds n bk hbk
              rw [hq] at hq'; cases hq'
              have kk := k0 r _ ((hD.drop o).take (2 * l))
              obtain ⟨mm, m1, m2, m3⟩ := wsum_spec (zs.map (A.val g)) 0
              rw [List.length_map, hzl] at m1 m3
              have hcells : _root_.Go.Proofs.Ytdgapclgapjhiaa.Holds w q o l (fun i => (zs.map (A.val g)).getD i 0) := by
                refine ⟨fun i hi => ?_, fun i hi => ?_⟩
                · have := (kk i (by omega)).2.1
                  rw [List.getElem?_take, if_pos (by omega), List.getElem?_drop] at this
                  rw [cell_of_heap hw]; exact this
                · have := (kk i (by omega)).2.2
                  rw [List.getElem?_take, if_pos (by omega), List.getElem?_drop] at this
                  rw [cell_of_heap hw, Nat.add_assoc]; exact this
              have hacc : ∀ k, k ≤ mm → InW (accum (fun i => (zs.map (A.val g)).getD i 0) k) := fun k hk => by
                rcases Nat.eq_zero_or_pos k with h0 | h0
                · subst h0; exact inW_zero
                · have := m2 k h0 hk; rwa [Int.zero_add] at this
              refine (wadd_any q o l c mm _ w hl (hI.lt n q hq) (fun i hi => (kk i (by omega)).1) m1 hacc (by rcases m3 with ⟨e, _⟩ | ⟨_, e, _⟩; exact .inl e; exact .inr (by rwa [Int.zero_add] at e)) hcells).mono fun e w' hp => ?_
              obtain ⟨rfl, hb⟩ := hp
              obtain ⟨k1, k2⟩ := below_mem (hI.same (((s0.trans s1).trans s2).trans s3)) hb
              refine ⟨r, _, rfl, ?_, k1, k2⟩
              have e1 : z.val g = U 24 (zs.map (A.val g)) := e1
              have e2 : b.val g = b2i (wsum 0 (zs.map (A.val g))).isSome := e2
              unfold addRes
              rcases m3 with ⟨f1, f2⟩ | ⟨f1, _, f2⟩
              · rw [if_pos f1]
                rw [f2] at e2
                simp only [U, f2, Int.zero_add] at e1
                refine ⟨[Wv (accum (fun i => (zs.map (A.val g)).getD i 0) l), .bool true], rfl, ?_, ?_, trivial⟩
                · rw [← e1]; exact e3 (by rw [e1]; exact f1 ▸ hacc mm (Nat.le_refl _)) r
                · have := mk_b (g := g) r b; rw [e2, ieq_b2i] at this; exact this
              · rw [if_neg (by omega)]
                rw [f2] at e2
                simp only [U, f2] at e1
                refine ⟨[Wv 0, .bool false], rfl, ?_, ?_, trivial⟩
                · have := e3 (by rw [e1]; exact inW_zero) r; rw [e1] at this; exact this
                · have := mk_b (g := g) r b; rw [e2, ieq_b2i] at this; exact this
          · cases h
        · cases h
      · cases h
    · cases h
  · cases h
end
end Go.Proofs.Ytdgapclgapjhiaa.SX

/- SxP -/
namespace Go.Proofs.Ytdgapclgapjhiaa.SX
open Go Go.RowKit
abbrev Sum := FuncId → List V → St → Option (V × St)
def one (id : Nat) (S : List V → St → Option (V × St)) : Sum := fun f args st => bif Nat.beq f id then S args st else none
def orS (s t : Sum) : Sum := fun f args st => match s f args st with
  | some r => some r
  | none => t f args st
theorem one_ok {g : Sg} {id : Nat} {S : List V → St → Option (V × St)} (h : CaseOk g id S) : CallOk Try.prog U g (one id S) := fun f args st v st' he hg => by
  unfold one at he
  rw [nbeq, Bool.cond_decide] at he
  split at he
  · rename_i hf; subst hf
    exact h args st v st' he hg
  · cases he
theorem orS_ok {g : Sg} {s t : Sum} (hs : CallOk Try.prog U g s) (ht : CallOk Try.prog U g t) : CallOk Try.prog U g (orS s t) := fun f args st v st' he hg => by
  unfold orS at he
  split at he
  · rename_i r hr; cases he; exact hs f args st v st' hr hg
  · exact ht f args st v st' he hg
def sums : Sum :=
  orS (one 42 satS) <|
  orS (one 40 clampS) <|
  orS (one 46 subS) <|
  orS (one 48 mulS) <|
  orS (one 50 divS) <|
  orS (one 52 muldivS) <|
  orS (one 55 absS) <|
  orS (one 44 addS) <|
  orS (one 61 sqrtS) <|
  orS (one 22 wmulS) <|
  orS (one 31 waddS) <|
  orS (one 75 wrootS) <|
  noSum
theorem sums_ok (g : Sg) : CallOk Try.prog U g sums :=
  orS_ok (one_ok sat_case) <|
  orS_ok (one_ok clamp_case) <|
  orS_ok (one_ok sub_case) <|
  orS_ok (one_ok mul_case) <|
  orS_ok (one_ok div_case) <|
  orS_ok (one_ok muldiv_case) <|
  orS_ok (one_ok abs_case) <|
  orS_ok (one_ok add_case) <|
  orS_ok (one_ok sqrt_case) <|
  orS_ok (one_ok wmul_case) <|
  orS_ok (one_ok wadd_case) <|
  orS_ok (one_ok wroot_case) <|
  noSum_ok

/-! ### Symbols, solved -/
/-- What has been named, the latest first. -/
def defL (st : St) : Nat → List (Nat × Pr × List A)
  | 0 => []
  | n + 1 => match getD st n with
    | some (p, xa) => (n, p, xa) :: defL st n
    | none => defL st n
theorem defL_mem {st : St} {n : Nat} {p : Pr} {xa : List A} (h : getD st n = some (p, xa)) : ∀ {m : Nat}, n < m → (n, p, xa) ∈ defL st m
  | 0, hm => by omega
  | m + 1, hm => by
    unfold defL
    by_cases e : n = m
    · subst e; rw [h]; exact List.mem_cons_self ..
    · have := defL_mem h (m := m) (by omega)
      split
      · exact List.mem_cons_of_mem _ this
      · exact this
/-! ### A law over symbols -/
/-- What comes in: a whole number of a kind, a bool, or cells of these. -/
inductive Ar where
  | one (k : Option IntKind)
  | agg (l : List (Option IntKind))
def arSize : List Ar → Nat
  | [] => 0
  | .one _ :: r => 1 + arSize r
  | .agg l :: r => l.length + arSize r
def inC (i : Nat) : Option IntKind → St → C × St
  | some k, st => (match app U (.conv k) [.x i] st with | (r, st') => (.i k r, st'))
  | none, st => (.b (.x i), st)
def inCs : Nat → List (Option IntKind) → St → List C × St
  | _, [], st => ([], st)
  | i, k :: l, st => match inC i k st with
    | (c, st1) => match inCs (i + 1) l st1 with
      | (r, st2) => (c :: r, st2)
def inVs : Nat → List Ar → St → List V × St
  | _, [], st => ([], st)
  | i, .one k :: r, st => (match inC i k st with
    | (c, st1) => match inVs (i + 1) r st1 with
      | (q, st2) => (.w (.c c) :: q, st2))
  | i, .agg l :: r, st => match inCs i l st with
    | (c, st1) => match inVs (i + l.length) r st1 with
      | (q, st2) => (.w (.agg c) :: q, st2)
def fitC (g : Sg) (i : Nat) : Option IntKind → Value → Prop
  | some k, v => v = .int k (g i) ∧ inK k (g i)
  | none, v => v = .bool (ieq (g i) 1)
def fitCs (g : Sg) : Nat → List (Option IntKind) → List Value → Prop
  | _, [], [] => True
  | i, k :: l, v :: vs => fitC g i k v ∧ fitCs g (i + 1) l vs
  | _, _, _ => False
/-- The arguments are what the symbols from the i-th on stand for. -/
def fitVs (g : Sg) : Nat → List Ar → List Value → Prop
  | _, [], [] => True
  | i, .one k :: r, v :: vs => fitC g i k v ∧ fitVs g (i + 1) r vs
  | i, .agg l :: r, v :: vs => (∃ us, v = .agg ⟨us⟩ ∧ fitCs g i l us) ∧ fitVs g (i + l.length) r vs
  | _, _, _ => False
theorem wrap_inK {k : IntKind} {n : Int} (h : inK k n) : k.wrap n = n := by
  unfold inK IntKind.min IntKind.max at h
  unfold IntKind.wrap
  cases k <;> simp [IntKind.signed, IntKind.bits] at h ⊢ <;> (try split) <;> omega
theorem inC_ok {g : Sg} {i : Nat} {k : Option IntKind} {c : C} {st st' : St} (h : inC i k st = (c, st')) (hg : Good U g st') :
    Good U g st ∧ Same st st' ∧ ∀ v, fitC g i k v → c.den g (fun _ => none) = some v := by
  cases k with
  | none =>
    cases h
    exact ⟨hg, Same.refl _, fun v hv => by rw [hv]; rfl⟩
  | some k =>
    cases hs : app U (.conv k) [.x i] st with
    | mk r st1 =>
    rw [inC, hs] at h
    cases h
    obtain ⟨h1, h2, h3⟩ := app_ok hs hg
    refine ⟨h1, h2, fun v hv => ?_⟩
    obtain ⟨rfl, hin⟩ := hv
    have e : r.val g = g i := by
      rw [h3]
      show wrapF k (g i) = g i
      rw [wrapF_eq]
      exact wrap_inK hin
    simp only [C.den, e]
    rw [if_pos hin]
theorem inCs_ok {g : Sg} : ∀ {l : List (Option IntKind)} {i : Nat} {cs : List C} {st st' : St}, inCs i l st = (cs, st') → Good U g st' →
    Good U g st ∧ Same st st' ∧ ∀ vs, fitCs g i l vs → DL g (fun _ => none) cs vs
  | [], i, cs, st, st', h, hg => by
    cases h
    exact ⟨hg, Same.refl _, fun vs hv => by cases vs with
      | nil => exact DL.nil
      | cons _ _ => exact hv.elim⟩
  | k :: l, i, cs, st, st', h, hg => by
    unfold inCs at h
    split at h
    rename_i c st1 h1
    split at h
    rename_i r st2 h2
    cases h
    obtain ⟨k1, k2, k3⟩ := inCs_ok h2 hg
    obtain ⟨l1, l2, l3⟩ := inC_ok h1 k1
    refine ⟨l1, l2.trans k2, fun vs hv => ?_⟩
    cases vs with
    | nil => exact hv.elim
    | cons v vs => exact DL.cons (l3 v hv.1) (k3 vs hv.2)
theorem inVs_ok {g : Sg} : ∀ {l : List Ar} {i : Nat} {xs : List V} {st st' : St}, inVs i l st = (xs, st') → Good U g st' →
    Good U g st ∧ Same st st' ∧ ∀ vs, fitVs g i l vs → VL g (fun _ => none) xs vs
  | [], i, cs, st, st', h, hg => by
    cases h
    exact ⟨hg, Same.refl _, fun vs hv => by cases vs with
      | nil => trivial
      | cons _ _ => exact hv.elim⟩
  | .one k :: r, i, cs, st, st', h, hg => by
    unfold inVs at h
    split at h
    rename_i c st1 h1
    split at h
    rename_i q st2 h2
    cases h
    obtain ⟨k1, k2, k3⟩ := inVs_ok h2 hg
    obtain ⟨l1, l2, l3⟩ := inC_ok h1 k1
    refine ⟨l1, l2.trans k2, fun vs hv => ?_⟩
    cases vs with
    | nil => exact hv.elim
    | cons v vs => exact ⟨l3 v hv.1, k3 vs hv.2⟩
  | .agg l :: r, i, cs, st, st', h, hg => by
    unfold inVs at h
    split at h
    rename_i c st1 h1
    split at h
    rename_i q st2 h2
    cases h
    obtain ⟨k1, k2, k3⟩ := inVs_ok h2 hg
    obtain ⟨l1, l2, l3⟩ := inCs_ok h1 k1
    refine ⟨l1, l2.trans k2, fun vs hv => ?_⟩
    cases vs with
    | nil => exact hv.elim
    | cons v vs =>
      obtain ⟨⟨us, rfl, hus⟩, hv⟩ := hv
      exact ⟨⟨us, rfl, l3 us hus⟩, k3 vs hv⟩
theorem fitC_congr {g h : Sg} {i n : Nat} (he : ∀ j, j < n → g j = h j) (hi : i < n) {k : Option IntKind} {v : Value} (hf : fitC g i k v) : fitC h i k v := by
  cases k with
  | none => unfold fitC at *; rw [hf, he i hi]
  | some k => unfold fitC at *; rw [← he i hi]; exact hf
theorem fitCs_congr {g h : Sg} {n : Nat} (he : ∀ j, j < n → g j = h j) : ∀ {l : List (Option IntKind)} {i : Nat} {vs : List Value}, i + l.length ≤ n → fitCs g i l vs → fitCs h i l vs
  | [], i, vs, _, hf => by cases vs with
    | nil => trivial
    | cons _ _ => exact hf.elim
  | k :: l, i, vs, hi, hf => by
    simp at hi
    cases vs with
    | nil => exact hf.elim
    | cons v vs => exact ⟨fitC_congr he (by omega) hf.1, fitCs_congr he (by omega) hf.2⟩
theorem fitVs_congr {g h : Sg} {n : Nat} (he : ∀ j, j < n → g j = h j) : ∀ {l : List Ar} {i : Nat} {vs : List Value}, i + arSize l ≤ n → fitVs g i l vs → fitVs h i l vs
  | [], i, vs, _, hf => by cases vs with
    | nil => trivial
    | cons _ _ => exact hf.elim
  | .one k :: l, i, vs, hi, hf => by
    simp [arSize] at hi
    cases vs with
    | nil => exact hf.elim
    | cons v vs => exact ⟨fitC_congr he (by omega) hf.1, fitVs_congr he (by omega) hf.2⟩
  | .agg k :: l, i, vs, hi, hf => by
    simp [arSize] at hi
    cases vs with
    | nil => exact hf.elim
    | cons v vs =>
      obtain ⟨⟨us, e, hu⟩, hf⟩ := hf
      exact ⟨⟨us, e, fitCs_congr he (by omega) hu⟩, fitVs_congr he (by omega) hf⟩
def start (ars : List Ar) : List V × St := inVs 0 ars { st0 with nv := arSize ars }
/-- It ends in 'true', whatever the symbols stand for. -/
def lawB (ars : List Ar) (r : Option (V × St)) : Bool := match r with
  | some (.w (.c (.b (.k z))), st) => ieq z 1 && (!st.bad && st.cs.isEmpty && (st.ci.isEmpty && (isE st.rg || rgAll st id st.rg))) && wfD (arSize ars) st.nv (defL st st.nv)
  | _ => false
theorem law_true {P : Program} {L : Lk} [LkOk P L] {X : FuncId → Nat} (hN : NamesOk P X) (hmix : P.follows .mixedOrders = true) {f : FuncId} {sum : Sum} (hs : ∀ g, CallOk P U g sum) {mc : FuncId → Bool} {ml : FuncId → Nat} {K d : Nat} {ars : List Ar}
    (h : lawB ars (runPol L U X sum mc ml K d f (start ars).1 (start ars).2) = true) (g0 : Sg) (vs : List Value) (hv : fitVs g0 0 ars vs) (w : World) :
    Calls P f ⟨vs⟩ w fun e w' => e = .returned (.bool true) ∧ Below w.heap.size w w' := by
  unfold lawB at h
  split at h
  · rename_i z st' he
    simp only [Bool.and_eq_true] at h
    obtain ⟨⟨h1, ⟨h2, h3⟩, h4, h6⟩, h5⟩ := h
    have h3 : st'.cs = [] := by simpa using h3
    have h4 : st'.ci = [] := by simpa using h4
    obtain ⟨k1, k2⟩ := solve_ok U g0 h5
    generalize hg' : solve U (defL st' st'.nv) g0 = g at *
    have hd : DefsOk U g st' := fun n p xa hn => k1 _ (defL_mem hn (getD_lt hn).1)
    have hci : ∀ c ∈ st'.ci, ciOk g c := fun c hc => (by rw [h4] at hc; cases hc)
    have hrg : ∀ n lo hi, st'.rg.get n = some (lo, hi) → lo ≤ g n ∧ g n ≤ hi := by
      rw [Bool.or_eq_true] at h6
      rcases h6 with h6 | h6
      · rw [isE_eq h6]; exact fun n lo hi h => (by simp [PT.get] at h)
      · exact rgCheck_ok hd hci h6
    have hg : Good U g st' := ⟨hd, fun c hc => (by rw [h3] at hc; cases hc), hci, hrg, by simpa using h2⟩
    obtain ⟨hg1, k⟩ := runPol_ok hN hmix hs mc ml K d g f _ _ _ st' he hg
    have hst : start ars = ((start ars).1, (start ars).2) := rfl
    obtain ⟨_, hsame, hval⟩ := inVs_ok (show inVs 0 ars { st0 with nv := arSize ars } = ((start ars).1, (start ars).2) from rfl) hg1
    have hI : Inv g (fun _ => none) (start ars).2 w := by
      refine Inv.same ⟨fun n bk h => (by simp [st0, hget] at h), fun _ _ _ h => (by cases h), fun _ _ h => (by cases h), fun _ _ h => (by cases h), fun n h => (by simp [st0] at h)⟩ hsame
    refine (k (fun _ => none) w vs hI (hval vs (fitVs_congr (fun j hj => (k2 j hj).symm) (by omega) hv))).mono fun e w' hp => ?_
    obtain ⟨r', u, rfl, hd, _, hE⟩ := hp
    refine ⟨?_, below_of_ext hE⟩
    rw [den_b hd]
    show Ending.returned (.bool (ieq z 1)) = _
    rw [h1]
  · cases h
end Go.Proofs.Ytdgapclgapjhiaa.SX
