/- Proved here: a sum of products in two parts differs from the whole by at most one, where nothing is clamped; for every input. -/
import Derived.Test.YtfofhambacmpbaaAwakeF
import Derived.Test.YtfofhambacmpbaaSl
namespace Go.Proofs.Ytfofhambacmpbaa.fxJoins
open Go.RowKit
theorem rnd_near (v : Int) (s : Nat) : -((2 ^ s : Nat) : Int) ≤ 2 * (((2 ^ s : Nat) : Int) * rnd v s - v) ∧ 2 * (((2 ^ s : Nat) : Int) * rnd v s - v) ≤ ((2 ^ s : Nat) : Int) := by
  have hp : 0 < 2 ^ s := Nat.pow_pos (by omega)
  have h1 : 2 * (2 ^ s * rq v.natAbs s) ≤ 2 * v.natAbs + 2 ^ s ∧ 2 * v.natAbs ≤ 2 * (2 ^ s * rq v.natAbs s) + 2 ^ s := by
    unfold rq
    have h2 := Nat.div_add_mod (v.natAbs + halfOf s) (2 ^ s)
    have h3 := Nat.mod_lt (v.natAbs + halfOf s) hp
    have h4 : 2 * halfOf s = 2 ^ s ∨ (s = 0 ∧ halfOf s = 0) := by
      unfold halfOf
      split
      · rename_i h; exact .inr ⟨h, rfl⟩
      · left; rw [← Nat.pow_succ']; congr 1; omega
    rcases h4 with h4 | ⟨rfl, h4⟩
    · generalize halfOf s = hh at *
      generalize (v.natAbs + hh) / 2 ^ s = q at *
      generalize (v.natAbs + hh) % 2 ^ s = m at *
      generalize 2 ^ s * q = pq at *
      omega
    · rw [h4] at *
      simp at *
  have e : (((2 ^ s : Nat) : Int) * ((rq v.natAbs s : Nat) : Int)) = ((2 ^ s * rq v.natAbs s : Nat) : Int) := by simp
  by_cases hv : v < 0
  · have er : rnd v s = -((rq v.natAbs s : Nat) : Int) := by unfold rnd withSign; rw [decide_eq_true hv]; rfl
    rw [er, Int.mul_neg, e]
    clear e er
    generalize 2 ^ s * rq v.natAbs s = pq at *
    generalize 2 ^ s = P at *
    omega
  · have er : rnd v s = ((rq v.natAbs s : Nat) : Int) := by unfold rnd withSign; rw [decide_eq_false hv]; rfl
    rw [er, e]
    clear e er
    generalize 2 ^ s * rq v.natAbs s = pq at *
    generalize 2 ^ s = P at *
    omega
theorem rnd_join (u v : Int) (s : Nat) : rnd (u + v) s - (rnd u s + rnd v s) ≤ 1 ∧ (rnd u s + rnd v s) - rnd (u + v) s ≤ 1 := by
  have h1 := rnd_near (u + v) s
  have h2 := rnd_near u s
  have h3 := rnd_near v s
  have hp : (0 : Int) < ((2 ^ s : Nat) : Int) := by have : 0 < 2 ^ s := Nat.pow_pos (by omega); omega
  generalize ((2 ^ s : Nat) : Int) = P at *
  generalize rnd (u + v) s = x at *
  generalize rnd u s = y at *
  generalize rnd v s = z at *
  have e : P * (x - (y + z)) = P * x - P * y - P * z := by rw [Int.mul_sub, Int.mul_add]; omega
  constructor
  · refine Int.not_lt.1 fun h => ?_
    have := Int.mul_le_mul_of_nonneg_left (show (2 : Int) ≤ x - (y + z) by omega) (Int.le_of_lt hp)
    omega
  · refine Int.not_lt.1 fun h => ?_
    have := Int.mul_le_mul_of_nonneg_left (show x - (y + z) ≤ -2 by omega) (Int.le_of_lt hp)
    omega
theorem sumP_split (xs ys : Nat → Int) (c : Nat) : ∀ k, sumP xs ys (c + k) = sumP xs ys c + sumP (fun i => xs (c + i)) (fun i => ys (c + i)) k
  | 0 => by simp [sumP]
  | k + 1 => by
    rw [← Nat.add_assoc]
    simp only [sumP]
    rw [sumP_split xs ys c k]
    omega
theorem sath_false {x : Int} (h : sath x = false) : satv x = x := by
  unfold sath at h
  simp only [Bool.or_eq_false_iff, decide_eq_false_iff_not] at h
  exact (satv_in (by omega) (by omega)).1
theorem joins {S S1 S2 : Int} {s : Nat} (hS : S = S1 + S2) {e1 e2 e3 : Bool}
    (h : ((((((((false || e1) || sath (rnd S s)) || e2) || sath (rnd S1 s)) || e3) || sath (rnd S2 s)) || (sath (satv (rnd S1 s)) || sath (satv (rnd S2 s)))) || sath (satv (satv (rnd S1 s)) + satv (satv (rnd S2 s)))) = false) :
    satv (rnd S s) - satv (satv (satv (rnd S1 s)) + satv (satv (rnd S2 s))) ≤ 1 ∧ satv (satv (satv (rnd S1 s)) + satv (satv (rnd S2 s))) - satv (rnd S s) ≤ 1 := by
  simp only [Bool.or_eq_false_iff, Bool.false_or] at h
  obtain ⟨⟨⟨⟨⟨⟨⟨_, a1⟩, _⟩, a2⟩, _⟩, a3⟩, a4, a5⟩, a6⟩ := h
  have j := rnd_join S1 S2 s
  rw [← hS] at j
  rw [sath_false a1]
  rw [sath_false a2, sath_false a3] at *
  rw [sath_false a2, sath_false a3] at *
  rw [sath_false a6]
  exact j
abbrev pr2 (a b : Int) : Nat → Int := fun i => if i = 0 then a else b
theorem sum2' (a b : Int) : sumS (pr2 a b) 2 = satv a + satv b := by
  show 0 + satv a + satv b = _
  omega
theorem any2 (a b : Int) : anyS (pr2 a b) 2 = (sath a || sath b) := by
  show ((false || sath a) || sath b) = _
  simp
theorem fadd2 (p o B : Nat) (a b : Int) (t : TypeId) (h : Bool) (w : World) (f : Fl p o h w) (hB : w.heap.size = B) :
    Calls Try.prog 40 #[.pointer (some ⟨p, o, none⟩), .slice (some ⟨B, 0, none⟩) 2 2] (w.alloc (.cells #[.int .i64 a, .int .i64 b] t)) fun e w' => e = .returned (.int .i64 (satv (satv a + satv b))) ∧ FlW p o (h || (sath a || sath b) || sath (satv a + satv b)) w w' := by
  have hl := f.lt
  have hk : FlW p o h w (w.alloc (.cells #[.int .i64 a, .int .i64 b] t)) := (FlW.refl f).alloc _
  have Bk : Blk (w.alloc (.cells #[.int .i64 a, .int .i64 b] t)) B #[.int .i64 a, .int .i64 b] t := Blk.made _ _ _ hB
  refine (add_fx p o B 0 2 2 (pr2 a b) h _ (f.alloc _) (by decide) Bk.lt (by omega) Bk.ints2).mono fun e w' ⟨he, k⟩ => ⟨he.trans (ret_int ?_), flag_is ?_ (hk.trans k)⟩
  · rw [rnd_none, sum2']
  · rw [rnd_none, sum2', any2]
abbrev Good (s : Int) (A B : Value) (c : Int) (w : World) : Prop :=
  Calls Try.prog 15 #[.int .i64 s, A, B, .int .i64 c] w fun e w' => e = .returned (.bool true) ∧ Below w.heap.size w w'
set_option maxRecDepth 100000 in
set_option maxHeartbeats 4000000 in
theorem walk_out (s c : Int) (pa pb : Option Addr) (n m ca cb : Nat) (w : World) (h : n ≠ m ∨ 90 < n ∨ c < 0 ∨ (n : Int) < c ∨ s < 0 ∨ 120 < s) : Good s (.slice pa n ca) (.slice pb m cb) c w := by
  have hc : (n ≠ m) ∨ (n = m ∧ 90 < n) ∨ (n = m ∧ ¬ 90 < n ∧ c < 0) ∨ (n = m ∧ ¬ 90 < n ∧ ¬ c < 0 ∧ (n : Int) < c) ∨ (n = m ∧ ¬ 90 < n ∧ ¬ c < 0 ∧ ¬ (n : Int) < c ∧ s < 0) ∨ (n = m ∧ ¬ 90 < n ∧ ¬ c < 0 ∧ ¬ (n : Int) < c ∧ ¬ s < 0 ∧ 120 < s) := by omega
  clear h
  unfold Good
  rcases hc with h1 | ⟨rfl, h2⟩ | ⟨rfl, h2, h3⟩ | ⟨rfl, h2, h3, h4⟩ | ⟨rfl, h2, h3, h4, h5⟩ | ⟨rfl, h2, h3, h4, h5, h6⟩
  · have t : ((n : Int) != (m : Int)) = true := by rw [bne_iff_ne]; omega
    clear h1
    go_enter Try.func15, Try.ntmps15
    go_wp2_with fail
    refine (awakeF_any _).mono ?_
    rintro e w1 ⟨rfl, hB⟩
    go_wp2_with fail
    go_ret
    exact ⟨rfl, hB⟩
  all_goals
    first | (have g2 : (90 : Int) < (n : Int) := by omega) | (have g2 : ¬ (90 : Int) < (n : Int) := by omega)
    go_enter Try.func15, Try.ntmps15
    go_wp2_with fail
    refine (awakeF_any _).mono ?_
    rintro e w1 ⟨rfl, hB⟩
    go_wp2_with fail
    go_ret
    exact ⟨rfl, hB⟩
end Go.Proofs.Ytfofhambacmpbaa.fxJoins
