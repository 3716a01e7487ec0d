/- Proved here: what is shifted and rounded back is as it was; rounded twice in a row differs from once by at most one; for every input. -/
import Derived.Test.YtfofhambacmpbaaLawB
import Derived.Test.YtfofhambacmpbaaLift
import Derived.Test.YtfofhambacmpbaaFxB
import Derived.Test.YtfofhambacmpbaaMem
namespace Go.Proofs.Ytfofhambacmpbaa.wideShifts
open Go.RowKit
theorem rq_mul (n s : Nat) : rq (n * 2 ^ s) s = n := by
  unfold rq halfOf
  split
  · rename_i h; subst h; simp
  · rename_i h
    have h1 : 2 ^ (s - 1) < 2 ^ s := Nat.pow_lt_pow_right (by omega) (by omega)
    rw [Nat.mul_comm, Nat.mul_add_div (Nat.pow_pos (by omega)), Nat.div_eq_of_lt h1]
    omega
theorem rnd_mul (a : Int) (s : Nat) : rnd (a * 2 ^ s) s = a := by
  have e : ((2 : Int) ^ s) = ((2 ^ s : Nat) : Int) := by simp
  have hp : 0 < 2 ^ s := Nat.pow_pos (by omega)
  have h1 : (a * ((2 ^ s : Nat) : Int)).natAbs = a.natAbs * 2 ^ s := by rw [Int.natAbs_mul]; rfl
  have h2 : a * ((2 ^ s : Nat) : Int) < 0 ↔ a < 0 := by
    constructor
    · intro h
      by_cases h3 : a < 0
      · exact h3
      · have := Int.mul_nonneg (Int.not_lt.1 h3) (Int.natCast_nonneg (2 ^ s)); omega
    · intro h
      exact Int.mul_neg_of_neg_of_pos h (by omega)
  unfold rnd withSign
  rw [e, h1, rq_mul, show decide (a * ((2 ^ s : Nat) : Int) < 0) = decide (a < 0) from decide_eq_decide.2 h2]
  by_cases h : a < 0 <;> simp [h] <;> omega
theorem rq_two (n s t : Nat) : rq n (s + t) ≤ rq (rq n s) t ∧ rq (rq n s) t ≤ rq n (s + t) + 1 := by
  have e : rq (rq n s) t = (n + halfOf s + halfOf t * 2 ^ s) / 2 ^ (s + t) := by
    unfold rq
    rw [Nat.pow_add, ← Nat.div_div_eq_div_mul]
    congr 1
    rw [Nat.mul_comm (halfOf t), Nat.add_mul_div_left _ _ (Nat.pow_pos (by omega))]
  have hh : halfOf s ≤ 2 ^ s := by
    unfold halfOf
    split
    · exact Nat.zero_le _
    · exact Nat.pow_le_pow_right (by omega) (by omega)
  have hs : 2 ^ s ≤ 2 ^ (s + t) := Nat.pow_le_pow_right (by omega) (by omega)
  have hp : 0 < 2 ^ (s + t) := Nat.pow_pos (by omega)
  rw [e]
  rcases Nat.eq_zero_or_pos t with h0 | h0
  · subst h0
    have : halfOf 0 = 0 := rfl
    rw [this, Nat.zero_mul]
    unfold rq
    simp
  · have h1 : halfOf t * 2 ^ s = halfOf (s + t) := by
      unfold halfOf
      rw [if_neg (by omega), if_neg (by omega), ← Nat.pow_add]
      congr 1
      omega
    rw [h1]
    unfold rq
    constructor
    · exact Nat.div_le_div_right (by omega)
    · rw [← Nat.add_div_right _ hp]
      exact Nat.div_le_div_right (by omega)
theorem rnd_abs (v : Int) (s : Nat) : (rnd v s).natAbs = rq v.natAbs s := by
  unfold rnd withSign
  split <;> omega
theorem rnd_two (v : Int) (s t : Nat) : rnd (rnd v s) t - rnd v (s + t) ≤ 1 ∧ rnd v (s + t) - rnd (rnd v s) t ≤ 1 := by
  have h := rq_two v.natAbs s t
  have ha := rnd_abs v s
  by_cases hv : v < 0
  · have e1 : rnd v (s + t) = -(rq v.natAbs (s + t) : Nat) := by unfold rnd withSign; rw [decide_eq_true hv]; rfl
    have e0 : rnd v s = -(rq v.natAbs s : Nat) := by unfold rnd withSign; rw [decide_eq_true hv]; rfl
    by_cases hz : rq v.natAbs s = 0
    · have e2 : rnd (rnd v s) t = 0 := by
        rw [e0, hz]
        unfold rnd withSign
        simp [rq_zero]
      have : rq (rq v.natAbs s) t = 0 := by rw [hz, rq_zero]
      omega
    · have e2 : rnd (rnd v s) t = -(rq (rq v.natAbs s) t : Nat) := by
        rw [← ha]
        have hn : rnd v s < 0 := by omega
        generalize rnd v s = r at *
        unfold rnd withSign
        rw [decide_eq_true hn]
        rfl
      omega
  · have e1 : rnd v (s + t) = (rq v.natAbs (s + t) : Nat) := by unfold rnd withSign; rw [decide_eq_false hv]; rfl
    have e0 : rnd v s = (rq v.natAbs s : Nat) := by unfold rnd withSign; rw [decide_eq_false hv]; rfl
    have e2 : rnd (rnd v s) t = (rq (rq v.natAbs s) t : Nat) := by
      rw [← ha]
      have hn : ¬ rnd v s < 0 := by omega
      generalize rnd v s = r at *
      unfold rnd withSign
      rw [decide_eq_false hn]
      rfl
    omega
theorem rq_le (n s : Nat) : rq n s ≤ n := by
  unfold rq halfOf
  split
  · rename_i h; subst h; simp
  · rename_i h
    rcases Nat.eq_zero_or_pos n with h0 | h0
    · subst h0
      rw [Nat.zero_add, Nat.div_eq_of_lt (Nat.pow_lt_pow_right (by omega) (by omega))]
      omega
    · have h2 : 2 ^ s = 2 * 2 ^ (s - 1) := by rw [← Nat.pow_succ']; congr 1; omega
      refine Nat.div_le_of_le_mul ?_
      rw [h2]
      have : 1 ≤ 2 ^ (s - 1) := Nat.pow_pos (by omega)
      generalize 2 ^ (s - 1) = q at *
      have : q ≤ n * q := Nat.le_mul_of_pos_left q h0
      have : n ≤ n * q := Nat.le_mul_of_pos_right n (by omega)
      have e : 2 * q * n = n * q + n * q := by rw [Nat.mul_assoc, Nat.mul_comm q n]; omega
      omega
theorem rnd_small {v : Int} (s : Nat) (h1 : -9223372036854775808 ≤ v) (h2 : v ≤ 9223372036854775807) : sval (rnd v s) = rnd v s ∧ sok (rnd v s) = true := by
  have h := rq_le v.natAbs s
  have hk : sok (rnd v s) = true := by
    rw [sok_iff]
    unfold rnd withSign
    split
    · omega
    · rename_i hh
      have : ¬ v < 0 := fun x => hh (decide_eq_true x)
      omega
  exact ⟨by unfold sval; rw [if_pos hk], hk⟩
theorem round_small (v : Int) (s : Nat) (w : World) (h1 : -9223372036854775808 ≤ v) (h2 : v ≤ 9223372036854775807) (hs : s ≤ 126) :
    Calls Try.prog 20 #[Wv v, .int .i64 s] w fun e w' => e = .returned (.tuple #[.int .i64 (rnd v s), .bool true]) ∧ Below w.heap.size w w' := by
  obtain ⟨h3, h4⟩ := rnd_small s h1 h2
  refine (round_any v s w ⟨by omega, by omega⟩ hs).mono fun e w' ⟨he, hb⟩ => ⟨he.trans (tupleb ?_ ?_), hb⟩
  · exact h3
  · exact h4
theorem round_back (a v : Int) (s : Nat) (w : World) (h1 : -9223372036854775808 ≤ a) (h2 : a ≤ 9223372036854775807) (hv : a * 2 ^ s = v) (hI : InW v) (hs : s ≤ 126) :
    Calls Try.prog 20 #[Wv v, .int .i64 s] w fun e w' => e = .returned (.tuple #[.int .i64 a, .bool true]) ∧ Below w.heap.size w w' := by
  have hr := rnd_mul a s
  rw [hv] at hr
  have hk : sok a = true := (sok_iff a).2 ⟨h1, h2⟩
  refine (round_any v s w hI hs).mono fun e w' ⟨he, hb⟩ => ⟨he.trans (tupleb ?_ ?_), hb⟩
  · show sval (rnd v s) = a
    rw [hr]; unfold sval; rw [if_pos hk]
  · show sok (rnd v s) = true
    rw [hr]; exact hk
theorem shifted_in (a : Int) (s : Nat) (h1 : -9223372036854775808 ≤ a) (h2 : a ≤ 9223372036854775807) (hs : s ≤ 60) : InW (a * 2 ^ s) := by
  have e : ((2 : Int) ^ s) = ((2 ^ s : Nat) : Int) := by simp
  have h3 : 2 ^ s ≤ 1152921504606846976 := pow_lt s 60 hs
  have h4 : (a * ((2 ^ s : Nat) : Int)).natAbs ≤ 9223372036854775808 * 1152921504606846976 := by
    rw [Int.natAbs_mul]
    exact Nat.mul_le_mul (by omega) (by simpa using h3)
  rw [e]
  generalize a * ((2 ^ s : Nat) : Int) = x at *
  exact ⟨by omega, by omega⟩
set_option maxRecDepth 100000 in
set_option maxHeartbeats 4000000 in
theorem walk (a : Int) (wf0 : (Lit.int .i64 a).wf = true) (s : Int) (wf1 : (Lit.int .i64 s).wf = true) (t : Int) (wf2 : (Lit.int .i64 t).wf = true) (w : World) :
    Calls Try.prog 8 #[.int .i64 a, .int .i64 s, .int .i64 t] w fun e w' => e = .returned (.bool true) ∧ Below w.heap.size w w' := by
  obtain ⟨b01, b02⟩ := wf_i64 wf0
  clear wf0 wf1 wf2
  by_cases hout : s < 0 ∨ 60 < s ∨ t < 0 ∨ 60 < t
  · have hd : (s < 0) ∨ (¬ s < 0 ∧ 60 < s) ∨ (¬ s < 0 ∧ ¬ 60 < s ∧ t < 0) ∨ (¬ s < 0 ∧ ¬ 60 < s ∧ ¬ t < 0 ∧ 60 < t) := by omega
    clear hout
    rcases hd with h | ⟨h, h'⟩ | ⟨h, h', h''⟩ | ⟨h, h', h'', h'''⟩
    all_goals
      go_enter Try.func8, Try.ntmps8
      go_wp2_with fail
      refine (awake_any _).mono ?_
      rintro e w1 ⟨rfl, hb⟩
      go_wp2_with fail
      go_ret
      exact ⟨rfl, hb⟩
  · obtain ⟨s, rfl⟩ : ∃ k : Nat, s = k := ⟨s.toNat, by omega⟩
    obtain ⟨t, rfl⟩ : ∃ k : Nat, t = k := ⟨t.toNat, by omega⟩
    have n1 : ¬ (s : Int) < 0 := by omega
    have n2 : ¬ (60 : Int) < s := by omega
    have n3 : ¬ (t : Int) < 0 := by omega
    have n4 : ¬ (60 : Int) < t := by omega
    clear hout
    have hI := shifted_in a s b01 b02 (by omega)
    have hs : s ≤ 60 := by omega
    have ht : t ≤ 60 := by omega
    go_enter Try.func8, Try.ntmps8
    go_wp2_with fail
    refine (awake_any _).mono ?_
    rintro e w1 ⟨rfl, hB⟩
    go_wp2_with fail
    refine (wshift_yes a s _ b01 b02 (by omega) hI).mono ?_
    rintro e w2 ⟨rfl, hb⟩
    have hB := hB.trans (hb.mono hB.size)
    clear hb
    go_upto_region 8 with (fail)
    generalize hve : a * 2 ^ s = v at *
    have HV := Lib.hid hve
    clear hve
    generalize hX : World.alloc w2 _ = X
    obtain ⟨s0, s1⟩ : X.cell? ⟨w2.heap.size, 0, none⟩ = some (.int .i64 (wh v)) ∧ X.cell? ⟨w2.heap.size, 1, none⟩ = some (.int .u64 (wl v)) := by subst hX; exact box_at rfl
    have hB : Below w.heap.size w X := by subst hX; exact hB.alloc hB.size _
    clear hX
    go_wp2_with fail
    refine (round_back a v s _ b01 b02 HV.out hI (by omega)).mono ?_
    rintro e w3 ⟨rfl, hb⟩
    have hB := hB.trans (hb.mono hB.size)
    clear hb s0 s1
    go_wp2_with fail
    refine (wof_any a _ b01 b02).mono ?_
    rintro e w4 ⟨rfl, hb⟩
    have hB := hB.trans (hb.mono hB.size)
    clear hb
    go_wp2_with fail
    refine (round_small a s _ b01 b02 (by omega)).mono ?_
    rintro e w5 ⟨rfl, hb⟩
    have hB := hB.trans (hb.mono hB.size)
    clear hb
    have hk := (sok_iff _).1 (rnd_small s b01 b02).2
    have hk1 := hk.1
    have hk2 := hk.2
    clear hk
    have h2 := rnd_two a s t
    have hd := (sok_iff _).1 (rnd_small t hk1 hk2).2
    have he := (sok_iff _).1 (rnd_small (s + t) b01 b02).2
    generalize hce : rnd a s = c at *
    have Hce := Lib.hid hce
    clear hce
    go_wp2_with fail
    refine (wof_any c _ hk1 hk2).mono ?_
    rintro e w6 ⟨rfl, hb⟩
    have hB := hB.trans (hb.mono hB.size)
    clear hb
    go_wp2_with fail
    refine (round_small c t _ hk1 hk2 (by omega)).mono ?_
    rintro e w7 ⟨rfl, hb⟩
    have hB := hB.trans (hb.mono hB.size)
    clear hb
    go_wp2_with fail
    refine (wof_any a _ b01 b02).mono ?_
    rintro e w8 ⟨rfl, hb⟩
    have hB := hB.trans (hb.mono hB.size)
    clear hb
    go_wp2_with fail
    rw [show ((s : Int) + (t : Int)) = ((s + t : Nat) : Int) by omega]
    refine (round_small a (s + t) _ b01 b02 (by omega)).mono ?_
    rintro e w9 ⟨rfl, hb⟩
    have hB := hB.trans (hb.mono hB.size)
    clear hb
    generalize rnd c t = x at *
    generalize rnd a (s + t) = y at *
    have x1 := h2.1
    have x2 := h2.2
    have x3 : -1 ≤ x - y := by omega
    have x4 : -1 ≤ y - x := by omega
    clear h2 hd he
    go_wp2_with fail
    go_ret
    exact ⟨rfl, hB⟩
end Go.Proofs.Ytfofhambacmpbaa.wideShifts
