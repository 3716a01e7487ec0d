/- Proved here: quotients are rounded to the nearest, of two the one farther from 0, or refused where they don't fit; for every input. -/
import Derived.Test.YtfofhambacmpbaaLawB
import Derived.Test.YtfofhambacmpbaaLift
import Derived.Test.YtfofhambacmpbaaRefG
import Derived.Test.YtfofhambacmpbaaRefI
namespace Go.Proofs.Ytfofhambacmpbaa.wideRounds
open Go.RowKit
theorem fits63 (z : Int) : fits z 63 = sok z := by
  unfold fits sok
  rw [show (2 : Nat) ^ 63 = 9223372036854775808 by decide]
  by_cases h : z < 0
  · rw [if_pos h]
    by_cases h2 : -9223372036854775808 ≤ z
    · rw [decide_eq_false (by omega), decide_eq_true h2, decide_eq_true (by omega)]; rfl
    · rw [decide_eq_true (by omega), decide_eq_false h2]; rfl
  · rw [if_neg h]
    by_cases h2 : z ≤ 9223372036854775807
    · rw [decide_eq_true (by omega), decide_eq_true (by omega), decide_eq_true h2]; rfl
    · rw [decide_eq_false (by omega), decide_eq_true (by omega), decide_eq_false h2]; rfl
theorem fits_is (z : Int) (b : Bool) (w : World) (hz : z.natAbs < B8) (hb : sok z = b) :
    Calls Try.prog 30 #[Bg z, .int .i64 63] w fun e w' => e = .returned (.bool b) ∧ Below w.heap.size w w' := by
  rw [← hb, ← fits63]
  exact fits_any z 63 w (by decide) hz
theorem round_yes (v : Int) (s : Nat) (w : World) (hv : InW v) (hs : s ≤ 126) (hk : sok (rnd v s) = true) :
    Calls Try.prog 20 #[Wv v, .int .i64 s] w fun e w' => e = .returned (.tuple #[.int .i64 (rnd v s), .bool true]) ∧ Below w.heap.size w w' :=
  (round_any v s w hv hs).mono fun e w' ⟨he, hb⟩ => ⟨he.trans (tupleb (show sval (rnd v s) = rnd v s by unfold sval; rw [if_pos hk]) hk), hb⟩
theorem round_not (v : Int) (s : Nat) (w : World) (hv : InW v) (hs : s ≤ 126) (hk : sok (rnd v s) = false) :
    Calls Try.prog 20 #[Wv v, .int .i64 s] w fun e w' => e = .returned (.tuple #[.int .i64 0, .bool false]) ∧ Below w.heap.size w w' :=
  (round_any v s w hv hs).mono fun e w' ⟨he, hb⟩ => ⟨he.trans (tupleb (show sval (rnd v s) = 0 by unfold sval; rw [if_neg (by rw [hk]; simp)]) hk), hb⟩
theorem div_yes (v d : Int) (w : World) (hv : InW v) (d1 : -9223372036854775808 ≤ d) (d2 : d ≤ 9223372036854775807) (d0 : d ≠ 0) (hk : sok (divZ v d) = true) :
    Calls Try.prog 21 #[Wv v, .int .i64 d] w fun e w' => e = .returned (.tuple #[.int .i64 (divZ v d), .bool true]) ∧ Below w.heap.size w w' :=
  (wdiv_any v d w hv d1 d2 d0).mono fun e w' ⟨he, hb⟩ => ⟨he.trans (tupleb (show sval (divZ v d) = divZ v d by unfold sval; rw [if_pos hk]) hk), hb⟩
theorem div_not (v d : Int) (w : World) (hv : InW v) (d1 : -9223372036854775808 ≤ d) (d2 : d ≤ 9223372036854775807) (d0 : d ≠ 0) (hk : sok (divZ v d) = false) :
    Calls Try.prog 21 #[Wv v, .int .i64 d] w fun e w' => e = .returned (.tuple #[.int .i64 0, .bool false]) ∧ Below w.heap.size w w' :=
  (wdiv_any v d w hv d1 d2 d0).mono fun e w' ⟨he, hb⟩ => ⟨he.trans (tupleb (show sval (divZ v d) = 0 by unfold sval; rw [if_neg (by rw [hk]; simp)]) hk), hb⟩
theorem round_r (z : Int) (s : Nat) (w : World) (hs : s ≤ 126) (hz : z.natAbs ≤ 170141183460469231731687303715884105728) :
    Calls Try.prog 36 #[Bg z, .int .i64 s] w fun e w' => e = .returned (Bg (rnd z s)) ∧ Below w.heap.size w w' := by
  have hzB : z.natAbs < B8 := by rw [B8_val]; omega
  rcases Nat.eq_zero_or_pos s with h | h
  · subst h
    rw [rnd_none]
    exact round_zero z w
  · have h2 : 2 ^ (s - 1) ≤ 85070591730234615865843651857942052864 := pow_lt (s - 1) 126 (by omega)
    exact round_ref z s w h hs hzB (by rw [B8_val]; generalize 2 ^ (s - 1) = q at *; omega)
theorem rnd_B (v : Int) (s : Nat) (hv : InW v) : (rnd v s).natAbs < B8 := by
  have h1 : (rnd v s).natAbs = rq v.natAbs s := by unfold rnd withSign; split <;> omega
  have h2 := rq_le' v.natAbs s
  have := hv.lo; have := hv.hi
  rw [h1, B8_val]
  omega
theorem div_B (v d : Int) (hv : InW v) : (divZ v d).natAbs < B8 := by
  have h1 : (divZ v d).natAbs = dq v.natAbs d.natAbs := by rw [divZ_sign]; unfold withSign; split <;> omega
  have h2 := Nat.div_le_self v.natAbs d.natAbs
  have := hv.lo; have := hv.hi
  rw [h1, B8_val]
  unfold dq
  split <;> omega
theorem div_r (v d : Int) (w : World) (hv : InW v) (d1 : -9223372036854775808 ≤ d) (d2 : d ≤ 9223372036854775807) (d0 : d ≠ 0) :
    Calls Try.prog 38 #[Bg v, Bg d] w fun e w' => e = .returned (Bg (divZ v d)) ∧ Below w.heap.size w w' := by
  have h := Nat.div_le_self v.natAbs d.natAbs
  have h1 := hv.lo
  have h2 := hv.hi
  exact div_ref v d w (B8_in hv) d0 (by rw [B8_val]; omega) (by rw [B8_val]; omega)
set_option maxRecDepth 100000 in
set_option maxHeartbeats 8000000 in
theorem walk_v (v : Int) (s d : Int) (w : World) (hv : InW v) (d1 : -9223372036854775808 ≤ d) (d2 : d ≤ 9223372036854775807) :
    Calls Try.prog 5 #[Wv v, .int .i64 s, .int .i64 d] w fun e w' => e = .returned (.bool true) ∧ Below w.heap.size w w' := by
  have hvA : v.natAbs ≤ 170141183460469231731687303715884105728 := by have := hv.lo; have := hv.hi; omega
  have hc : (s < 0) ∨ (¬ s < 0 ∧ 126 < s) ∨ (∃ k : Nat, s = k ∧ k ≤ 126 ∧ sok (rnd v k) = true) ∨ (∃ k : Nat, s = k ∧ k ≤ 126 ∧ sok (rnd v k) = false) := by
    by_cases h1 : s < 0
    · exact .inl h1
    · by_cases h2 : 126 < s
      · exact .inr (.inl ⟨h1, h2⟩)
      · cases hk : sok (rnd v s.toNat)
        · exact .inr (.inr (.inr ⟨s.toNat, by omega, by omega, hk⟩))
        · exact .inr (.inr (.inl ⟨s.toNat, by omega, by omega, hk⟩))
  have hdd : d = 0 ∨ (d ≠ 0 ∧ sok (divZ v d) = true) ∨ (d ≠ 0 ∧ sok (divZ v d) = false) := by
    by_cases h1 : d = 0
    · exact .inl h1
    · cases hk : sok (divZ v d)
      · exact .inr (.inr ⟨h1, rfl⟩)
      · exact .inr (.inl ⟨h1, rfl⟩)
  have HDD := Lib.hid hdd
  clear hdd
  have hrB := fun k => rnd_B v k hv
  have HRB := Lib.hid hrB
  have HDB := Lib.hid (div_B v d hv)
  clear hrB
  rcases hc with h | ⟨h, h'⟩ | ⟨k, rfl, hk, hok⟩ | ⟨k, rfl, hk, hok⟩
  · go_enter Try.func5, Try.ntmps5
    go_wp2_with fail
    generalize hW : World.alloc w _ = W
    have B0 : Blk W w.heap.size #[.int .i64 (wh v), .int .u64 (wl v)] 27 := by subst hW; exact Blk.made _ _ _ rfl
    have hB : Below w.heap.size w W := by subst hW; exact (Below.refl _ _).alloc (Nat.le_refl _) _
    clear hW
    refine (awake_any _).mono ?_
    rintro e w1 ⟨rfl, hb⟩
    have B0 := B0.call hb
    have hB := hB.trans (hb.mono hB.size)
    clear hb
    have c0 := B0.cell 0
    have c1 := B0.cell 1
    simp at c0 c1
    go_wp2_with fail
    refine (round_out v s _ (.inl h)).mono ?_
    rintro e w2 ⟨rfl, hb⟩
    have B0 := B0.call hb
    have hB := hB.trans (hb.mono hB.size)
    clear hb c0 c1
    have c0 := B0.cell 0
    have c1 := B0.cell 1
    simp at c0 c1
    rcases HDD.out with d0 | ⟨d0, hdk⟩ | ⟨d0, hdk⟩
    · subst d0
      go_wp2_with fail
      refine (wdiv_zero v _ hv).mono ?_
      rintro e w10 ⟨rfl, hb⟩
      have hB := hB.trans (hb.mono hB.size)
      clear hb c0 c1
      go_wp2_with fail
      go_ret
      exact ⟨rfl, hB⟩
    · have t1 : (d == 0) = false := beq_eq_false_iff_ne.2 d0
      have D1 := Lib.hid (div_yes v d · hv d1 d2 d0 hdk)
      have D2 := Lib.hid (div_r v d · hv d1 d2 d0)
      have D3 := Lib.hid (fits_is (divZ v d) true · HDB.out hdk)
      have D4 := Lib.hid (small_any (divZ v d) · ((sok_iff _).1 hdk).1 ((sok_iff _).1 hdk).2)
      clear hdk d0
      generalize divZ v d = q at *
      go_wp2_with fail
      refine (D1.out _).mono ?_
      rintro e w10 ⟨rfl, hb⟩
      have B0 := B0.call hb
      have hB := hB.trans (hb.mono hB.size)
      clear hb c0 c1
      have c0 := B0.cell 0
      have c1 := B0.cell 1
      simp at c0 c1
      go_wp2_with fail
      refine (big_any v _ hv).mono ?_
      rintro e w11 ⟨rfl, hb⟩
      have hB := hB.trans (hb.mono hB.size)
      clear hb c0 c1 B0
      go_wp2_with fail
      refine (of_any d _ d1 d2).mono ?_
      rintro e w12 ⟨rfl, hb⟩
      have hB := hB.trans (hb.mono hB.size)
      clear hb
      go_wp2_with fail
      refine (D2.out _).mono ?_
      rintro e w13 ⟨rfl, hb⟩
      have hB := hB.trans (hb.mono hB.size)
      clear hb
      go_upto_region 14 with (fail)
      generalize hX : World.alloc w13 _ = X
      have B1 : Blk X w13.heap.size (row9 (decide (q < 0)) (dg q.natAbs)) 38 := by subst hX; exact Blk.made _ _ _ rfl
      have hB : Below w.heap.size w X := by subst hX; exact hB.alloc hB.size _
      clear hX
      obtain ⟨a0, a1, a2, a3, a4, a5, a6, a7, a8⟩ := Has9.cells B1
      go_wp2_with fail
      refine (D3.out _).mono ?_
      rintro e w14 ⟨rfl, hb⟩
      have B1 := Blk.call B1 hb
      have hB := hB.trans (hb.mono hB.size)
      clear hb a0 a1 a2 a3 a4 a5 a6 a7 a8
      obtain ⟨a0, a1, a2, a3, a4, a5, a6, a7, a8⟩ := Has9.cells B1
      go_wp2_with fail
      refine (D4.out _).mono ?_
      rintro e w15 ⟨rfl, hb⟩
      have hB := hB.trans (hb.mono hB.size)
      clear hb
      go_wp2_with fail
      go_ret
      exact ⟨rfl, hB⟩
    · have t1 : (d == 0) = false := beq_eq_false_iff_ne.2 d0
      have D1 := Lib.hid (div_not v d · hv d1 d2 d0 hdk)
      have D2 := Lib.hid (div_r v d · hv d1 d2 d0)
      have D3 := Lib.hid (fits_is (divZ v d) false · HDB.out hdk)
      clear hdk d0
      generalize divZ v d = q at *
      go_wp2_with fail
      refine (D1.out _).mono ?_
      rintro e w10 ⟨rfl, hb⟩
      have B0 := B0.call hb
      have hB := hB.trans (hb.mono hB.size)
      clear hb c0 c1
      have c0 := B0.cell 0
      have c1 := B0.cell 1
      simp at c0 c1
      go_wp2_with fail
      refine (big_any v _ hv).mono ?_
      rintro e w11 ⟨rfl, hb⟩
      have hB := hB.trans (hb.mono hB.size)
      clear hb c0 c1 B0
      go_wp2_with fail
      refine (of_any d _ d1 d2).mono ?_
      rintro e w12 ⟨rfl, hb⟩
      have hB := hB.trans (hb.mono hB.size)
      clear hb
      go_wp2_with fail
      refine (D2.out _).mono ?_
      rintro e w13 ⟨rfl, hb⟩
      have hB := hB.trans (hb.mono hB.size)
      clear hb
      go_upto_region 14 with (fail)
      generalize hX : World.alloc w13 _ = X
      have B1 : Blk X w13.heap.size (row9 (decide (q < 0)) (dg q.natAbs)) 38 := by subst hX; exact Blk.made _ _ _ rfl
      have hB : Below w.heap.size w X := by subst hX; exact hB.alloc hB.size _
      clear hX
      obtain ⟨a0, a1, a2, a3, a4, a5, a6, a7, a8⟩ := Has9.cells B1
      go_wp2_with fail
      refine (D3.out _).mono ?_
      rintro e w14 ⟨rfl, hb⟩
      have B1 := Blk.call B1 hb
      have hB := hB.trans (hb.mono hB.size)
      clear hb a0 a1 a2 a3 a4 a5 a6 a7 a8
      obtain ⟨a0, a1, a2, a3, a4, a5, a6, a7, a8⟩ := Has9.cells B1
      go_wp2_with fail
      go_ret
      exact ⟨rfl, hB⟩
  · go_enter Try.func5, Try.ntmps5
    go_wp2_with fail
    generalize hW : World.alloc w _ = W
    have B0 : Blk W w.heap.size #[.int .i64 (wh v), .int .u64 (wl v)] 27 := by subst hW; exact Blk.made _ _ _ rfl
    have hB : Below w.heap.size w W := by subst hW; exact (Below.refl _ _).alloc (Nat.le_refl _) _
    clear hW
    refine (awake_any _).mono ?_
    rintro e w1 ⟨rfl, hb⟩
    have B0 := B0.call hb
    have hB := hB.trans (hb.mono hB.size)
    clear hb
    have c0 := B0.cell 0
    have c1 := B0.cell 1
    simp at c0 c1
    go_wp2_with fail
    refine (round_out v s _ (.inr h')).mono ?_
    rintro e w2 ⟨rfl, hb⟩
    have B0 := B0.call hb
    have hB := hB.trans (hb.mono hB.size)
    clear hb c0 c1
    have c0 := B0.cell 0
    have c1 := B0.cell 1
    simp at c0 c1
    rcases HDD.out with d0 | ⟨d0, hdk⟩ | ⟨d0, hdk⟩
    · subst d0
      go_wp2_with fail
      refine (wdiv_zero v _ hv).mono ?_
      rintro e w10 ⟨rfl, hb⟩
      have hB := hB.trans (hb.mono hB.size)
      clear hb c0 c1
      go_wp2_with fail
      go_ret
      exact ⟨rfl, hB⟩
    · have t1 : (d == 0) = false := beq_eq_false_iff_ne.2 d0
      have D1 := Lib.hid (div_yes v d · hv d1 d2 d0 hdk)
      have D2 := Lib.hid (div_r v d · hv d1 d2 d0)
      have D3 := Lib.hid (fits_is (divZ v d) true · HDB.out hdk)
      have D4 := Lib.hid (small_any (divZ v d) · ((sok_iff _).1 hdk).1 ((sok_iff _).1 hdk).2)
      clear hdk d0
      generalize divZ v d = q at *
      go_wp2_with fail
      refine (D1.out _).mono ?_
      rintro e w10 ⟨rfl, hb⟩
      have B0 := B0.call hb
      have hB := hB.trans (hb.mono hB.size)
      clear hb c0 c1
      have c0 := B0.cell 0
      have c1 := B0.cell 1
      simp at c0 c1
      go_wp2_with fail
      refine (big_any v _ hv).mono ?_
      rintro e w11 ⟨rfl, hb⟩
      have hB := hB.trans (hb.mono hB.size)
      clear hb c0 c1 B0
      go_wp2_with fail
      refine (of_any d _ d1 d2).mono ?_
      rintro e w12 ⟨rfl, hb⟩
      have hB := hB.trans (hb.mono hB.size)
      clear hb
      go_wp2_with fail
      refine (D2.out _).mono ?_
      rintro e w13 ⟨rfl, hb⟩
      have hB := hB.trans (hb.mono hB.size)
      clear hb
      go_upto_region 14 with (fail)
      generalize hX : World.alloc w13 _ = X
      have B1 : Blk X w13.heap.size (row9 (decide (q < 0)) (dg q.natAbs)) 38 := by subst hX; exact Blk.made _ _ _ rfl
      have hB : Below w.heap.size w X := by subst hX; exact hB.alloc hB.size _
      clear hX
      obtain ⟨a0, a1, a2, a3, a4, a5, a6, a7, a8⟩ := Has9.cells B1
      go_wp2_with fail
      refine (D3.out _).mono ?_
      rintro e w14 ⟨rfl, hb⟩
      have B1 := Blk.call B1 hb
      have hB := hB.trans (hb.mono hB.size)
      clear hb a0 a1 a2 a3 a4 a5 a6 a7 a8
      obtain ⟨a0, a1, a2, a3, a4, a5, a6, a7, a8⟩ := Has9.cells B1
      go_wp2_with fail
      refine (D4.out _).mono ?_
      rintro e w15 ⟨rfl, hb⟩
      have hB := hB.trans (hb.mono hB.size)
      clear hb
      go_wp2_with fail
      go_ret
      exact ⟨rfl, hB⟩
    · have t1 : (d == 0) = false := beq_eq_false_iff_ne.2 d0
      have D1 := Lib.hid (div_not v d · hv d1 d2 d0 hdk)
      have D2 := Lib.hid (div_r v d · hv d1 d2 d0)
      have D3 := Lib.hid (fits_is (divZ v d) false · HDB.out hdk)
      clear hdk d0
      generalize divZ v d = q at *
      go_wp2_with fail
      refine (D1.out _).mono ?_
      rintro e w10 ⟨rfl, hb⟩
      have B0 := B0.call hb
      have hB := hB.trans (hb.mono hB.size)
      clear hb c0 c1
      have c0 := B0.cell 0
      have c1 := B0.cell 1
      simp at c0 c1
      go_wp2_with fail
      refine (big_any v _ hv).mono ?_
      rintro e w11 ⟨rfl, hb⟩
      have hB := hB.trans (hb.mono hB.size)
      clear hb c0 c1 B0
      go_wp2_with fail
      refine (of_any d _ d1 d2).mono ?_
      rintro e w12 ⟨rfl, hb⟩
      have hB := hB.trans (hb.mono hB.size)
      clear hb
      go_wp2_with fail
      refine (D2.out _).mono ?_
      rintro e w13 ⟨rfl, hb⟩
      have hB := hB.trans (hb.mono hB.size)
      clear hb
      go_upto_region 14 with (fail)
      generalize hX : World.alloc w13 _ = X
      have B1 : Blk X w13.heap.size (row9 (decide (q < 0)) (dg q.natAbs)) 38 := by subst hX; exact Blk.made _ _ _ rfl
      have hB : Below w.heap.size w X := by subst hX; exact hB.alloc hB.size _
      clear hX
      obtain ⟨a0, a1, a2, a3, a4, a5, a6, a7, a8⟩ := Has9.cells B1
      go_wp2_with fail
      refine (D3.out _).mono ?_
      rintro e w14 ⟨rfl, hb⟩
      have B1 := Blk.call B1 hb
      have hB := hB.trans (hb.mono hB.size)
      clear hb a0 a1 a2 a3 a4 a5 a6 a7 a8
      obtain ⟨a0, a1, a2, a3, a4, a5, a6, a7, a8⟩ := Has9.cells B1
      go_wp2_with fail
      go_ret
      exact ⟨rfl, hB⟩
  · have g1 : ¬ (k : Int) < 0 := by omega
    have g2 : ¬ (126 : Int) < (k : Int) := by omega
    have R1 := Lib.hid (round_yes v k · hv hk hok)
    have R2 := Lib.hid (round_r v k · hk hvA)
    have R3 := Lib.hid (fits_is (rnd v k) true · (HRB.out k) hok)
    have R4 := Lib.hid (small_any (rnd v k) · ((sok_iff _).1 hok).1 ((sok_iff _).1 hok).2)
    clear hok
    generalize rnd v k = p at *
    go_enter Try.func5, Try.ntmps5
    go_wp2_with fail
    generalize hW : World.alloc w _ = W
    have B0 : Blk W w.heap.size #[.int .i64 (wh v), .int .u64 (wl v)] 27 := by subst hW; exact Blk.made _ _ _ rfl
    have hB : Below w.heap.size w W := by subst hW; exact (Below.refl _ _).alloc (Nat.le_refl _) _
    clear hW
    refine (awake_any _).mono ?_
    rintro e w1 ⟨rfl, hb⟩
    have B0 := B0.call hb
    have hB := hB.trans (hb.mono hB.size)
    clear hb
    have c0 := B0.cell 0
    have c1 := B0.cell 1
    simp at c0 c1
    go_wp2_with fail
    refine (R1.out _).mono ?_
    rintro e w2 ⟨rfl, hb⟩
    have B0 := B0.call hb
    have hB := hB.trans (hb.mono hB.size)
    clear hb c0 c1
    have c0 := B0.cell 0
    have c1 := B0.cell 1
    simp at c0 c1
    go_wp2_with fail
    refine (big_any v _ hv).mono ?_
    rintro e w3 ⟨rfl, hb⟩
    have B0 := B0.call hb
    have hB := hB.trans (hb.mono hB.size)
    clear hb c0 c1
    have c0 := B0.cell 0
    have c1 := B0.cell 1
    simp at c0 c1
    go_wp2_with fail
    refine (R2.out _).mono ?_
    rintro e w4 ⟨rfl, hb⟩
    have B0 := B0.call hb
    have hB := hB.trans (hb.mono hB.size)
    clear hb c0 c1
    have c0 := B0.cell 0
    have c1 := B0.cell 1
    simp at c0 c1
    go_upto_region 8 with (fail)
    generalize hX : World.alloc w4 _ = X
    have B1 : Blk X w4.heap.size (row9 (decide (p < 0)) (dg p.natAbs)) 38 := by subst hX; exact Blk.made _ _ _ rfl
    have B0 : Blk X w.heap.size #[.int .i64 (wh v), .int .u64 (wl v)] 27 := by subst hX; exact B0.alloc _
    have hB : Below w.heap.size w X := by subst hX; exact hB.alloc hB.size _
    clear hX c0 c1
    obtain ⟨a0, a1, a2, a3, a4, a5, a6, a7, a8⟩ := Has9.cells B1
    go_wp2_with fail
    refine (R3.out _).mono ?_
    rintro e w5 ⟨rfl, hb⟩
    have B1 := Blk.call B1 hb
    have B0 := B0.call hb
    have hB := hB.trans (hb.mono hB.size)
    clear hb a0 a1 a2 a3 a4 a5 a6 a7 a8
    obtain ⟨a0, a1, a2, a3, a4, a5, a6, a7, a8⟩ := Has9.cells B1
    go_wp2_with fail
    refine (R4.out _).mono ?_
    rintro e w6 ⟨rfl, hb⟩
    have B0 := B0.call hb
    have hB := hB.trans (hb.mono hB.size)
    clear hb a0 a1 a2 a3 a4 a5 a6 a7 a8 B1
    have c0 := B0.cell 0
    have c1 := B0.cell 1
    simp at c0 c1
    rcases HDD.out with d0 | ⟨d0, hdk⟩ | ⟨d0, hdk⟩
    · subst d0
      go_wp2_with fail
      refine (wdiv_zero v _ hv).mono ?_
      rintro e w10 ⟨rfl, hb⟩
      have hB := hB.trans (hb.mono hB.size)
      clear hb c0 c1
      go_wp2_with fail
      go_ret
      exact ⟨rfl, hB⟩
    · have t1 : (d == 0) = false := beq_eq_false_iff_ne.2 d0
      have D1 := Lib.hid (div_yes v d · hv d1 d2 d0 hdk)
      have D2 := Lib.hid (div_r v d · hv d1 d2 d0)
      have D3 := Lib.hid (fits_is (divZ v d) true · HDB.out hdk)
      have D4 := Lib.hid (small_any (divZ v d) · ((sok_iff _).1 hdk).1 ((sok_iff _).1 hdk).2)
      clear hdk d0
      generalize divZ v d = q at *
      go_wp2_with fail
      refine (D1.out _).mono ?_
      rintro e w10 ⟨rfl, hb⟩
      have B0 := B0.call hb
      have hB := hB.trans (hb.mono hB.size)
      clear hb c0 c1
      have c0 := B0.cell 0
      have c1 := B0.cell 1
      simp at c0 c1
      go_wp2_with fail
      refine (big_any v _ hv).mono ?_
      rintro e w11 ⟨rfl, hb⟩
      have hB := hB.trans (hb.mono hB.size)
      clear hb c0 c1 B0
      go_wp2_with fail
      refine (of_any d _ d1 d2).mono ?_
      rintro e w12 ⟨rfl, hb⟩
      have hB := hB.trans (hb.mono hB.size)
      clear hb
      go_wp2_with fail
      refine (D2.out _).mono ?_
      rintro e w13 ⟨rfl, hb⟩
      have hB := hB.trans (hb.mono hB.size)
      clear hb
      go_upto_region 14 with (fail)
      generalize hX : World.alloc w13 _ = X
      have B1 : Blk X w13.heap.size (row9 (decide (q < 0)) (dg q.natAbs)) 38 := by subst hX; exact Blk.made _ _ _ rfl
      have hB : Below w.heap.size w X := by subst hX; exact hB.alloc hB.size _
      clear hX
      obtain ⟨a0, a1, a2, a3, a4, a5, a6, a7, a8⟩ := Has9.cells B1
      go_wp2_with fail
      refine (D3.out _).mono ?_
      rintro e w14 ⟨rfl, hb⟩
      have B1 := Blk.call B1 hb
      have hB := hB.trans (hb.mono hB.size)
      clear hb a0 a1 a2 a3 a4 a5 a6 a7 a8
      obtain ⟨a0, a1, a2, a3, a4, a5, a6, a7, a8⟩ := Has9.cells B1
      go_wp2_with fail
      refine (D4.out _).mono ?_
      rintro e w15 ⟨rfl, hb⟩
      have hB := hB.trans (hb.mono hB.size)
      clear hb
      go_wp2_with fail
      go_ret
      exact ⟨rfl, hB⟩
    · have t1 : (d == 0) = false := beq_eq_false_iff_ne.2 d0
      have D1 := Lib.hid (div_not v d · hv d1 d2 d0 hdk)
      have D2 := Lib.hid (div_r v d · hv d1 d2 d0)
      have D3 := Lib.hid (fits_is (divZ v d) false · HDB.out hdk)
      clear hdk d0
      generalize divZ v d = q at *
      go_wp2_with fail
      refine (D1.out _).mono ?_
      rintro e w10 ⟨rfl, hb⟩
      have B0 := B0.call hb
      have hB := hB.trans (hb.mono hB.size)
      clear hb c0 c1
      have c0 := B0.cell 0
      have c1 := B0.cell 1
      simp at c0 c1
      go_wp2_with fail
      refine (big_any v _ hv).mono ?_
      rintro e w11 ⟨rfl, hb⟩
      have hB := hB.trans (hb.mono hB.size)
      clear hb c0 c1 B0
      go_wp2_with fail
      refine (of_any d _ d1 d2).mono ?_
      rintro e w12 ⟨rfl, hb⟩
      have hB := hB.trans (hb.mono hB.size)
      clear hb
      go_wp2_with fail
      refine (D2.out _).mono ?_
      rintro e w13 ⟨rfl, hb⟩
      have hB := hB.trans (hb.mono hB.size)
      clear hb
      go_upto_region 14 with (fail)
      generalize hX : World.alloc w13 _ = X
      have B1 : Blk X w13.heap.size (row9 (decide (q < 0)) (dg q.natAbs)) 38 := by subst hX; exact Blk.made _ _ _ rfl
      have hB : Below w.heap.size w X := by subst hX; exact hB.alloc hB.size _
      clear hX
      obtain ⟨a0, a1, a2, a3, a4, a5, a6, a7, a8⟩ := Has9.cells B1
      go_wp2_with fail
      refine (D3.out _).mono ?_
      rintro e w14 ⟨rfl, hb⟩
      have B1 := Blk.call B1 hb
      have hB := hB.trans (hb.mono hB.size)
      clear hb a0 a1 a2 a3 a4 a5 a6 a7 a8
      obtain ⟨a0, a1, a2, a3, a4, a5, a6, a7, a8⟩ := Has9.cells B1
      go_wp2_with fail
      go_ret
      exact ⟨rfl, hB⟩
  · have g1 : ¬ (k : Int) < 0 := by omega
    have g2 : ¬ (126 : Int) < (k : Int) := by omega
    have R1 := Lib.hid (round_not v k · hv hk hok)
    have R2 := Lib.hid (round_r v k · hk hvA)
    have R3 := Lib.hid (fits_is (rnd v k) false · (HRB.out k) hok)
    clear hok
    generalize rnd v k = p at *
    go_enter Try.func5, Try.ntmps5
    go_wp2_with fail
    generalize hW : World.alloc w _ = W
    have B0 : Blk W w.heap.size #[.int .i64 (wh v), .int .u64 (wl v)] 27 := by subst hW; exact Blk.made _ _ _ rfl
    have hB : Below w.heap.size w W := by subst hW; exact (Below.refl _ _).alloc (Nat.le_refl _) _
    clear hW
    refine (awake_any _).mono ?_
    rintro e w1 ⟨rfl, hb⟩
    have B0 := B0.call hb
    have hB := hB.trans (hb.mono hB.size)
    clear hb
    have c0 := B0.cell 0
    have c1 := B0.cell 1
    simp at c0 c1
    go_wp2_with fail
    refine (R1.out _).mono ?_
    rintro e w2 ⟨rfl, hb⟩
    have B0 := B0.call hb
    have hB := hB.trans (hb.mono hB.size)
    clear hb c0 c1
    have c0 := B0.cell 0
    have c1 := B0.cell 1
    simp at c0 c1
    go_wp2_with fail
    refine (big_any v _ hv).mono ?_
    rintro e w3 ⟨rfl, hb⟩
    have B0 := B0.call hb
    have hB := hB.trans (hb.mono hB.size)
    clear hb c0 c1
    have c0 := B0.cell 0
    have c1 := B0.cell 1
    simp at c0 c1
    go_wp2_with fail
    refine (R2.out _).mono ?_
    rintro e w4 ⟨rfl, hb⟩
    have B0 := B0.call hb
    have hB := hB.trans (hb.mono hB.size)
    clear hb c0 c1
    have c0 := B0.cell 0
    have c1 := B0.cell 1
    simp at c0 c1
    go_upto_region 8 with (fail)
    generalize hX : World.alloc w4 _ = X
    have B1 : Blk X w4.heap.size (row9 (decide (p < 0)) (dg p.natAbs)) 38 := by subst hX; exact Blk.made _ _ _ rfl
    have B0 : Blk X w.heap.size #[.int .i64 (wh v), .int .u64 (wl v)] 27 := by subst hX; exact B0.alloc _
    have hB : Below w.heap.size w X := by subst hX; exact hB.alloc hB.size _
    clear hX c0 c1
    obtain ⟨a0, a1, a2, a3, a4, a5, a6, a7, a8⟩ := Has9.cells B1
    go_wp2_with fail
    refine (R3.out _).mono ?_
    rintro e w5 ⟨rfl, hb⟩
    have B1 := Blk.call B1 hb
    have B0 := B0.call hb
    have hB := hB.trans (hb.mono hB.size)
    clear hb a0 a1 a2 a3 a4 a5 a6 a7 a8
    obtain ⟨a0, a1, a2, a3, a4, a5, a6, a7, a8⟩ := Has9.cells B1
    clear a0 a1 a2 a3 a4 a5 a6 a7 a8 B1
    have c0 := B0.cell 0
    have c1 := B0.cell 1
    simp at c0 c1
    rcases HDD.out with d0 | ⟨d0, hdk⟩ | ⟨d0, hdk⟩
    · subst d0
      go_wp2_with fail
      refine (wdiv_zero v _ hv).mono ?_
      rintro e w10 ⟨rfl, hb⟩
      have hB := hB.trans (hb.mono hB.size)
      clear hb c0 c1
      go_wp2_with fail
      go_ret
      exact ⟨rfl, hB⟩
    · have t1 : (d == 0) = false := beq_eq_false_iff_ne.2 d0
      have D1 := Lib.hid (div_yes v d · hv d1 d2 d0 hdk)
      have D2 := Lib.hid (div_r v d · hv d1 d2 d0)
      have D3 := Lib.hid (fits_is (divZ v d) true · HDB.out hdk)
      have D4 := Lib.hid (small_any (divZ v d) · ((sok_iff _).1 hdk).1 ((sok_iff _).1 hdk).2)
      clear hdk d0
      generalize divZ v d = q at *
      go_wp2_with fail
      refine (D1.out _).mono ?_
      rintro e w10 ⟨rfl, hb⟩
      have B0 := B0.call hb
      have hB := hB.trans (hb.mono hB.size)
      clear hb c0 c1
      have c0 := B0.cell 0
      have c1 := B0.cell 1
      simp at c0 c1
      go_wp2_with fail
      refine (big_any v _ hv).mono ?_
      rintro e w11 ⟨rfl, hb⟩
      have hB := hB.trans (hb.mono hB.size)
      clear hb c0 c1 B0
      go_wp2_with fail
      refine (of_any d _ d1 d2).mono ?_
      rintro e w12 ⟨rfl, hb⟩
      have hB := hB.trans (hb.mono hB.size)
      clear hb
      go_wp2_with fail
      refine (D2.out _).mono ?_
      rintro e w13 ⟨rfl, hb⟩
      have hB := hB.trans (hb.mono hB.size)
      clear hb
      go_upto_region 14 with (fail)
      generalize hX : World.alloc w13 _ = X
      have B1 : Blk X w13.heap.size (row9 (decide (q < 0)) (dg q.natAbs)) 38 := by subst hX; exact Blk.made _ _ _ rfl
      have hB : Below w.heap.size w X := by subst hX; exact hB.alloc hB.size _
      clear hX
      obtain ⟨a0, a1, a2, a3, a4, a5, a6, a7, a8⟩ := Has9.cells B1
      go_wp2_with fail
      refine (D3.out _).mono ?_
      rintro e w14 ⟨rfl, hb⟩
      have B1 := Blk.call B1 hb
      have hB := hB.trans (hb.mono hB.size)
      clear hb a0 a1 a2 a3 a4 a5 a6 a7 a8
      obtain ⟨a0, a1, a2, a3, a4, a5, a6, a7, a8⟩ := Has9.cells B1
      go_wp2_with fail
      refine (D4.out _).mono ?_
      rintro e w15 ⟨rfl, hb⟩
      have hB := hB.trans (hb.mono hB.size)
      clear hb
      go_wp2_with fail
      go_ret
      exact ⟨rfl, hB⟩
    · have t1 : (d == 0) = false := beq_eq_false_iff_ne.2 d0
      have D1 := Lib.hid (div_not v d · hv d1 d2 d0 hdk)
      have D2 := Lib.hid (div_r v d · hv d1 d2 d0)
      have D3 := Lib.hid (fits_is (divZ v d) false · HDB.out hdk)
      clear hdk d0
      generalize divZ v d = q at *
      go_wp2_with fail
      refine (D1.out _).mono ?_
      rintro e w10 ⟨rfl, hb⟩
      have B0 := B0.call hb
      have hB := hB.trans (hb.mono hB.size)
      clear hb c0 c1
      have c0 := B0.cell 0
      have c1 := B0.cell 1
      simp at c0 c1
      go_wp2_with fail
      refine (big_any v _ hv).mono ?_
      rintro e w11 ⟨rfl, hb⟩
      have hB := hB.trans (hb.mono hB.size)
      clear hb c0 c1 B0
      go_wp2_with fail
      refine (of_any d _ d1 d2).mono ?_
      rintro e w12 ⟨rfl, hb⟩
      have hB := hB.trans (hb.mono hB.size)
      clear hb
      go_wp2_with fail
      refine (D2.out _).mono ?_
      rintro e w13 ⟨rfl, hb⟩
      have hB := hB.trans (hb.mono hB.size)
      clear hb
      go_upto_region 14 with (fail)
      generalize hX : World.alloc w13 _ = X
      have B1 : Blk X w13.heap.size (row9 (decide (q < 0)) (dg q.natAbs)) 38 := by subst hX; exact Blk.made _ _ _ rfl
      have hB : Below w.heap.size w X := by subst hX; exact hB.alloc hB.size _
      clear hX
      obtain ⟨a0, a1, a2, a3, a4, a5, a6, a7, a8⟩ := Has9.cells B1
      go_wp2_with fail
      refine (D3.out _).mono ?_
      rintro e w14 ⟨rfl, hb⟩
      have B1 := Blk.call B1 hb
      have hB := hB.trans (hb.mono hB.size)
      clear hb a0 a1 a2 a3 a4 a5 a6 a7 a8
      obtain ⟨a0, a1, a2, a3, a4, a5, a6, a7, a8⟩ := Has9.cells B1
      go_wp2_with fail
      go_ret
      exact ⟨rfl, hB⟩
theorem walk (a b : Int) (wa : (Lit.int .i64 a).wf = true) (wb : (Lit.int .u64 b).wf = true) (s : Int) (_ws : (Lit.int .i64 s).wf = true) (d : Int) (wd : (Lit.int .i64 d).wf = true) (w : World) :
    Calls Try.prog 5 #[.agg #[.int .i64 a, .int .u64 b], .int .i64 s, .int .i64 d] w fun e w' => e = .returned (.bool true) ∧ Below w.heap.size w w' := by
  obtain ⟨a1, a2⟩ := wf_i64 wa
  obtain ⟨b1, b2⟩ := wf_u64 wb
  obtain ⟨d1, d2⟩ := wf_i64 wd
  rw [W_of a b b1 b2]
  exact walk_v _ s d w (W_in a b a1 a2 b1 b2) d1 d2
end Go.Proofs.Ytfofhambacmpbaa.wideRounds
