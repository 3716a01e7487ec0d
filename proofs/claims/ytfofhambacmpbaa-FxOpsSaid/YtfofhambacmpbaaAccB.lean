/- The document's own scalars: Sub, Mul, MulDiv, Div. -/
import Derived.Test.YtfofhambacmpbaaAccA
namespace Go.Proofs.Ytfofhambacmpbaa
open Go.RowKit

theorem satv_abs (a : Int) : (satv a).natAbs ≤ 1152921504606846976 := by have := satv_lo a; have := satv_hi a; omega
theorem big_lt {n : Nat} (h : n ≤ 115792089237316195423570985008687907853269984665640564039457584007913129639935) : n < B8 := by rw [B8_val]; omega
theorem mul_abs (a b : Int) : (satv a * satv b).natAbs ≤ 1329227995784915872903807060280344576 := by
  rw [Int.natAbs_mul]
  exact Nat.mul_le_mul (satv_abs a) (satv_abs b)
theorem rnd_abs' (v : Int) (s : Nat) : (rnd v s).natAbs ≤ v.natAbs := by
  have h := rq_le' v.natAbs s
  unfold rnd withSign
  split <;> omega
theorem round_r' (z : Int) (s : Nat) (w : World) (hs : s ≤ 126) (hz : z.natAbs ≤ 170141183460469231731687303715884105728) :
    Calls Try.prog 36 #[Bg z, .int .i64 s] w fun e w' => e = .returned (Bg (rnd z s)) ∧ Below w.heap.size w w' := by
  have hzB : z.natAbs < B8 := big_lt (by omega)
  rcases Nat.eq_zero_or_pos s with h | h
  · subst h
    rw [rnd_none]
    exact round_zero z w
  · have h2 : 2 ^ (s - 1) ≤ 85070591730234615865843651857942052864 := pow_lt (s - 1) 126 (by omega)
    exact round_ref z s w h hs hzB (big_lt (by generalize 2 ^ (s - 1) = q at *; omega))
set_option maxRecDepth 100000 in
set_option maxHeartbeats 2000000 in
theorem rsub_any (p o : Nat) (a b : Int) (h : Bool) (w : World) (f : Fl p o h w) :
    Calls Try.prog 51 #[.pointer (some ⟨p, o, none⟩), .int .i64 a, .int .i64 b] w fun e w' => e = .returned (.int .i64 (satv (satv a - satv b))) ∧ FlW p o (h || sath a || sath b || sath (satv a - satv b)) w w' := by
  have a1 := satv_abs a
  have b1 := satv_abs b
  have l1 := satv_lo a
  have l2 := satv_hi a
  have l3 := satv_lo b
  have l4 := satv_hi b
  have n1 : (satv a).natAbs < B8 := big_lt (by omega)
  have n2 : (satv b).natAbs < B8 := big_lt (by omega)
  have n3 : (-satv b).natAbs < B8 := big_lt (by omega)
  have n4 : (satv a).natAbs + (-satv b).natAbs < B8 := big_lt (by omega)
  have n5 : (satv a - satv b).natAbs < B8 := big_lt (by omega)
  have HE := Lib.hid (show satv a + -satv b = satv a - satv b by omega)
  go_enter Try.func51, Try.ntmps51
  go_wp2_with fail
  refine (rsat_any p o a h _ f).mono ?_
  rintro e w1 ⟨rfl, k⟩
  have f := k.fl f
  go_wp2_with fail
  refine (of_any (satv a) _ (by omega) (by omega)).mono ?_
  rintro e w2 ⟨rfl, hb⟩
  have k := k.then hb
  have f := f.below hb
  clear hb
  go_wp2_with fail
  refine (rsat_any p o b _ _ f).mono ?_
  rintro e w3 ⟨rfl, k2⟩
  have f := k2.fl f
  have k := k.trans k2
  clear k2
  go_wp2_with fail
  refine (of_any (satv b) _ (by omega) (by omega)).mono ?_
  rintro e w4 ⟨rfl, hb⟩
  have k := k.then hb
  have f := f.below hb
  clear hb
  go_wp2_with fail
  refine (neg_any (satv b) _ n2).mono ?_
  rintro e w5 ⟨rfl, hb⟩
  have k := k.then hb
  have f := f.below hb
  clear hb
  go_wp2_with fail
  refine (add_any (satv a) (-satv b) _ n1 n3 n4).mono ?_
  rintro e w6 ⟨rfl, hb⟩
  have k := k.then hb
  have f := f.below hb
  clear hb
  rw [HE.out]
  go_wp2_with fail
  refine (end_any p o (satv a - satv b) _ _ f n5).mono ?_
  rintro e w7 ⟨rfl, k2⟩
  go_wp2_with fail
  go_ret
  exact ⟨rfl, k.trans k2⟩
set_option maxRecDepth 100000 in
set_option maxHeartbeats 2000000 in
theorem rmul_any (p o : Nat) (a b : Int) (s : Nat) (h : Bool) (w : World) (f : Fl p o h w) (hs : s ≤ 120) :
    Calls Try.prog 52 #[.pointer (some ⟨p, o, none⟩), .int .i64 a, .int .i64 b, .int .i64 s] w fun e w' => e = .returned (.int .i64 (satv (rnd (satv a * satv b) s))) ∧ FlW p o (h || sath a || sath b || sath (rnd (satv a * satv b) s)) w w' := by
  have g1 : ¬ (s : Int) < 0 := by omega
  have g2 : ¬ (120 : Int) < s := by omega
  have a1 := satv_abs a
  have b1 := satv_abs b
  have l1 := satv_lo a
  have l2 := satv_hi a
  have l3 := satv_lo b
  have l4 := satv_hi b
  have n1 : (satv a).natAbs < B8 := big_lt (by omega)
  have n2 : (satv a).natAbs * (satv b).natAbs < B8 := big_lt (by have := mul_abs a b; rw [Int.natAbs_mul] at this; omega)
  have n3 : (satv a * satv b).natAbs ≤ 170141183460469231731687303715884105728 := by have := mul_abs a b; omega
  have n4 : (rnd (satv a * satv b) s).natAbs < B8 := big_lt (by have := rnd_abs' (satv a * satv b) s; omega)
  go_enter Try.func52, Try.ntmps52
  go_wp2_with fail
  refine (rsat_any p o a h _ f).mono ?_
  rintro e w1 ⟨rfl, k⟩
  have f := k.fl f
  go_wp2_with fail
  refine (of_any (satv a) _ (by omega) (by omega)).mono ?_
  rintro e w2 ⟨rfl, hb⟩
  have k := k.then hb
  have f := f.below hb
  clear hb
  go_wp2_with fail
  refine (rsat_any p o b _ _ f).mono ?_
  rintro e w3 ⟨rfl, k2⟩
  have f := k2.fl f
  have k := k.trans k2
  clear k2
  go_wp2_with fail
  refine (of_any (satv b) _ (by omega) (by omega)).mono ?_
  rintro e w4 ⟨rfl, hb⟩
  have k := k.then hb
  have f := f.below hb
  clear hb
  go_wp2_with fail
  refine (mul_any (satv a) (satv b) _ n1 n2).mono ?_
  rintro e w5 ⟨rfl, hb⟩
  have k := k.then hb
  have f := f.below hb
  clear hb
  go_wp2_with fail
  refine (round_r' (satv a * satv b) s _ (by omega) n3).mono ?_
  rintro e w6 ⟨rfl, hb⟩
  have k := k.then hb
  have f := f.below hb
  clear hb
  go_wp2_with fail
  refine (end_any p o (rnd (satv a * satv b) s) _ _ f n4).mono ?_
  rintro e w7 ⟨rfl, k2⟩
  go_wp2_with fail
  go_ret
  exact ⟨rfl, k.trans k2⟩
theorem rmul_out (p o : Nat) (a b s : Int) (h : Bool) (w : World) (f : Fl p o h w) (hs : s < 0 ∨ 120 < s) :
    Calls Try.prog 52 #[.pointer (some ⟨p, o, none⟩), .int .i64 a, .int .i64 b, .int .i64 s] w fun e w' => e = .returned (.int .i64 0) ∧ FlW p o true w w' := by
  obtain ⟨fc, ff, fl⟩ := f
  by_cases g1 : s < 0
  · go_enter Try.func52, Try.ntmps52
    go_wp2
    go_ret
    exact ⟨rfl, FlW.set _ _⟩
  · have g2 : 120 < s := by omega
    go_enter Try.func52, Try.ntmps52
    go_wp2
    go_ret
    exact ⟨rfl, FlW.set _ _⟩
theorem rdiv_out (p o : Nat) (a b s : Int) (h : Bool) (w : World) (f : Fl p o h w) (hs : s < 0 ∨ 66 < s) :
    Calls Try.prog 53 #[.pointer (some ⟨p, o, none⟩), .int .i64 a, .int .i64 b, .int .i64 s] w fun e w' => e = .returned (.int .i64 0) ∧ FlW p o true w w' := by
  obtain ⟨fc, ff, fl⟩ := f
  by_cases g1 : s < 0
  · go_enter Try.func53, Try.ntmps53
    go_wp2
    go_ret
    exact ⟨rfl, FlW.set _ _⟩
  · have g2 : 66 < s := by omega
    go_enter Try.func53, Try.ntmps53
    go_wp2
    go_ret
    exact ⟨rfl, FlW.set _ _⟩
set_option maxRecDepth 100000 in
set_option maxHeartbeats 2000000 in
theorem nought_any (p o : Nat) (z : Int) (h : Bool) (w : World) (f : Fl p o h w) (hz : z.natAbs < B8) :
    Calls Try.prog 81 #[.pointer (some ⟨p, o, none⟩), Bg z] w fun e w' => e = .returned (.int .i64 (sideOf z)) ∧ FlW p o true w w' := by
  obtain ⟨fc, ff, fl⟩ := f
  have hne : w.heap.size ≠ p := by omega
  have hcs : z = 0 ∨ (z ≠ 0 ∧ z < 0) ∨ (z ≠ 0 ∧ ¬ z < 0) := by omega
  have HC := Lib.hid hcs
  clear hcs
  have HF := Lib.hid (zero_any z.natAbs · hz)
  go_enter Try.func81, Try.ntmps81
  go_upto_region 2 with (fail)
  generalize hW : World.alloc _ _ = W
  have B0 : Blk W w.heap.size (row9 (decide (z < 0)) (dg z.natAbs)) 38 := by subst hW; exact Blk.made _ _ _ (size_set _ _ _)
  have k : FlW p o true w W := by subst hW; exact (FlW.set true w).alloc _
  clear hW
  obtain ⟨a0, a1, a2, a3, a4, a5, a6, a7, a8⟩ := Has9.cells B0
  go_wp2_with fail
  refine (HF.out _).mono ?_
  rintro e w1 ⟨rfl, hb⟩
  have B0 := B0.call hb
  have k := k.then hb
  have c0 := (Has9.cells B0).1
  clear hb a0 a1 a2 a3 a4 a5 a6 a7 a8
  rcases HC.out with h0 | ⟨h0, h1⟩ | ⟨h0, h1⟩
  · have t1 : decide (z.natAbs = 0) = true := decide_eq_true (by omega)
    have HV := Lib.hid (show sideOf z = 0 by rw [h0]; rfl)
    clear h0
    rw [t1]
    go_wp2_with fail
    go_ret
    exact ⟨ret_int HV.out.symm, k⟩
  · have t1 : decide (z.natAbs = 0) = false := decide_eq_false (by omega)
    have HV := Lib.hid (side_neg h1)
    clear h0
    rw [t1]
    go_wp2_with fail
    go_ret
    exact ⟨ret_int HV.out.symm, k⟩
  · have t1 : decide (z.natAbs = 0) = false := decide_eq_false (by omega)
    have HV := Lib.hid (side_pos (v := z) (by omega))
    clear h0
    rw [t1]
    go_wp2_with fail
    go_ret
    exact ⟨ret_int HV.out.symm, k⟩
end Go.Proofs.Ytfofhambacmpbaa
