/- The document's own scalars again: Sum, Neg, Mul, M. -/
import Derived.Test.YtdleeeahonfnkaaQG
namespace Go.Proofs.Ytdleeeahonfnkaa
open Go.RowKit

theorem sign_mul (x y : Int) (q : Nat) (h : x.natAbs * y.natAbs = 0 → q = 0) : qval (decide (x < 0) != decide (y < 0)) q = withSign (decide (x * y < 0)) q := by
  rcases Int.lt_trichotomy x 0 with hx | hx | hx
  · rcases Int.lt_trichotomy y 0 with hy | hy | hy
    · have := Int.mul_pos_of_neg_of_neg hx hy
      rw [decide_eq_true hx, decide_eq_true hy, decide_eq_false (by omega)]; rfl
    · subst hy
      rw [h (by simp)]; unfold qval withSign; simp
    · have := Int.mul_neg_of_neg_of_pos hx hy
      rw [decide_eq_true hx, decide_eq_false (by omega), decide_eq_true this]; rfl
  · subst hx
    rw [h (by simp)]; unfold qval withSign; simp
  · rcases Int.lt_trichotomy y 0 with hy | hy | hy
    · have := Int.mul_neg_of_pos_of_neg hx hy
      rw [decide_eq_false (by omega), decide_eq_true hy, decide_eq_true this]; rfl
    · subst hy
      rw [h (by simp)]; unfold qval withSign; simp
    · have := Int.mul_pos hx hy
      rw [decide_eq_false (by omega), decide_eq_false (by omega), decide_eq_false (by omega)]; rfl
theorem rnd_mul (x y : Int) (s : Nat) : qval (decide (x < 0) != decide (y < 0)) (rq (x.natAbs * y.natAbs) s : Nat) = rnd (x * y) s := by
  rw [sign_mul x y _ (fun h => by rw [h]; exact rq_zero s)]
  unfold rnd
  rw [Int.natAbs_mul]
theorem mul_in (a b : Int) : (satv a).natAbs * (satv b).natAbs ≤ 1329227995784915872903807060280344576 := by
  have := satv_lo a; have := satv_hi a; have := satv_lo b; have := satv_hi b
  exact Nat.mul_le_mul (show (satv a).natAbs ≤ 1152921504606846976 by omega) (show (satv b).natAbs ≤ 1152921504606846976 by omega)
theorem half_le (s : Nat) (hs : s ≤ 126) : halfOf s ≤ 85070591730234615865843651857942052864 := by
  unfold halfOf
  split
  · omega
  · exact pow_lt (s - 1) 126 (by omega)
theorem rq_bound (n s : Nat) (hs : s ≤ 126) (hn : n ≤ 170141183460469231731687303715884105728) : rq n s < 340282366920938463463374607431768211456 := by
  have := half_le s hs
  have := Nat.div_le_self (n + halfOf s) (2 ^ s)
  unfold rq
  omega
set_option maxHeartbeats 1000000 in
theorem qmul (p o : Nat) (a b : Int) (s : Nat) (h : Bool) (w : World) (f : Fl p o h w) (hs : s ≤ 126) :
    Calls Try.prog 145 #[.pointer (some ⟨p, o, none⟩), .int .i64 a, .int .i64 b, .int .i64 s] w fun e w' => e = .returned (.int .i64 (satv (rnd (satv a * satv b) s))) ∧ FlW p o (h || sath a || sath b || sath (rnd (satv a * satv b) s)) w w' := by
  have l1 := satv_lo a
  have l2 := satv_hi a
  have l3 := satv_lo b
  have l4 := satv_hi b
  have HM := Lib.hid (fun w => q_mul (satv a) (satv b) w l1 l2 l3 l4)
  have HS := Lib.hid (fun (c : Bool) w => q_shift ((satv a).natAbs * (satv b).natAbs) s c w hs (by have := mul_in a b; have := half_le s hs; omega))
  have HE := Lib.hid (fun (c : Bool) h w f => qend p o c (rq ((satv a).natAbs * (satv b).natAbs) s : Nat) h w f (inq_nat (rq_bound _ s hs (by have := mul_in a b; omega))))
  rw [← rnd_mul]
  simp only [Int.natCast_mul] at HS
  go_enter Try.func145, Try.ntmps145
  go_wp2_with fail
  refine (qsat p o a h _ f).mono ?_
  rintro e w1 ⟨rfl, k⟩
  have f := k.fl f
  go_wp2_with fail
  refine (qsat p o b _ _ f).mono ?_
  rintro e w2 ⟨rfl, k2⟩
  have f := k2.fl f
  have k := k.trans k2
  clear k2
  go_wp2_with fail
  refine (HM.out _).mono ?_
  rintro e w3 ⟨rfl, hb⟩
  have f := f.below hb
  have k := k.then hb
  clear hb
  go_wp2_with fail
  refine (HS.out _ _).mono ?_
  rintro e w4 ⟨rfl, hb⟩
  have f := f.below hb
  have k := k.then hb
  clear hb
  go_wp2_with fail
  refine (HE.out _ _ _ f).mono ?_
  rintro e w5 ⟨rfl, k2⟩
  go_wp2_with fail
  go_ret
  exact ⟨rfl, k.trans k2⟩
theorem qm (p o : Nat) (a b : Int) (h : Bool) (w : World) (f : Fl p o h w) :
    Calls Try.prog 111 #[.pointer (some ⟨p, o, none⟩), .int .i64 a, .int .i64 b] w fun e w' => e = .returned (.int .i64 (satv (rnd (satv a * satv b) 30))) ∧ FlW p o (h || sath a || sath b || sath (rnd (satv a * satv b) 30)) w w' := by
  have HM := Lib.hid (qmul p o a b 30 h · · (by omega))
  go_enter Try.func111, Try.ntmps111
  go_wp2_with fail
  refine (HM.out _ f).mono ?_
  rintro e w1 ⟨rfl, k⟩
  go_wp2_with fail
  go_ret
  exact ⟨rfl, k⟩
end Go.Proofs.Ytdleeeahonfnkaa
