/- Together. -/
import Derived.Test.YtfkeljolpcbbkaaPD
import Derived.Test.YtfkeljolpcbbkaaQQA
import Derived.Deep.DeepCutAuto

/- QF -/
namespace Go.Proofs.Ytfkeljolpcbbkaa
open Go.RowKit

set_option maxRecDepth 100000 in
set_option maxHeartbeats 2000000 in
theorem qclamp (p o : Nat) (a lo hi : Int) (h : Bool) (w : World) (f : Fl p o h w) :
    Calls Try.prog 139 #[.pointer (some ⟨p, o, none⟩), .int .i64 a, .int .i64 lo, .int .i64 hi] w fun e w' => e = .returned (.int .i64 (clampv a lo hi)) ∧ FlW p o (h || clamph a lo hi) w w' := by
  obtain ⟨fc, ff, fl⟩ := f
  have hc : (hi < lo ∧ a < lo) ∨ (hi < lo ∧ ¬ a < lo ∧ lo = a) ∨ (hi < lo ∧ ¬ a < lo ∧ lo ≠ a) ∨ (¬ hi < lo ∧ a < lo) ∨ (¬ hi < lo ∧ ¬ a < lo ∧ hi < a) ∨ (¬ hi < lo ∧ ¬ a < lo ∧ ¬ hi < a) := by omega
  cases h
  all_goals
    rcases hc with ⟨h1, h2⟩ | ⟨h1, h2, h3⟩ | ⟨h1, h2, h3⟩ | ⟨h1, h2⟩ | ⟨h1, h2, h3⟩ | ⟨h1, h2, h3⟩
    · have HV := Lib.hid (show clampv a lo hi = lo ∧ clamph a lo hi = true by unfold clampv clamph; rw [if_pos h1, decide_eq_true h1]; exact ⟨rfl, rfl⟩)
      have t : (lo != a) = true := by rw [bne_iff_ne]; omega
      go_enter Try.func139, Try.ntmps139
      go_wp2
      go_ret
      exact ⟨ret_int HV.out.1.symm, flag_is (by simp [HV.out.2]) (FlW.set true _)⟩
    · have HV := Lib.hid (show clampv a lo hi = lo ∧ clamph a lo hi = true by unfold clampv clamph; rw [if_pos h1, decide_eq_true h1]; exact ⟨rfl, rfl⟩)
      subst h3
      go_enter Try.func139, Try.ntmps139
      go_wp2
      go_ret
      exact ⟨ret_int HV.out.1.symm, flag_is (by simp [HV.out.2]) (FlW.set true _)⟩
    · have HV := Lib.hid (show clampv a lo hi = lo ∧ clamph a lo hi = true by unfold clampv clamph; rw [if_pos h1, decide_eq_true h1]; exact ⟨rfl, rfl⟩)
      have t : (lo != a) = true := by rw [bne_iff_ne]; omega
      clear h3
      go_enter Try.func139, Try.ntmps139
      go_wp2
      go_ret
      exact ⟨ret_int HV.out.1.symm, flag_is (by simp [HV.out.2]) (FlW.set true _)⟩
    · have HV := Lib.hid (show clampv a lo hi = lo ∧ clamph a lo hi = true by unfold clampv clamph; rw [if_neg h1, if_pos h2, decide_eq_false h1, decide_eq_true h2]; exact ⟨rfl, rfl⟩)
      have t : (lo != a) = true := by rw [bne_iff_ne]; omega
      go_enter Try.func139, Try.ntmps139
      go_wp2
      go_ret
      exact ⟨ret_int HV.out.1.symm, flag_is (by simp [HV.out.2]) (FlW.set true _)⟩
    · have HV := Lib.hid (show clampv a lo hi = hi ∧ clamph a lo hi = true by unfold clampv clamph; rw [if_neg h1, if_neg h2, if_pos h3, decide_eq_false h1, decide_eq_false h2, decide_eq_true h3]; exact ⟨rfl, rfl⟩)
      have t : (hi != a) = true := by rw [bne_iff_ne]; omega
      go_enter Try.func139, Try.ntmps139
      go_wp2
      go_ret
      exact ⟨ret_int HV.out.1.symm, flag_is (by simp [HV.out.2]) (FlW.set true _)⟩
    · have HV := Lib.hid (show clampv a lo hi = a ∧ clamph a lo hi = false by unfold clampv clamph; rw [if_neg h1, if_neg h2, if_neg h3, decide_eq_false h1, decide_eq_false h2, decide_eq_false h3]; exact ⟨rfl, rfl⟩)
      go_enter Try.func139, Try.ntmps139
      go_wp2
      go_ret
      exact ⟨ret_int HV.out.1.symm, flag_is (by simp [HV.out.2]) (FlW.refl ⟨fc, ff, fl⟩)⟩
theorem qsat (p o : Nat) (a : Int) (h : Bool) (w : World) (f : Fl p o h w) :
    Calls Try.prog 137 #[.pointer (some ⟨p, o, none⟩), .int .i64 a] w fun e w' => e = .returned (.int .i64 (satv a)) ∧ FlW p o (h || sath a) w w' := by
  have hcl := qclamp p o a (-1152921504606846976) 1152921504606846976 h w f
  rw [(clamp_sat a).1, (clamp_sat a).2] at hcl
  have HC := Lib.hid hcl
  clear hcl
  go_enter Try.func137, Try.ntmps137
  go_wp2_with fail
  refine HC.out.mono ?_
  rintro e w1 ⟨rfl, k⟩
  go_wp2_with fail
  go_ret
  exact ⟨rfl, k⟩
theorem qval_small {b : Bool} {n : Int} (h0 : 0 ≤ n) (h : n ≤ 1152921504606846976) : satv (qval b n) = qval b n ∧ sath (qval b n) = false := by
  unfold qval
  cases b <;> simp only [if_true, if_false, Bool.false_eq_true] <;> exact satv_in (by omega) (by omega)
theorem qval_great {b : Bool} {n : Int} (h : 1152921504606846976 < n) : satv (qval b n) = qval b 1152921504606846976 ∧ sath (qval b n) = true := by
  unfold qval
  cases b
  · simp only [if_false, Bool.false_eq_true]; exact satv_over h
  · simp only [if_true]; exact satv_under (by omega)
set_option maxHeartbeats 1000000 in
theorem qend (p o : Nat) (b : Bool) (n : Int) (h : Bool) (w : World) (f : Fl p o h w) (hn : InQ n) :
    Calls Try.prog 148 #[.pointer (some ⟨p, o, none⟩), Qv b n] w fun e w' => e = .returned (.int .i64 (satv (qval b n))) ∧ FlW p o (h || sath (qval b n)) w w' := by
  have l0 := qh_lo hn
  have n0 := hn.lo
  have k0 := wl_lo n
  have k1 := wl_hi n
  obtain ⟨fc, ff, fl⟩ := f
  have hne : w.heap.size ≠ p := by omega
  have hc : (¬ 0 < wh n ∧ ¬ 1152921504606846976 < wl n ∧ n ≤ 1152921504606846976 ∧ wl n = n) ∨ (0 < wh n ∧ 1152921504606846976 < n) ∨ (¬ 0 < wh n ∧ 1152921504606846976 < wl n ∧ 1152921504606846976 < n) := by
    have := hn.hi
    unfold wh wl at *
    omega
  cases b
  all_goals
    rcases hc with ⟨h1, h2, h3, h4⟩ | ⟨h1, h2⟩ | ⟨h1, h2, h3⟩
    · have HV := Lib.hid (fun b => qval_small (b := b) n0 h3)
      rw [(HV.out _).1, (HV.out _).2]
      have HN := Lib.hid (And.intro h3 h4)
      clear h3 h4 n0 hn
      go_enter Try.func148, Try.ntmps148
      go_wp2_with fail
      go_ret
      exact ⟨ret_int (by have e := HN.out.2; unfold qval; simp <;> omega), (FlW.refl ⟨fc, ff, fl⟩).alloc _⟩
    · have HV := Lib.hid (fun b => qval_great (b := b) h2)
      rw [(HV.out _).1, (HV.out _).2]
      clear n0 hn h2
      go_enter Try.func148, Try.ntmps148
      go_wp2_with fail
      go_ret
      exact ⟨ret_int rfl, by rw [Bool.or_true]; exact (FlW.set true w).alloc _⟩
    · have HV := Lib.hid (fun b => qval_great (b := b) h3)
      rw [(HV.out _).1, (HV.out _).2]
      clear n0 hn h3
      go_enter Try.func148, Try.ntmps148
      go_wp2_with fail
      go_ret
      exact ⟨ret_int rfl, (FlW.set true w).alloc _⟩
end Go.Proofs.Ytfkeljolpcbbkaa

/- QG -/
namespace Go.Proofs.Ytfkeljolpcbbkaa
open Go.RowKit

set_option maxHeartbeats 1000000 in
theorem qsub (p o : Nat) (a b : Int) (h : Bool) (w : World) (f : Fl p o h w) :
    Calls Try.prog 145 #[.pointer (some ⟨p, o, none⟩), .int .i64 a, .int .i64 b] w fun e w' => e = .returned (.int .i64 (satv (satv a - satv b))) ∧ FlW p o (h || sath a || sath b || sath (satv a - satv b)) w w' := by
  have l1 := satv_lo a
  have l2 := satv_hi a
  have l3 := satv_lo b
  have l4 := satv_hi b
  have HE := Lib.hid (show IntKind.i64.wrap (satv a - satv b) = satv a - satv b by rw [IntKind.wrap_i64]; omega)
  go_enter Try.func145, Try.ntmps145
  go_wp2_with fail
  refine (qsat p o a h _ f).mono ?_
  rintro e w1 ⟨rfl, k⟩
  have f := k.fl f
  go_wp2_with fail
  refine (qsat p o b _ _ f).mono ?_
  rintro e w2 ⟨rfl, k2⟩
  have f := k2.fl f
  have k := k.trans k2
  clear k2
  go_wp2_with fail
  refine (qsat p o (satv a - satv b) _ _ f).mono ?_
  rintro e w3 ⟨rfl, k3⟩
  go_wp2_with fail
  go_ret
  exact ⟨rfl, k.trans k3⟩
end Go.Proofs.Ytfkeljolpcbbkaa

/- QH -/
namespace Go.Proofs.Ytfkeljolpcbbkaa
open Go.RowKit

theorem sign_mul (x y : Int) (q : Nat) (h : x.natAbs * y.natAbs = 0 → q = 0) : qval (decide (x < 0) != decide (y < 0)) q = withSign (decide (x * y < 0)) q := by
  rcases Int.lt_trichotomy x 0 with hx | hx | hx
  · rcases Int.lt_trichotomy y 0 with hy | hy | hy
    · have := Int.mul_pos_of_neg_of_neg hx hy
      rw [decide_eq_true hx, decide_eq_true hy, decide_eq_false (by omega)]; rfl
    · subst hy
      rw [h (by simp)]; unfold qval withSign; simp
    · have := Int.mul_neg_of_neg_of_pos hx hy
      rw [decide_eq_true hx, decide_eq_false (by omega), decide_eq_true this]; rfl
  · subst hx
    rw [h (by simp)]; unfold qval withSign; simp
  · rcases Int.lt_trichotomy y 0 with hy | hy | hy
    · have := Int.mul_neg_of_pos_of_neg hx hy
      rw [decide_eq_false (by omega), decide_eq_true hy, decide_eq_true this]; rfl
    · subst hy
      rw [h (by simp)]; unfold qval withSign; simp
    · have := Int.mul_pos hx hy
      rw [decide_eq_false (by omega), decide_eq_false (by omega), decide_eq_false (by omega)]; rfl
theorem rnd_mul (x y : Int) (s : Nat) : qval (decide (x < 0) != decide (y < 0)) (rq (x.natAbs * y.natAbs) s : Nat) = rnd (x * y) s := by
  rw [sign_mul x y _ (fun h => by rw [h]; exact rq_zero s)]
  unfold rnd
  rw [Int.natAbs_mul]
theorem mul_in (a b : Int) : (satv a).natAbs * (satv b).natAbs ≤ 1329227995784915872903807060280344576 := by
  have := satv_lo a; have := satv_hi a; have := satv_lo b; have := satv_hi b
  exact Nat.mul_le_mul (show (satv a).natAbs ≤ 1152921504606846976 by omega) (show (satv b).natAbs ≤ 1152921504606846976 by omega)
theorem half_le (s : Nat) (hs : s ≤ 126) : halfOf s ≤ 85070591730234615865843651857942052864 := by
  unfold halfOf
  split
  · omega
  · exact pow_lt (s - 1) 126 (by omega)
theorem rq_bound (n s : Nat) (hs : s ≤ 126) (hn : n ≤ 170141183460469231731687303715884105728) : rq n s < 340282366920938463463374607431768211456 := by
  have := half_le s hs
  have := Nat.div_le_self (n + halfOf s) (2 ^ s)
  unfold rq
  omega
set_option maxHeartbeats 1000000 in
theorem qmul (p o : Nat) (a b : Int) (s : Nat) (h : Bool) (w : World) (f : Fl p o h w) (hs : s ≤ 126) :
    Calls Try.prog 173 #[.pointer (some ⟨p, o, none⟩), .int .i64 a, .int .i64 b, .int .i64 s] w fun e w' => e = .returned (.int .i64 (satv (rnd (satv a * satv b) s))) ∧ FlW p o (h || sath a || sath b || sath (rnd (satv a * satv b) s)) w w' := by
  have l1 := satv_lo a
  have l2 := satv_hi a
  have l3 := satv_lo b
  have l4 := satv_hi b
  have HM := Lib.hid (fun w => q_mul (satv a) (satv b) w l1 l2 l3 l4)
  have HS := Lib.hid (fun (c : Bool) w => q_shift ((satv a).natAbs * (satv b).natAbs) s c w hs (by have := mul_in a b; have := half_le s hs; omega))
  have HE := Lib.hid (fun (c : Bool) h w f => qend p o c (rq ((satv a).natAbs * (satv b).natAbs) s : Nat) h w f (inq_nat (rq_bound _ s hs (by have := mul_in a b; omega))))
  rw [← rnd_mul]
  simp only [Int.natCast_mul] at HS
  go_enter Try.func173, Try.ntmps173
  go_wp2_with fail
  refine (qsat p o a h _ f).mono ?_
  rintro e w1 ⟨rfl, k⟩
  have f := k.fl f
  go_wp2_with fail
  refine (qsat p o b _ _ f).mono ?_
  rintro e w2 ⟨rfl, k2⟩
  have f := k2.fl f
  have k := k.trans k2
  clear k2
  go_wp2_with fail
  refine (HM.out _).mono ?_
  rintro e w3 ⟨rfl, hb⟩
  have f := f.below hb
  have k := k.then hb
  clear hb
  go_wp2_with fail
  refine (HS.out _ _).mono ?_
  rintro e w4 ⟨rfl, hb⟩
  have f := f.below hb
  have k := k.then hb
  clear hb
  go_wp2_with fail
  refine (HE.out _ _ _ f).mono ?_
  rintro e w5 ⟨rfl, k2⟩
  go_wp2_with fail
  go_ret
  exact ⟨rfl, k.trans k2⟩
theorem qm (p o : Nat) (a b : Int) (h : Bool) (w : World) (f : Fl p o h w) :
    Calls Try.prog 103 #[.pointer (some ⟨p, o, none⟩), .int .i64 a, .int .i64 b] w fun e w' => e = .returned (.int .i64 (satv (rnd (satv a * satv b) 30))) ∧ FlW p o (h || sath a || sath b || sath (rnd (satv a * satv b) 30)) w w' := by
  have HM := Lib.hid (qmul p o a b 30 h · · (by omega))
  go_enter Try.func103, Try.ntmps103
  go_wp2_with fail
  refine (HM.out _ f).mono ?_
  rintro e w1 ⟨rfl, k⟩
  go_wp2_with fail
  go_ret
  exact ⟨rfl, k⟩
end Go.Proofs.Ytfkeljolpcbbkaa

/- QI -/
namespace Go.Proofs.Ytfkeljolpcbbkaa
open Go.RowKit

namespace Q2
theorem half_down (a i : Nat) : a / 2 ^ i = 2 * (a / 2 ^ (i + 1)) + a / 2 ^ i % 2 := by
  rw [Nat.pow_succ, ← Nat.div_div_eq_div_mul]
  omega
def dR (a d i : Nat) : Nat := 2 * (a / 2 ^ (i + 1) % d) + a / 2 ^ i % 2
theorem dR_lt (a d i : Nat) (hd : 0 < d) : dR a d i < 2 * d := by
  unfold dR
  have := Nat.mod_lt (a / 2 ^ (i + 1)) hd
  omega
theorem dR_ge (a d i : Nat) (hd : 0 < d) (h : d ≤ dR a d i) : a / 2 ^ i % d = dR a d i - d ∧ a / 2 ^ i / d * 2 ^ i = a / 2 ^ (i + 1) / d * 2 ^ (i + 1) + 2 ^ i := by
  have h2 := dR_lt a d i hd
  have e := half_down a i
  unfold dR at *
  have hm := Nat.div_add_mod (a / 2 ^ (i + 1)) d
  generalize a / 2 ^ i % 2 = b at *
  generalize a / 2 ^ (i + 1) = A at *
  rw [e]
  generalize hq : A / d = Q at *
  generalize hr : A % d = r at *
  have e2 : 2 * A + b = (2 * r + b - d) + d * (2 * Q + 1) := by
    rw [← hm, Nat.mul_add d, Nat.mul_left_comm d 2 Q]
    omega
  rw [e2, Nat.add_mul_mod_self_left, Nat.add_mul_div_left _ _ hd, Nat.mod_eq_of_lt (by omega), Nat.div_eq_of_lt (by omega)]
  refine ⟨rfl, ?_⟩
  rw [Nat.pow_succ, Nat.zero_add, Nat.add_mul, Nat.one_mul]
  generalize 2 ^ i = P
  grind
theorem dR_no (a d i : Nat) (hd : 0 < d) (h : dR a d i < d) : a / 2 ^ i % d = dR a d i ∧ a / 2 ^ i / d * 2 ^ i = a / 2 ^ (i + 1) / d * 2 ^ (i + 1) := by
  have e := half_down a i
  unfold dR at *
  have hm := Nat.div_add_mod (a / 2 ^ (i + 1)) d
  generalize a / 2 ^ i % 2 = b at *
  generalize a / 2 ^ (i + 1) = A at *
  rw [e]
  generalize hq : A / d = Q at *
  generalize hr : A % d = r at *
  have e2 : 2 * A + b = (2 * r + b) + d * (2 * Q) := by
    rw [← hm, Nat.mul_left_comm d 2 Q]
    omega
  rw [e2, Nat.add_mul_mod_self_left, Nat.add_mul_div_left _ _ hd, Nat.mod_eq_of_lt h, Nat.div_eq_of_lt h]
  refine ⟨rfl, ?_⟩
  rw [Nat.pow_succ, Nat.zero_add]
  generalize 2 ^ i = P
  grind

theorem and63 (i : Nat) (hi : i < 128) : bits .and .i64 (i : Int) 63 = ((i % 64 : Nat) : Int) := by
  have : ∀ k : Fin 128, bits .and .i64 ((k.1 : Nat) : Int) 63 = ((k.1 % 64 : Nat) : Int) := by decide +kernel
  exact this ⟨i, hi⟩
theorem and_one (n : Nat) (h1 : n < 18446744073709551616) : bits .and .u64 (n : Int) 1 = ((n % 2 : Nat) : Int) := by
  show IntKind.u64.wrap ((BitVec.ofInt 64 _ &&& BitVec.ofInt 64 _).toNat : Int) = _
  rw [BitVec.toNat_and, BitVec.toNat_ofInt, BitVec.toNat_ofInt, IntKind.wrap_u64]
  have e1 : (((n : Nat) : Int) % ((2 ^ 64 : Nat) : Int)).toNat = n := by omega
  have e2 : ((1 : Int) % ((2 ^ 64 : Nat) : Int)).toNat = 1 := by decide
  rw [e1, e2, Nat.and_one_is_mod]
  omega
theorem bit_lo (n i : Nat) (hi : i < 64) : bits .and .u64 (wl n / 2 ^ i) 1 = ((n / 2 ^ i % 2 : Nat) : Int) := by
  rw [wlN, div_pow_int, and_one _ (by have := Nat.div_le_self (n % 18446744073709551616) (2 ^ i); omega)]
  have e : n / 2 ^ i % 2 = n % 18446744073709551616 / 2 ^ i % 2 := by
    have hP : 0 < 2 ^ i := Nat.two_pow_pos i
    have hPQ : 18446744073709551616 = 2 ^ i * (2 ^ (63 - i) * 2) := by rw [← Nat.mul_assoc, ← Nat.pow_add, show i + (63 - i) = 63 by omega]
    have e2 : n = n % 18446744073709551616 + 2 ^ i * (2 ^ (63 - i) * 2 * (n / 18446744073709551616)) := by rw [← Nat.mul_assoc, ← hPQ]; omega
    rw [show n / 2 ^ i = (n % 18446744073709551616 + 2 ^ i * (2 ^ (63 - i) * 2 * (n / 18446744073709551616))) / 2 ^ i by rw [← e2], Nat.add_mul_div_left _ _ hP]
    rw [Nat.mul_comm (2 ^ (63 - i)), Nat.mul_assoc, Nat.add_mul_mod_self_left]
  rw [e]
theorem bit_hi (n i : Nat) (h1 : 64 ≤ i) (hn : n < 340282366920938463463374607431768211456) : bits .and .u64 (wh n / 2 ^ (i - 64)) 1 = ((n / 2 ^ i % 2 : Nat) : Int) := by
  rw [whN, div_pow_int, and_one _ (by have := Nat.div_le_self (n / 18446744073709551616) (2 ^ (i - 64)); omega)]
  rw [Nat.div_div_eq_div_mul, show (18446744073709551616 : Nat) = 2 ^ 64 by decide, ← Nat.pow_add, show 64 + (i - 64) = i by omega]
theorem or_even (r b : Nat) (hr : 2 * r < 18446744073709551616) (hb : b < 2) : bits .or .u64 ((2 * r : Nat) : Int) (b : Int) = ((2 * r + b : Nat) : Int) :=
  or_parts (2 * r) b 1 hr (by omega) (by omega) (by omega)
theorem set_lo (Q i : Nat) (hi : i < 64) : bits .or .u64 (wl (Q * 2 ^ (i + 1) : Nat)) (IntKind.u64.wrap (2 ^ i)) = wl (Q * 2 ^ (i + 1) + 2 ^ i : Nat) ∧ wh (Q * 2 ^ (i + 1) : Nat) = wh (Q * 2 ^ (i + 1) + 2 ^ i : Nat) := by
  have hP : 0 < 2 ^ i := Nat.two_pow_pos i
  have hp := pow_lt i 63 (by omega)
  have hPQ : 18446744073709551616 = 2 ^ (i + 1) * 2 ^ (63 - i) := by rw [← Nat.pow_add, show i + 1 + (63 - i) = 64 by omega]
  have hd : Q * 2 ^ (i + 1) % 18446744073709551616 % 2 ^ (i + 1) = 0 := by
    rw [Nat.mod_mod_of_dvd _ ⟨2 ^ (63 - i), hPQ⟩]; exact Nat.mul_mod_left _ _
  have hw : IntKind.u64.wrap (2 ^ i) = ((2 ^ i : Nat) : Int) := by rw [pow_int, IntKind.wrap_u64]; omega
  have hlt : 2 ^ i < 2 ^ (i + 1) := by rw [Nat.pow_succ]; omega
  have hup : Q * 2 ^ (i + 1) % 18446744073709551616 + 2 ^ i < 18446744073709551616 := by
    have h3 := Nat.mod_lt (Q * 2 ^ (i + 1)) (show 0 < 18446744073709551616 by omega)
    generalize Q * 2 ^ (i + 1) % 18446744073709551616 = X at *
    obtain ⟨c, hc⟩ := Nat.dvd_of_mod_eq_zero hd
    rw [hc] at h3 ⊢
    have h5 : c < 2 ^ (63 - i) := Nat.lt_of_mul_lt_mul_left (by rw [← hPQ]; exact h3)
    have h6 : 2 ^ (i + 1) * (c + 1) ≤ 2 ^ (i + 1) * 2 ^ (63 - i) := Nat.mul_le_mul_left _ h5
    rw [← hPQ, Nat.mul_add] at h6
    omega
  rw [wlN, wlN, whN, whN, hw, or_parts _ _ (i + 1) (Nat.mod_lt _ (by omega)) hlt (by omega) hd]
  generalize Q * 2 ^ (i + 1) = X at *
  generalize 2 ^ i = P at *
  constructor
  · congr 1; omega
  · congr 1; omega
theorem set_hi (Q i : Nat) (h1 : 64 ≤ i) (h2 : i < 128) (hQ : Q * 2 ^ (i + 1) < 340282366920938463463374607431768211456) : bits .or .u64 (wh (Q * 2 ^ (i + 1) : Nat)) (IntKind.u64.wrap (2 ^ (i - 64))) = wh (Q * 2 ^ (i + 1) + 2 ^ i : Nat) ∧ wl (Q * 2 ^ (i + 1) : Nat) = wl (Q * 2 ^ (i + 1) + 2 ^ i : Nat) := by
  have e1 : 2 ^ i = 2 ^ (i - 64) * 18446744073709551616 := by rw [show (18446744073709551616 : Nat) = 2 ^ 64 by decide, ← Nat.pow_add, show i - 64 + 64 = i by omega]
  have e2 : Q * 2 ^ (i + 1) = Q * 2 ^ (i - 64 + 1) * 18446744073709551616 := by rw [show (18446744073709551616 : Nat) = 2 ^ 64 by decide, Nat.mul_assoc, ← Nat.pow_add, show i - 64 + 1 + 64 = i + 1 by omega]
  have hp := pow_lt (i - 64) 63 (by omega)
  have hw : IntKind.u64.wrap (2 ^ (i - 64)) = ((2 ^ (i - 64) : Nat) : Int) := by rw [pow_int, IntKind.wrap_u64]; omega
  have hd : Q * 2 ^ (i - 64 + 1) % 2 ^ (i - 64 + 1) = 0 := Nat.mul_mod_left _ _
  have hlt : 2 ^ (i - 64) < 2 ^ (i - 64 + 1) := by rw [Nat.pow_succ]; have := Nat.two_pow_pos (i - 64); omega
  rw [e2] at hQ
  have hX : Q * 2 ^ (i - 64 + 1) < 18446744073709551616 := by omega
  rw [e2, e1, whN, whN, wlN, wlN, hw, Nat.mul_div_cancel _ (by omega), or_parts _ _ (i - 64 + 1) hX hlt (by omega) hd]
  generalize Q * 2 ^ (i - 64 + 1) = X at *
  generalize 2 ^ (i - 64) = P at *
  constructor
  · congr 1; omega
  · rw [show X * 18446744073709551616 % 18446744073709551616 = (X * 18446744073709551616 + P * 18446744073709551616) % 18446744073709551616 by omega]
end Q2
end Go.Proofs.Ytfkeljolpcbbkaa

/- QJ -/
namespace Go.Proofs.Ytfkeljolpcbbkaa
open Go.RowKit

structure D3 (w wr : World) (n Q : Nat) (b : Bool) : Prop where
  e0 : wr.heap[w.heap.size]? = some (.cells #[.int .u64 (wh n), .int .u64 (wl n), .bool b] 154 (0, 0))
  e1 : wr.heap[w.heap.size + 1]? = some (.cells #[.int .u64 0, .int .u64 0, .bool false] 154 (0, 0))
  e2 : wr.heap[w.heap.size + 1 + 1]? = some (.cells #[.int .u64 (wh Q), .int .u64 (wl Q), .bool b] 154 (0, 0))
  below : Below w.heap.size w wr
  big : w.heap.size + 3 ≤ wr.heap.size
structure D3c (w wr : World) (n Q : Nat) (b : Bool) : Prop where
  a0 : wr.cell? ⟨w.heap.size, 0, none⟩ = some (.int .u64 (wh n))
  a1 : wr.cell? ⟨w.heap.size, 1, none⟩ = some (.int .u64 (wl n))
  a2 : wr.cell? ⟨w.heap.size, 2, none⟩ = some (.bool b)
  d0 : wr.cell? ⟨w.heap.size + 1, 0, none⟩ = some (.int .u64 0)
  d1 : wr.cell? ⟨w.heap.size + 1, 1, none⟩ = some (.int .u64 0)
  d2 : wr.cell? ⟨w.heap.size + 1, 2, none⟩ = some (.bool false)
  q0 : wr.cell? ⟨w.heap.size + 1 + 1, 0, none⟩ = some (.int .u64 (wh Q))
  q1 : wr.cell? ⟨w.heap.size + 1 + 1, 1, none⟩ = some (.int .u64 (wl Q))
  q2 : wr.cell? ⟨w.heap.size + 1 + 1, 2, none⟩ = some (.bool b)
  gd : ∀ o, wr.frozen? ⟨w.heap.size + 1, o, none⟩ = false
  gq : ∀ o, wr.frozen? ⟨w.heap.size + 1 + 1, o, none⟩ = false
theorem D3.cells {w wr : World} {n Q : Nat} {b : Bool} (h : D3 w wr n Q b) : D3c w wr n Q b := by
  refine ⟨?_, ?_, ?_, ?_, ?_, ?_, ?_, ?_, ?_, fun o => by simp [World.frozen?, h.e1], fun o => by simp [World.frozen?, h.e2]⟩
  · rw [cell_of_row wr _ _ _ _ _ h.e0]; rfl
  · rw [cell_of_row wr _ _ _ _ _ h.e0]; rfl
  · rw [cell_of_row wr _ _ _ _ _ h.e0]; rfl
  · rw [cell_of_row wr _ _ _ _ _ h.e1]; rfl
  · rw [cell_of_row wr _ _ _ _ _ h.e1]; rfl
  · rw [cell_of_row wr _ _ _ _ _ h.e1]; rfl
  · rw [cell_of_row wr _ _ _ _ _ h.e2]; rfl
  · rw [cell_of_row wr _ _ _ _ _ h.e2]; rfl
  · rw [cell_of_row wr _ _ _ _ _ h.e2]; rfl
theorem D3.low {w wr : World} {n Q Q' : Nat} {b : Bool} (h : D3 w wr n Q b) {v : Int} (h1 : v = wl Q') (h2 : wh Q = wh Q') : D3 w (wr.setCell ⟨w.heap.size + 1 + 1, 1, none⟩ (.int .u64 v)) n Q' b := by
  refine ⟨?_, ?_, ?_, h.below.setCell (by simp <;> omega) _, by rw [size_set]; exact h.big⟩
  · rw [Below.heap_setCell _ _ _ _ (by simp <;> omega)]; exact h.e0
  · rw [Below.heap_setCell _ _ _ _ (by simp <;> omega)]; exact h.e1
  · rw [set_block h.e2, h1, ← h2]; rfl
theorem D3.high {w wr : World} {n Q Q' : Nat} {b : Bool} (h : D3 w wr n Q b) {v : Int} (h1 : v = wh Q') (h2 : wl Q = wl Q') : D3 w (wr.setCell ⟨w.heap.size + 1 + 1, 0, none⟩ (.int .u64 v)) n Q' b := by
  refine ⟨?_, ?_, ?_, h.below.setCell (by simp <;> omega) _, by rw [size_set]; exact h.big⟩
  · rw [Below.heap_setCell _ _ _ _ (by simp <;> omega)]; exact h.e0
  · rw [Below.heap_setCell _ _ _ _ (by simp <;> omega)]; exact h.e1
  · rw [set_block h.e2, h1, ← h2]; rfl
theorem D3.call {w wr w1 : World} {n Q : Nat} {b : Bool} (h : D3 w wr n Q b) (hb : Below wr.heap.size wr w1) : D3 w w1 n Q b := by
  have := h.big
  exact ⟨(hb.block _ (by omega)).trans h.e0, (hb.block _ (by omega)).trans h.e1, (hb.block _ (by omega)).trans h.e2, h.below.trans (hb.mono h.below.size), Nat.le_trans h.big hb.size⟩
theorem d_start (n d : Nat) (hn : n < 340282366920938463463374607431768211456) : n / 2 ^ 128 % d = 0 ∧ n / 2 ^ 128 / d * 2 ^ 128 = 0 := by
  have : n / 2 ^ 128 = 0 := Nat.div_eq_of_lt (by rw [show (2 : Nat) ^ 128 = 340282366920938463463374607431768211456 by decide]; exact hn)
  rw [this]
  simp
set_option maxRecDepth 100000 in
set_option maxHeartbeats 8000000 in
theorem q_divided (n d : Nat) (b : Bool) (w : World) (hn : n < 340282366920938463463374607431768211456) (hd : 0 < d) (hd2 : d ≤ 1152921504606846976) :
    Calls Try.prog 190 #[Qv b n, .int .u64 d] w fun e w' => e = .returned (Qv b ((dq n d : Nat) : Int)) ∧ Below w.heap.size w w' := by
  go_enter Try.func190, Try.ntmps190
  go_wp2_with fail
  generalize hW : World.alloc (World.alloc (World.alloc w _) _) _ = W
  have hS : D3 w W n 0 b := by
    obtain ⟨e0, e1, e2, e3, e4⟩ := made3 w _ _ _ _ _ _ hW
    exact ⟨e0, e1, e2, e4, by omega⟩
  clear hW
  go_loopw [6, 7] (fun s6 s7 wr => ∃ t : Nat, t ≤ 128 ∧ s6 = .int .u64 ((n / 2 ^ t % d : Nat) : Int) ∧ s7 = .int .i64 ((t : Int) - 1) ∧ D3 w wr n (n / 2 ^ t / d * 2 ^ t) b) (fun _ s7 _ => (intOf s7 + 1).toNat)
  case atStart =>
    obtain ⟨e1, e2⟩ := d_start n d hn
    exact ⟨128, by omega, by rw [e1]; rfl, rfl, by rw [e2]; exact hS⟩
  case round =>
    clear hS
    obtain ⟨t, ht, rfl, rfl, hD⟩ := hrel
    by_cases h0 : t = 0
    · subst h0
      rw [show ((0 : Nat) : Int) - 1 = -1 by omega]
      rw [show n / 2 ^ 0 % d = n % d by simp, show n / 2 ^ 0 / d * 2 ^ 0 = n / d by simp] at *
      have hr := Nat.mod_lt n hd
      have hs : IntKind.u64.wrap ((d : Int) - ((n % d : Nat) : Int)) = ((d - n % d : Nat) : Int) := by rw [IntKind.wrap_u64]; omega
      have hql := Nat.div_le_self n d
      have HQ := Lib.hid (fun (h : d ≤ 2 * (n % d)) w => add_at (n / d) 1 0 1 rfl rfl b w (by
        have h2 : 2 ≤ d := by omega
        have : n / d ≤ n / 2 := Nat.div_le_div_left h2 (by omega)
        omega))
      have HD := Lib.hid (show dq n d = n / d + if d ≤ 2 * (n % d) then 1 else 0 from rfl)
      generalize n / d = Q at *
      generalize n % d = R at *
      by_cases hge : d ≤ 2 * R
      · have g1 : ((d - R : Nat) : Int) ≤ R := by omega
        have HV := Lib.hid (show Q + 1 = dq n d by rw [HD.out, if_pos hge])
        obtain ⟨a0, a1, a2, d0, d1, d2, q0, q1, q2, gd, gq⟩ := hD.cells
        go_wp2_with fail
        refine (HQ.out hge _).mono ?_
        rintro e w1 ⟨rfl, hb⟩
        have hD := hD.call hb
        rw [HV.out]
        clear a0 a1 a2 d0 d1 d2 q0 q1 q2 gd gq hb HQ HV HD
        have HB := hD.below
        obtain ⟨a0, a1, a2, d0, d1, d2, q0, q1, q2, gd, gq⟩ := hD.cells
        clear hD
        go_wp2_with fail
        exact bodyPost_ret (v := Qv b (dq n d : Nat)) (by simp [results, Try.results190, go_sem, d0, d1, d2]) rfl ⟨rfl, (((((HB.setCell (by simp <;> omega) _).setCell (by simp <;> omega) _).setCell (by simp <;> omega) _).setCell (by simp <;> omega) _).setCell (by simp <;> omega) _).setCell (by simp <;> omega) _⟩
      · have g1 : ¬ ((d - R : Nat) : Int) ≤ R := by omega
        have HV := Lib.hid (show Q = dq n d by rw [HD.out, if_neg hge]; rfl)
        have HB := hD.below
        obtain ⟨a0, a1, a2, d0, d1, d2, q0, q1, q2, gd, gq⟩ := hD.cells
        clear hD
        go_wp2_with fail
        exact bodyPost_ret (v := Qv b (Q : Nat)) (by simp [results, Try.results190, go_sem, d0, d1, d2]) rfl ⟨by rw [HV.out], ((HB.setCell (by simp <;> omega) _).setCell (by simp <;> omega) _).setCell (by simp <;> omega) _⟩
    · obtain ⟨i, rfl⟩ : ∃ i, t = i + 1 := ⟨t - 1, by omega⟩
      rw [show ((i + 1 : Nat) : Int) - 1 = (i : Int) by omega]
      have i0 : (0 : Int) ≤ i := by omega
      have hi : i < 128 := by omega
      have hA := Q2.and63 i hi
      have hlt := Q2.dR_lt n d i hd
      have hmod := Nat.mod_lt (n / 2 ^ (i + 1)) hd
      have hQn : n / 2 ^ (i + 1) / d * 2 ^ (i + 1) ≤ n := by
        rw [Nat.div_div_eq_div_mul, Nat.mul_comm (2 ^ (i + 1)) d, ← Nat.div_div_eq_div_mul]
        exact Nat.le_trans (Nat.div_mul_le_self _ _) (Nat.div_le_self _ _)
      have HG := Lib.hid (Q2.dR_ge n d i hd)
      have HN := Lib.hid (fun h => Q2.dR_no n d i hd (Nat.lt_of_not_le h))
      have HDR := Lib.hid (show 2 * (n / 2 ^ (i + 1) % d) + n / 2 ^ i % 2 = Q2.dR n d i from rfl)
      have hb2 : n / 2 ^ i % 2 < 2 := Nat.mod_lt _ (by omega)
      have HS := Lib.hid (fun h : d ≤ Q2.dR n d i => show IntKind.u64.wrap (((Q2.dR n d i : Nat) : Int) - d) = ((Q2.dR n d i - d : Nat) : Int) by rw [IntKind.wrap_u64]; omega)
      by_cases h64 : 64 ≤ i
      · have g1 : (64 : Int) ≤ i := by omega
        have e6 : i % 64 = i - 64 := by omega
        rw [e6] at hA
        have HO := Lib.hid (show bits .or .u64 (IntKind.u64.wrap (((n / 2 ^ (i + 1) % d : Nat) : Int) * 2)) (bits .and .u64 (wh n / 2 ^ (i - 64)) 1) = ((2 * (n / 2 ^ (i + 1) % d) + n / 2 ^ i % 2 : Nat) : Int) by
          rw [Q2.bit_hi n i h64 hn, ← Q2.or_even _ _ (by omega) hb2]
          congr 1
          rw [IntKind.wrap_u64]; omega)
        have HB := Lib.hid (Q2.set_hi (n / 2 ^ (i + 1) / d) i h64 hi (by omega))
        clear hmod hQn hb2
        generalize n / 2 ^ (i + 1) % d = R at *
        generalize Q2.dR n d i = D at *
        generalize n / 2 ^ (i + 1) / d * 2 ^ (i + 1) = Q at *
        obtain ⟨a0, a1, a2, d0, d1, d2, q0, q1, q2, gd, gq⟩ := hD.cells
        have hE := (show bits .or .u64 (IntKind.u64.wrap ((R : Int) * 2)) (bits .and .u64 (wh n / 2 ^ (i - 64)) 1) = ((D : Nat) : Int) by rw [HO.out]; exact congrArg _ HDR.out)
        by_cases hge : d ≤ D
        · have g2 : (d : Int) ≤ D := by omega
          have hs := HS.out hge
          go_wp2_with fail
          refine ⟨⟨i, by omega, ?_, rfl, ?_⟩, ?_⟩
          · rw [(HG.out hge).1]
          · have h := hD.high (HB.out.1) (HB.out.2)
            rw [(HG.out hge).2]
            exact h
          · show (((i : Int) - 1) + 1).toNat < ((i : Int) + 1).toNat
            omega
        · have g2 : ¬ (d : Int) ≤ D := by omega
          go_wp2_with fail
          refine ⟨⟨i, by omega, ?_, rfl, ?_⟩, ?_⟩
          · rw [(HN.out hge).1]
          · rw [(HN.out hge).2]; exact hD
          · show (((i : Int) - 1) + 1).toNat < ((i : Int) + 1).toNat
            omega
      · have g1 : ¬ (64 : Int) ≤ i := by omega
        have e6 : i % 64 = i := by omega
        rw [e6] at hA
        have HO := Lib.hid (show bits .or .u64 (IntKind.u64.wrap (((n / 2 ^ (i + 1) % d : Nat) : Int) * 2)) (bits .and .u64 (wl n / 2 ^ i) 1) = ((2 * (n / 2 ^ (i + 1) % d) + n / 2 ^ i % 2 : Nat) : Int) by
          rw [Q2.bit_lo n i (by omega), ← Q2.or_even _ _ (by omega) hb2]
          congr 1
          rw [IntKind.wrap_u64]; omega)
        have HB := Lib.hid (Q2.set_lo (n / 2 ^ (i + 1) / d) i (by omega))
        clear hmod hQn hb2
        generalize n / 2 ^ (i + 1) % d = R at *
        generalize Q2.dR n d i = D at *
        generalize n / 2 ^ (i + 1) / d * 2 ^ (i + 1) = Q at *
        obtain ⟨a0, a1, a2, d0, d1, d2, q0, q1, q2, gd, gq⟩ := hD.cells
        have hE := (show bits .or .u64 (IntKind.u64.wrap ((R : Int) * 2)) (bits .and .u64 (wl n / 2 ^ i) 1) = ((D : Nat) : Int) by rw [HO.out]; exact congrArg _ HDR.out)
        by_cases hge : d ≤ D
        · have g2 : (d : Int) ≤ D := by omega
          have hs := HS.out hge
          go_wp2_with fail
          refine ⟨⟨i, by omega, ?_, rfl, ?_⟩, ?_⟩
          · rw [(HG.out hge).1]
          · have h := hD.low (HB.out.1) (HB.out.2)
            rw [(HG.out hge).2]
            exact h
          · show (((i : Int) - 1) + 1).toNat < ((i : Int) + 1).toNat
            omega
        · have g2 : ¬ (d : Int) ≤ D := by omega
          go_wp2_with fail
          refine ⟨⟨i, by omega, ?_, rfl, ?_⟩, ?_⟩
          · rw [(HN.out hge).1]
          · rw [(HN.out hge).2]; exact hD
          · show (((i : Int) - 1) + 1).toNat < ((i : Int) + 1).toNat
            omega
end Go.Proofs.Ytfkeljolpcbbkaa

/- QK -/
namespace Go.Proofs.Ytfkeljolpcbbkaa
open Go.RowKit

theorem quot_sign (v d : Int) (n : Nat) (sv : Bool) (d0 : d ≠ 0) (hn : v.natAbs = n) (hs : v ≠ 0 → sv = decide (v < 0)) : qval (sv != decide (d < 0)) (dq n d.natAbs : Nat) = divZ v d := by
  rw [divZ_sign]
  by_cases h : v = 0
  · subst h
    have e : n = 0 := by omega
    subst e
    rw [show (0 : Int).natAbs = 0 from rfl, dq_zero _ (by omega)]
    unfold qval withSign
    simp
  · rw [hs h, hn]; rfl
theorem divv_pos {v d : Int} (h : d ≠ 0) : divv v d = satv (divZ v d) ∧ divh v d = sath (divZ v d) := by
  unfold divv divh
  rw [if_neg h, if_neg h]
  exact ⟨rfl, rfl⟩
theorem dq_bound (n d : Nat) (hd : 0 < d) (hn : n < 340282366920938463463374607431768211456) : dq n d < 340282366920938463463374607431768211456 := by
  have := Nat.div_le_self n d
  have hm := Nat.mod_lt n hd
  unfold dq
  split
  · rename_i h
    have h2 : 2 ≤ d := by omega
    have : n / d ≤ n / 2 := Nat.div_le_div_left h2 (by omega)
    omega
  · omega
theorem lift_hi (x s : Nat) (_ : 1 ≤ s) (h2 : s < 64) (_ : x ≤ 1152921504606846976) : ((x : Int) / 2 ^ (64 - s)) = wh (x * 2 ^ s : Nat) ∧ IntKind.u64.wrap ((x : Int) * 2 ^ s) = wl (x * 2 ^ s : Nat) := by
  have h := shift_low x s h2
  have e : ((x : Int) * 2 ^ s) = ((x * 2 ^ s : Nat) : Int) := by rw [pow_int, ← Int.natCast_mul]
  rw [e] at h
  have h3 := h.1
  refine ⟨h3, ?_⟩
  rw [e, IntKind.wrap_u64]
  rfl
set_option maxHeartbeats 1000000 in
theorem qdiv_zero (p o : Nat) (a b : Int) (s : Int) (h : Bool) (w : World) (f : Fl p o h w) (hb0 : satv b = 0) :
    Calls Try.prog 172 #[.pointer (some ⟨p, o, none⟩), .int .i64 a, .int .i64 b, .int .i64 s] w fun e w' => e = .returned (.int .i64 (sideOf (satv a))) ∧ FlW p o true w w' := by
  have l1 := satv_lo a
  have l2 := satv_hi a
  have HB := Lib.hid (show ∀ h w, Fl p o h w → _ from fun h w f => qsat p o b h w f)
  rw [hb0] at HB
  go_enter Try.func172, Try.ntmps172
  go_wp2_with fail
  refine (qsat p o a h _ f).mono ?_
  rintro e w1 ⟨rfl, k⟩
  have f := k.fl f
  go_wp2_with fail
  refine (HB.out _ _ f).mono ?_
  rintro e w2 ⟨rfl, k2⟩
  have f := k2.fl f
  have k := k.trans k2
  clear k2 HB
  obtain ⟨fc, ff, fl⟩ := f
  generalize hX : satv a = x at *
  rcases Int.lt_trichotomy x 0 with hx | hx | hx
  · have g1 : ¬ 0 < x := by omega
    have HV := Lib.hid (side_neg hx)
    go_wp2_with fail
    go_ret
    exact ⟨ret_int (by rw [hX]; exact HV.out.symm), k.trans (FlW.set _ _)⟩
  · subst hx
    go_wp2_with fail
    go_ret
    exact ⟨ret_int (by rw [hX]; rfl), k.trans (FlW.set _ _)⟩
  · have HV := Lib.hid (side_pos hx)
    go_wp2_with fail
    go_ret
    exact ⟨ret_int (by rw [hX]; exact HV.out.symm), k.trans (FlW.set _ _)⟩
theorem q_size_b (a : Int) (w : World) (h1 : -1152921504606846976 ≤ a) (h2 : a ≤ 1152921504606846976) :
    Calls Try.prog 184 #[.int .i64 a] w fun e w' => e = .returned (.int .u64 a.natAbs) ∧ Below w.heap.size w w' :=
  (q_size a w h1 h2).mono fun e w' ⟨he, hw⟩ => ⟨he, by rw [← hw]; exact Below.refl _ _⟩
set_option maxHeartbeats 2000000 in
theorem qdiv_near (p o : Nat) (a b : Int) (s : Nat) (h : Bool) (w : World) (f : Fl p o h w) (s1 : 1 ≤ s) (s2 : s < 64) (hb0 : satv b ≠ 0) :
    Calls Try.prog 172 #[.pointer (some ⟨p, o, none⟩), .int .i64 a, .int .i64 b, .int .i64 s] w fun e w' => e = .returned (.int .i64 (satv (divZ (satv a * 2 ^ s) (satv b)))) ∧ FlW p o (h || sath a || sath b || sath (divZ (satv a * 2 ^ s) (satv b))) w w' := by
  have l1 := satv_lo a
  have l2 := satv_hi a
  have l3 := satv_lo b
  have l4 := satv_hi b
  have g1 : ¬ (64 : Int) ≤ s := by omega
  have g2 : (0 : Int) < s := by omega
  have g4 : IntKind.i64.wrap (64 - (s : Int)) = ((64 - s : Nat) : Int) := by rw [IntKind.wrap_i64]; omega
  have hP : 2 ^ s ≤ 9223372036854775808 := pow_lt s 63 (by omega)
  have hN : (satv a).natAbs * 2 ^ s < 340282366920938463463374607431768211456 := by
    have : (satv a).natAbs * 2 ^ s ≤ 1152921504606846976 * 9223372036854775808 := Nat.mul_le_mul (by omega) hP
    omega
  have e0 : (satv a * 2 ^ s).natAbs = (satv a).natAbs * 2 ^ s := by rw [Int.natAbs_mul, pow_int]; rfl
  have e1 : satv a * 2 ^ s ≠ 0 → decide (satv a < 0) = decide (satv a * 2 ^ s < 0) := by
    intro _
    have hp : (0 : Int) < 2 ^ s := Int.pow_pos (by decide)
    rcases Int.lt_trichotomy (satv a) 0 with hx | hx | hx
    · rw [decide_eq_true hx, decide_eq_true (Int.mul_neg_of_neg_of_pos hx hp)]
    · rw [hx]; simp
    · rw [decide_eq_false (by omega), decide_eq_false (by have := Int.mul_pos hx hp; omega)]
  have HQ := Lib.hid (quot_sign (satv a * 2 ^ s) (satv b) ((satv a).natAbs * 2 ^ s) (decide (satv a < 0)) hb0 e0 e1)
  have HL := Lib.hid (lift_hi (satv a).natAbs s s1 s2 (by omega))
  have HX := Lib.hid (fun w => q_size (satv a) w l1 l2)
  have HY := Lib.hid (fun w => q_size_b (satv b) w l3 l4)
  have HD := Lib.hid (fun (c : Bool) w => q_divided ((satv a).natAbs * 2 ^ s) (satv b).natAbs c w hN (by omega) (by omega))
  have HE := Lib.hid (fun (c : Bool) h w f => qend p o c (dq ((satv a).natAbs * 2 ^ s) (satv b).natAbs : Nat) h w f (inq_nat (dq_bound _ _ (by omega) hN)))
  have HN := Lib.hid hN
  clear hN e0 e1
  rw [← HQ.out]
  go_enter Try.func172, Try.ntmps172
  go_wp2_with fail
  refine (qsat p o a h _ f).mono ?_
  rintro e w1 ⟨rfl, k⟩
  have f := k.fl f
  go_wp2_with fail
  refine (qsat p o b _ _ f).mono ?_
  rintro e w2 ⟨rfl, k2⟩
  have f := k2.fl f
  have k := k.trans k2
  clear k2
  go_wp2_with fail
  refine (HX.out _).mono ?_
  rintro e w3 ⟨rfl, rfl⟩
  have k2p := f
  go_upto_region 17 with (fail)
  generalize hW : World.alloc _ _ = W
  have k := k.alloc (.cells #[.int .u64 ((satv a).natAbs / 2 ^ (64 - s)), .int .u64 (IntKind.u64.wrap ((satv a).natAbs * 2 ^ s)), .bool (!(decide (satv a < 0) == decide (satv b < 0)))] 154)
  have f := f.alloc (.cells #[.int .u64 ((satv a).natAbs / 2 ^ (64 - s)), .int .u64 (IntKind.u64.wrap ((satv a).natAbs * 2 ^ s)), .bool (!(decide (satv a < 0) == decide (satv b < 0)))] 154)
  have e0 := heap_alloc_new w2 (.cells #[.int .u64 ((satv a).natAbs / 2 ^ (64 - s)), .int .u64 (IntKind.u64.wrap ((satv a).natAbs * 2 ^ s)), .bool (!(decide (satv a < 0) == decide (satv b < 0)))] 154)
  rw [hW] at k f e0
  have hsz : w2.heap.size < W.heap.size := by subst hW; simp
  clear hW
  have hne : w2.heap.size ≠ p := by have := k2p.lt; omega
  rw [HL.out.1, HL.out.2] at e0
  have a0 : W.cell? ⟨w2.heap.size, 0, none⟩ = some (.int .u64 (wh ((satv a).natAbs * 2 ^ s : Nat))) := by rw [cell_of_row W _ _ _ _ _ e0]; rfl
  have a1 : W.cell? ⟨w2.heap.size, 1, none⟩ = some (.int .u64 (wl ((satv a).natAbs * 2 ^ s : Nat))) := by rw [cell_of_row W _ _ _ _ _ e0]; rfl
  have a2 : W.cell? ⟨w2.heap.size, 2, none⟩ = some (.bool (!(decide (satv a < 0) == decide (satv b < 0)))) := by rw [cell_of_row W _ _ _ _ _ e0]; rfl
  clear e0 HL HX k2p
  generalize hM : (satv a).natAbs * 2 ^ s = M at *
  generalize hR : dq M (satv b).natAbs = R at *
  go_region_held3 (fun w' => FExt p W w')
    ((show FExt p W _; first | (with_reducible exact FExt.start p W) | (with_reducible exact hJ)))
    (first
      | (go_at_call 184; refine (HY.out _).mono ?_; rintro e w6 ⟨rfl, hb6⟩; have hJ := FExt.call (by assumption) hb6)
      | (go_at_call 190; refine (HD.out _ _).mono ?_; rintro e w7 ⟨rfl, hb7⟩; have hJ := FExt.call (by assumption) hb7)
      | (go_at_call 148; refine (HE.out _ _ _ ((f.drew.below hb6).below hb7)).mono ?_; rintro e w9 ⟨rfl, k9⟩; have hJ := FExt.flag (by assumption) k9))
  go_wp2_with fail
  go_ret
  rw [hM, hR]
  exact ⟨rfl, ((k.drew.then hb6).then hb7).trans k9⟩
theorem qdiv (p o : Nat) (a b : Int) (s : Nat) (h : Bool) (w : World) (f : Fl p o h w) (s1 : 1 ≤ s) (s2 : s < 64) :
    Calls Try.prog 172 #[.pointer (some ⟨p, o, none⟩), .int .i64 a, .int .i64 b, .int .i64 s] w fun e w' => e = .returned (.int .i64 (divv (satv a * 2 ^ s) (satv b))) ∧ FlW p o (h || sath a || sath b || divh (satv a * 2 ^ s) (satv b)) w w' := by
  by_cases hb0 : satv b = 0
  · refine (qdiv_zero p o a b s h w f hb0).mono ?_
    rintro e w' ⟨rfl, k⟩
    have hp : (0 : Int) < 2 ^ s := Int.pow_pos (by decide)
    refine ⟨ret_int ?_, flag_is ?_ k⟩
    · unfold divv
      rw [if_pos hb0]
      rcases Int.lt_trichotomy (satv a) 0 with hx | hx | hx
      · rw [side_neg hx, side_neg (Int.mul_neg_of_neg_of_pos hx hp)]
      · rw [hx]; simp
      · rw [side_pos hx, side_pos (Int.mul_pos hx hp)]
    · unfold divh
      rw [if_pos hb0, Bool.or_true]
  · rw [(divv_pos hb0).1, (divv_pos hb0).2]
    exact qdiv_near p o a b s h w f s1 s2 hb0
theorem qd (p o : Nat) (a b : Int) (h : Bool) (w : World) (f : Fl p o h w) :
    Calls Try.prog 142 #[.pointer (some ⟨p, o, none⟩), .int .i64 a, .int .i64 b] w fun e w' => e = .returned (.int .i64 (divv (satv a * 2 ^ 30) (satv b))) ∧ FlW p o (h || sath a || sath b || divh (satv a * 2 ^ 30) (satv b)) w w' := by
  have HM := Lib.hid (qdiv p o a b 30 h · · (by omega) (by omega))
  generalize divv (satv a * 2 ^ 30) (satv b) = V at *
  generalize divh (satv a * 2 ^ 30) (satv b) = H at *
  go_enter Try.func142, Try.ntmps142
  go_wp2_with fail
  refine (HM.out _ f).mono ?_
  rintro e w1 ⟨rfl, k⟩
  go_wp2_with fail
  go_ret
  exact ⟨rfl, k⟩
end Go.Proofs.Ytfkeljolpcbbkaa
