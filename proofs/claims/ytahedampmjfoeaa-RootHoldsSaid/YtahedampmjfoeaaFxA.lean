/- Package fx: Clamp, Sat, Sub, Abs, the bound on a side. -/
import Derived.Test.YtahedampmjfoeaaFxN
import Derived.Test.YtahedampmjfoeaaWideI
import Derived.Test.YtahedampmjfoeaaFlag
namespace Go.Proofs.Ytahedampmjfoeaa
open Go.RowKit

theorem flag_or {p o : Nat} {g h : Bool} {w w' : World} (hh : h = true) (k : FlW p o true w w') : FlW p o (g || h) w w' := by subst hh; rw [Bool.or_true]; exact k
theorem flag_keep {p o : Nat} {g h : Bool} {w w' : World} (hh : h = false) (k : FlW p o g w w') : FlW p o (g || h) w w' := by subst hh; rw [Bool.or_false]; exact k
theorem clamp_any (p o : Nat) (a lo hi : Int) (h : Bool) (w : World) (f : Fl p o h w) :
    Calls Try.prog 33 #[.pointer (some ⟨p, o, none⟩), .int .i64 a, .int .i64 lo, .int .i64 hi] w fun e w' => e = .returned (.int .i64 (clampv a lo hi)) ∧ FlW p o (h || clamph a lo hi) w w' := by
  obtain ⟨fc, ff, fl⟩ := f
  have f : Fl p o h w := ⟨fc, ff, fl⟩
  by_cases h1 : hi < lo
  · have HV := Lib.hid (show clampv a lo hi = lo ∧ clamph a lo hi = true by unfold clampv clamph; rw [if_pos h1, decide_eq_true h1]; exact ⟨rfl, rfl⟩)
    go_enter Try.func33, Try.ntmps33
    go_wp2
    go_ret
    exact ⟨ret_int HV.out.1.symm, flag_or HV.out.2 (FlW.set _ _)⟩
  · by_cases h2 : a < lo
    · have HV := Lib.hid (show clampv a lo hi = lo ∧ clamph a lo hi = true by unfold clampv clamph; rw [if_neg h1, if_pos h2, decide_eq_false h1, decide_eq_true h2]; exact ⟨rfl, rfl⟩)
      go_enter Try.func33, Try.ntmps33
      go_wp2
      go_ret
      exact ⟨ret_int HV.out.1.symm, flag_or HV.out.2 (FlW.set _ _)⟩
    · by_cases h3 : hi < a
      · have HV := Lib.hid (show clampv a lo hi = hi ∧ clamph a lo hi = true by unfold clampv clamph; rw [if_neg h1, if_neg h2, if_pos h3, decide_eq_false h1, decide_eq_false h2, decide_eq_true h3]; exact ⟨rfl, rfl⟩)
        go_enter Try.func33, Try.ntmps33
        go_wp2
        go_ret
        exact ⟨ret_int HV.out.1.symm, flag_or HV.out.2 (FlW.set _ _)⟩
      · have HV := Lib.hid (show clampv a lo hi = a ∧ clamph a lo hi = false by unfold clampv clamph; rw [if_neg h1, if_neg h2, if_neg h3, decide_eq_false h1, decide_eq_false h2, decide_eq_false h3]; exact ⟨rfl, rfl⟩)
        go_enter Try.func33, Try.ntmps33
        go_wp2
        go_ret
        exact ⟨ret_int HV.out.1.symm, flag_keep HV.out.2 (FlW.refl f)⟩
theorem clamp_max (p o : Nat) (a : Int) (h : Bool) (w : World) (f : Fl p o h w) :
    Calls Try.prog 33 #[.pointer (some ⟨p, o, none⟩), .int .i64 a, .int .i64 (-1152921504606846976), .int .i64 1152921504606846976] w fun e w' => e = .returned (.int .i64 (satv a)) ∧ FlW p o (h || sath a) w w' := by
  rw [← (clamp_sat a).1, ← (clamp_sat a).2]
  exact clamp_any p o a _ _ h w f
theorem sat_any (p o : Nat) (a : Int) (h : Bool) (w : World) (f : Fl p o h w) :
    Calls Try.prog 35 #[.pointer (some ⟨p, o, none⟩), .int .i64 a] w fun e w' => e = .returned (.int .i64 (satv a)) ∧ FlW p o (h || sath a) w w' := by
  go_enter Try.func35, Try.ntmps35
  go_wp2_with fail
  refine (clamp_max p o a h _ f).mono ?_
  rintro e w1 ⟨rfl, k⟩
  go_wp2_with fail
  go_ret
  exact ⟨rfl, k⟩
theorem wrap64_in (x : Int) (h1 : -9223372036854775808 ≤ x) (h2 : x ≤ 9223372036854775807) : wrap64 x = x := by unfold wrap64; omega
/-- Sat at a number that is reckoned. -/
theorem sat_at (p o : Nat) (x a : Int) (h : Bool) (w : World) (f : Fl p o h w) (hx : x = a) :
    Calls Try.prog 35 #[.pointer (some ⟨p, o, none⟩), .int .i64 x] w fun e w' => e = .returned (.int .i64 (satv a)) ∧ FlW p o (h || sath a) w w' := by
  subst hx; exact sat_any p o x h w f
theorem sub_any (p o : Nat) (a b : Int) (h : Bool) (w : World) (f : Fl p o h w) :
    Calls Try.prog 39 #[.pointer (some ⟨p, o, none⟩), .int .i64 a, .int .i64 b] w fun e w' => e = .returned (.int .i64 (satv (satv a - satv b))) ∧ FlW p o (h || sath a || sath b || sath (satv a - satv b)) w w' := by
  have l1 := satv_lo a
  have l2 := satv_hi a
  have l3 := satv_lo b
  have l4 := satv_hi b
  go_enter Try.func39, Try.ntmps39
  go_wp2_with fail
  refine (sat_any p o a h _ f).mono ?_
  rintro e w1 ⟨rfl, k1⟩
  have f1 := k1.fl f
  go_wp2_with fail
  refine (sat_any p o b _ _ f1).mono ?_
  rintro e w2 ⟨rfl, k2⟩
  have f2 := k2.fl f1
  go_wp2_with fail
  refine (sat_at p o _ (satv a - satv b) _ _ f2 rfl).mono ?_
  rintro e w3 ⟨rfl, k3⟩
  go_wp2_with fail
  go_ret
  exact ⟨rfl, (k1.trans k2).trans k3⟩
def absv (a : Int) : Int := if a < -1152921504606846976 then 1152921504606846976 else if 1152921504606846976 < a then 1152921504606846976 else a.natAbs
theorem abs_any (a : Int) (w : World) :
    Calls Try.prog 48 #[.int .i64 a] w fun e w' => e = .returned (.int .i64 (absv a)) ∧ w = w' := by
  by_cases h1 : a < -1152921504606846976
  · have HV := Lib.hid (show absv a = 1152921504606846976 by unfold absv; rw [if_pos h1])
    go_enter Try.func48, Try.ntmps48
    go_wp2
    go_ret
    exact ⟨ret_int HV.out.symm, rfl⟩
  · by_cases h2 : 1152921504606846976 < a
    · have HV := Lib.hid (show absv a = 1152921504606846976 by unfold absv; rw [if_neg h1, if_pos h2])
      go_enter Try.func48, Try.ntmps48
      go_wp2
      go_ret
      exact ⟨ret_int HV.out.symm, rfl⟩
    · have HV := Lib.hid (show absv a = a.natAbs by unfold absv; rw [if_neg h1, if_neg h2])
      by_cases h3 : 0 ≤ a
      · have h4 : -a ≤ a := by omega
        go_enter Try.func48, Try.ntmps48
        go_wp2
        go_ret
        refine ⟨ret_int ?_, rfl⟩
        rw [HV.out]; omega
      · have h4 : ¬ -a ≤ a := by omega
        go_enter Try.func48, Try.ntmps48
        go_wp2
        go_ret
        refine ⟨ret_int ?_, rfl⟩
        rw [HV.out]; omega
theorem cmp_bd (x y : Int) : -1 ≤ cmpI x y ∧ cmpI x y ≤ 1 := by unfold cmpI; repeat split <;> omega
theorem zero_Wv : Value.agg #[.int .i64 0, .int .u64 0] = Wv 0 := agg2 rfl rfl
theorem bound_any (p o : Nat) (v : Int) (h : Bool) (w : World) (f : Fl p o h w) (hv : InW v) :
    Calls Try.prog 83 #[.pointer (some ⟨p, o, none⟩), Wv v] w fun e w' => e = .returned (.int .i64 (sideOf v)) ∧ FlW p o true w w' := by
  obtain ⟨fc, ff, fl⟩ := f
  have l1 := wh_lo hv
  have l2 := wh_hi hv
  have l3 := wl_lo v
  have l4 := wl_hi v
  have c1 := (cmp_bd v 0).1
  have c2 := (cmp_bd v 0).2
  go_enter Try.func83, Try.ntmps83
  go_wp2_with fail
  refine (wcmp_at v 0 _ _ zero_Wv).mono ?_
  rintro e w1 ⟨rfl, hb⟩
  have hb2 := ((FlW.set (p := p) (o := o) true w).alloc _).then hb
  clear hb
  go_wp2_with fail
  go_ret
  exact ⟨rfl, hb2⟩
end Go.Proofs.Ytahedampmjfoeaa
