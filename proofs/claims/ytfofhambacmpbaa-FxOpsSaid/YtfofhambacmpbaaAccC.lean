/- The document's own scalars: MulDiv, Div. -/
import Derived.Test.YtfofhambacmpbaaAccB
namespace Go.Proofs.Ytfofhambacmpbaa
open Go.RowKit

theorem div_abs (v d : Int) : (divZ v d).natAbs ≤ v.natAbs + 1 := by
  have h1 : (divZ v d).natAbs = dq v.natAbs d.natAbs := by rw [divZ_sign]; unfold withSign; split <;> omega
  have h2 := Nat.div_le_self v.natAbs d.natAbs
  rw [h1]
  unfold dq
  split <;> omega
set_option maxRecDepth 100000 in
set_option maxHeartbeats 4000000 in
theorem rmuldiv_any (p o : Nat) (a b d : Int) (h : Bool) (w : World) (f : Fl p o h w) :
    Calls Try.prog 55 #[.pointer (some ⟨p, o, none⟩), .int .i64 a, .int .i64 b, .int .i64 d] w fun e w' => e = .returned (.int .i64 (divv (satv a * satv b) (satv d))) ∧ FlW p o (h || sath a || sath b || sath d || divh (satv a * satv b) (satv d)) w w' := by
  have a1 := satv_abs a
  have b1 := satv_abs b
  have d1 := satv_abs d
  have l1 := satv_lo a
  have l2 := satv_hi a
  have l3 := satv_lo b
  have l4 := satv_hi b
  have l5 := satv_lo d
  have l6 := satv_hi d
  have m1 := mul_abs a b
  have n1 : (satv a).natAbs < B8 := big_lt (by omega)
  have n2 : (satv a).natAbs * (satv b).natAbs < B8 := big_lt (by rw [Int.natAbs_mul] at m1; omega)
  have n3 : (satv a * satv b).natAbs < B8 := big_lt (by omega)
  have n4 : (satv d).natAbs < B8 := big_lt (by omega)
  have n5 : 2 * (satv d).natAbs ≤ B8 := by rw [B8_val]; omega
  have n6 : (satv a * satv b).natAbs / (satv d).natAbs + 1 < B8 := big_lt (by have := Nat.div_le_self (satv a * satv b).natAbs (satv d).natAbs; omega)
  have n7 : (divZ (satv a * satv b) (satv d)).natAbs < B8 := big_lt (by have := div_abs (satv a * satv b) (satv d); omega)
  have HF := Lib.hid (zero_any (satv d).natAbs · n4)
  have HD := Lib.hid (fun hd w => div_ref (satv a * satv b) (satv d) w n3 hd n5 n6)
  have HC := Lib.hid (show satv d = 0 ∨ satv d ≠ 0 by omega)
  go_enter Try.func55, Try.ntmps55
  go_wp2_with fail
  refine (rsat_any p o a h _ f).mono ?_
  rintro e w1 ⟨rfl, k⟩
  have f := k.fl f
  go_wp2_with fail
  refine (of_any (satv a) _ (by omega) (by omega)).mono ?_
  rintro e w2 ⟨rfl, hb⟩
  have k := k.then hb
  have f := f.below hb
  clear hb
  go_wp2_with fail
  refine (rsat_any p o b _ _ f).mono ?_
  rintro e w3 ⟨rfl, k2⟩
  have f := k2.fl f
  have k := k.trans k2
  clear k2
  go_wp2_with fail
  refine (of_any (satv b) _ (by omega) (by omega)).mono ?_
  rintro e w4 ⟨rfl, hb⟩
  have k := k.then hb
  have f := f.below hb
  clear hb
  go_wp2_with fail
  refine (mul_any (satv a) (satv b) _ n1 n2).mono ?_
  rintro e w5 ⟨rfl, hb⟩
  have k := k.then hb
  have f := f.below hb
  clear hb
  generalize hve : satv a * satv b = v at *
  have HV := Lib.hid hve
  clear hve
  go_upto_region 2 with (fail)
  generalize hW : World.alloc w5 _ = W
  have B1 : Blk W w5.heap.size (row9 (decide (v < 0)) (dg v.natAbs)) 38 := by subst hW; exact Blk.made _ _ _ rfl
  have k : FlW p o (h || sath a || sath b) w W := by subst hW; exact k.alloc _
  have hp5 : w5.heap.size ≠ p := by have := f.lt; omega
  have f : Fl p o (h || sath a || sath b) W := by subst hW; exact f.alloc _
  clear hW
  go_wp2_with fail
  refine (rsat_any p o d _ _ f).mono ?_
  rintro e w6 ⟨rfl, k2⟩
  have B1 := B1.flag hp5 k2
  have f := k2.fl f
  have k := k.trans k2
  clear k2
  go_wp2_with fail
  refine (of_any (satv d) _ (by omega) (by omega)).mono ?_
  rintro e w7 ⟨rfl, hb⟩
  have B1 := B1.call hb
  have k := k.then hb
  have f := f.below hb
  clear hb
  go_upto_region 3 with (fail)
  generalize hW : World.alloc w7 _ = X
  have B2 : Blk X w7.heap.size (row9 (decide (satv d < 0)) (dg (satv d).natAbs)) 38 := by subst hW; exact Blk.made _ _ _ rfl
  have B1 : Blk X w5.heap.size (row9 (decide (v < 0)) (dg v.natAbs)) 38 := by subst hW; exact B1.alloc _
  have k : FlW p o (h || sath a || sath b || sath d) w X := by subst hW; exact k.alloc _
  have f : Fl p o (h || sath a || sath b || sath d) X := by subst hW; exact f.alloc _
  clear hW
  obtain ⟨a0, a1, a2, a3, a4, a5, a6, a7, a8⟩ := Has9.cells B2
  go_wp2_with fail
  refine (HF.out _).mono ?_
  rintro e w8 ⟨rfl, hb⟩
  have B1 := B1.call hb
  have B2 := B2.call hb
  have k := k.then hb
  have f := f.below hb
  clear hb a0 a1 a2 a3 a4 a5 a6 a7 a8
  obtain ⟨a0, a1, a2, a3, a4, a5, a6, a7, a8⟩ := Has9.cells B1
  obtain ⟨b0, b1, b2, b3, b4, b5, b6, b7, b8⟩ := Has9.cells B2
  rcases HC.out with h0 | h0
  · have t1 : decide ((satv d).natAbs = 0) = true := decide_eq_true (by omega)
    have HR := Lib.hid (show divv v (satv d) = sideOf v ∧ divh v (satv d) = true by unfold divv divh; rw [if_pos h0, if_pos h0]; exact ⟨rfl, rfl⟩)
    clear h0
    rw [t1]
    go_wp2_with fail
    refine (nought_any p o v _ _ f n3).mono ?_
    rintro e w9 ⟨rfl, k2⟩
    go_wp2_with fail
    go_ret
    exact ⟨ret_int (by rw [HV.out, HR.out.1]), flag_is (by rw [HV.out, HR.out.2, Bool.or_true]) (k.trans k2)⟩
  · have t1 : decide ((satv d).natAbs = 0) = false := decide_eq_false (by omega)
    have HR := Lib.hid (show divv v (satv d) = satv (divZ v (satv d)) ∧ divh v (satv d) = sath (divZ v (satv d)) by unfold divv divh; rw [if_neg h0, if_neg h0]; exact ⟨rfl, rfl⟩)
    have HDD := Lib.hid (HD.out h0)
    clear h0
    rw [t1]
    go_wp2_with fail
    refine (HDD.out _).mono ?_
    rintro e w9 ⟨rfl, hb⟩
    have k := k.then hb
    have f := f.below hb
    clear hb
    go_wp2_with fail
    refine (end_any p o (divZ v (satv d)) _ _ f n7).mono ?_
    rintro e w10 ⟨rfl, k2⟩
    go_wp2_with fail
    go_ret
    exact ⟨ret_int (by rw [HV.out, HR.out.1]), flag_is (by rw [HV.out, HR.out.2]) (k.trans k2)⟩
theorem pow_bg (s : Nat) (hs : s ≤ 250) (w : World) :
    Calls Try.prog 35 #[.int .i64 s] w fun e w' => e = .returned (Bg (2 ^ s)) ∧ Below w.heap.size w w' := by
  have e : ((2 : Int) ^ s) = ((2 ^ s : Nat) : Int) := by simp
  have h1 : Bg (2 ^ s) = BgR false (2 ^ s) := by
    show BgR _ _ = _
    rw [e, Int.natAbs_natCast, decide_eq_false (Int.not_lt.2 (Int.natCast_nonneg _))]
  rw [h1]
  exact pow_any s hs w
set_option maxRecDepth 100000 in
set_option maxHeartbeats 4000000 in
theorem rdiv_any (p o : Nat) (a b : Int) (s : Nat) (h : Bool) (w : World) (f : Fl p o h w) (hs : s ≤ 66) :
    Calls Try.prog 53 #[.pointer (some ⟨p, o, none⟩), .int .i64 a, .int .i64 b, .int .i64 s] w fun e w' => e = .returned (.int .i64 (divv (satv a * 2 ^ s) (satv b))) ∧ FlW p o (h || sath a || sath b || divh (satv a * 2 ^ s) (satv b)) w w' := by
  have g1 : ¬ (s : Int) < 0 := by omega
  have g2 : ¬ (66 : Int) < s := by omega
  have a1 := satv_abs a
  have b1 := satv_abs b
  have l1 := satv_lo a
  have l2 := satv_hi a
  have l3 := satv_lo b
  have l4 := satv_hi b
  have e : ((2 : Int) ^ s) = ((2 ^ s : Nat) : Int) := by simp
  have hp : 2 ^ s ≤ 73786976294838206464 := pow_lt s 66 hs
  have m1 : (satv a).natAbs * ((2 : Int) ^ s).natAbs ≤ 1152921504606846976 * 73786976294838206464 := by
    rw [e, Int.natAbs_natCast]
    exact Nat.mul_le_mul a1 hp
  have m2 : (satv a * 2 ^ s).natAbs ≤ 1152921504606846976 * 73786976294838206464 := by rw [Int.natAbs_mul]; exact m1
  have n1 : (satv a).natAbs < B8 := big_lt (by omega)
  have n2 : (satv a).natAbs * ((2 : Int) ^ s).natAbs < B8 := big_lt (by omega)
  have n3 : (satv a * 2 ^ s).natAbs < B8 := big_lt (by omega)
  have n4 : (satv b).natAbs < B8 := big_lt (by omega)
  have n5 : 2 * (satv b).natAbs ≤ B8 := by rw [B8_val]; omega
  have n6 : (satv a * 2 ^ s).natAbs / (satv b).natAbs + 1 < B8 := big_lt (by have := Nat.div_le_self (satv a * 2 ^ s).natAbs (satv b).natAbs; omega)
  have n7 : (divZ (satv a * 2 ^ s) (satv b)).natAbs < B8 := big_lt (by have := div_abs (satv a * 2 ^ s) (satv b); omega)
  have HF := Lib.hid (zero_any (satv b).natAbs · n4)
  have HD := Lib.hid (fun hd w => div_ref (satv a * 2 ^ s) (satv b) w n3 hd n5 n6)
  have HC := Lib.hid (show satv b = 0 ∨ satv b ≠ 0 by omega)
  have HM := Lib.hid (mul_any (satv a) (2 ^ s) · n1 n2)
  have HP := Lib.hid (pow_bg s (by omega))
  have HR1 := Lib.hid (show satv b = 0 → divv (satv a * 2 ^ s) (satv b) = sideOf (satv a) ∧ divh (satv a * 2 ^ s) (satv b) = true from fun h0 => by
    unfold divv divh
    rw [if_pos h0, if_pos h0]
    refine ⟨?_, rfl⟩
    have hpos : (0 : Int) < 2 ^ s := by rw [e]; have : 0 < 2 ^ s := Nat.pow_pos (by omega); omega
    rcases Int.lt_trichotomy (satv a) 0 with h1 | h1 | h1
    · rw [side_neg h1, side_neg (Int.mul_neg_of_neg_of_pos h1 hpos)]
    · rw [h1, Int.zero_mul]
    · rw [side_pos h1, side_pos (Int.mul_pos h1 hpos)])
  clear e hp m1 m2 n2 n3 n5 n6
  generalize hve : satv a * 2 ^ s = v at *
  generalize hPe : (2 : Int) ^ s = P at *
  have HV := Lib.hid hve
  clear hve hPe
  go_enter Try.func53, Try.ntmps53
  go_wp2_with fail
  refine (rsat_any p o a h _ f).mono ?_
  rintro e w1 ⟨rfl, k⟩
  have f := k.fl f
  go_wp2_with fail
  refine (of_any (satv a) _ (by omega) (by omega)).mono ?_
  rintro e w2 ⟨rfl, hb⟩
  have k := k.then hb
  have f := f.below hb
  clear hb
  go_upto_region 5 with (fail)
  generalize hW : World.alloc w2 _ = W
  have B1 : Blk W w2.heap.size (row9 (decide (satv a < 0)) (dg (satv a).natAbs)) 38 := by subst hW; exact Blk.made _ _ _ rfl
  have k : FlW p o (h || sath a) w W := by subst hW; exact k.alloc _
  have hp2 : w2.heap.size ≠ p := by have := f.lt; omega
  have f : Fl p o (h || sath a) W := by subst hW; exact f.alloc _
  clear hW
  go_wp2_with fail
  refine (rsat_any p o b _ _ f).mono ?_
  rintro e w3 ⟨rfl, k2⟩
  have B1 := B1.flag hp2 k2
  have f := k2.fl f
  have k := k.trans k2
  clear k2
  go_wp2_with fail
  refine (of_any (satv b) _ (by omega) (by omega)).mono ?_
  rintro e w4 ⟨rfl, hb⟩
  have B1 := B1.call hb
  have k := k.then hb
  have f := f.below hb
  clear hb
  go_upto_region 6 with (fail)
  generalize hW : World.alloc w4 _ = X
  have hp4 : w4.heap.size ≠ p := by have := f.lt; omega
  have B2 : Blk X w4.heap.size (row9 (decide (satv b < 0)) (dg (satv b).natAbs)) 38 := by subst hW; exact Blk.made _ _ _ rfl
  have B1 : Blk X w2.heap.size (row9 (decide (satv a < 0)) (dg (satv a).natAbs)) 38 := by subst hW; exact B1.alloc _
  have k : FlW p o (h || sath a || sath b) w X := by subst hW; exact k.alloc _
  have f : Fl p o (h || sath a || sath b) X := by subst hW; exact f.alloc _
  clear hW
  obtain ⟨a0, a1, a2, a3, a4, a5, a6, a7, a8⟩ := Has9.cells B2
  go_wp2_with fail
  refine (HF.out _).mono ?_
  rintro e w5 ⟨rfl, hb⟩
  have B1 := B1.call hb
  have B2 := B2.call hb
  have k := k.then hb
  have f := f.below hb
  clear hb a0 a1 a2 a3 a4 a5 a6 a7 a8
  obtain ⟨a0, a1, a2, a3, a4, a5, a6, a7, a8⟩ := Has9.cells B1
  obtain ⟨b0, b1, b2, b3, b4, b5, b6, b7, b8⟩ := Has9.cells B2
  rcases HC.out with h0 | h0
  · have t1 : decide ((satv b).natAbs = 0) = true := decide_eq_true (by omega)
    have HR := Lib.hid (HR1.out h0)
    clear h0
    rw [t1]
    go_wp2_with fail
    refine (nought_any p o (satv a) _ _ f n1).mono ?_
    rintro e w9 ⟨rfl, k2⟩
    go_wp2_with fail
    go_ret
    exact ⟨ret_int HR.out.1.symm, flag_is (by rw [HR.out.2, Bool.or_true]) (k.trans k2)⟩
  · have t1 : decide ((satv b).natAbs = 0) = false := decide_eq_false (by omega)
    have HR := Lib.hid (show divv v (satv b) = satv (divZ v (satv b)) ∧ divh v (satv b) = sath (divZ v (satv b)) by unfold divv divh; rw [if_neg h0, if_neg h0]; exact ⟨rfl, rfl⟩)
    have HDD := Lib.hid (HD.out h0)
    have l1' := B1.lt
    have l2' := B2.lt
    clear h0 HR1 HD HC
    rw [t1]
    go_upto_region 8 with (fail)
    go_region_held3 (fun w' => FExt p w5 w')
      ((show FExt p w5 _; first | (with_reducible exact FExt.start p w5) | (with_reducible exact hJ)))
      (first
        | (go_at_call 35; refine (HP.out _).mono ?_; rintro e w6 ⟨rfl, hb6⟩; have hJ := FExt.call (by assumption) hb6)
        | (go_at_call 27; refine (HM.out _).mono ?_; rintro e w7 ⟨rfl, hb7⟩; have hJ := FExt.call (by assumption) hb7)
        | (go_at_call 38; refine (HDD.out _).mono ?_; rintro e w8 ⟨rfl, hb8⟩; have hJ := FExt.call (by assumption) hb8)
        | (go_at_call 80; refine (end_any p o (divZ v (satv b)) _ _ (((f.drew.below hb6).below hb7).below hb8) n7).mono ?_; rintro e w9 ⟨rfl, k9⟩; have hJ := FExt.flag (by assumption) k9))
    go_wp2_with fail
    go_ret
    exact ⟨ret_int HR.out.1.symm, flag_is (by rw [HR.out.2]) ((((k.drew.then hb6).then hb7).then hb8).trans k9)⟩
end Go.Proofs.Ytfofhambacmpbaa
