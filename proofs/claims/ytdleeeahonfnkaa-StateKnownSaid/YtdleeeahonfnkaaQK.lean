/- The document's own scalars again: quotients. -/
import Derived.Test.YtdleeeahonfnkaaQJ
namespace Go.Proofs.Ytdleeeahonfnkaa
open Go.RowKit

/-- A size with the sign of a quotient, clamped. -/
theorem quot_sign (v d : Int) (n : Nat) (sv : Bool) (d0 : d ≠ 0) (hn : v.natAbs = n) (hs : v ≠ 0 → sv = decide (v < 0)) : qval (sv != decide (d < 0)) (dq n d.natAbs : Nat) = divZ v d := by
  rw [divZ_sign]
  by_cases h : v = 0
  · subst h
    have e : n = 0 := by omega
    subst e
    rw [show (0 : Int).natAbs = 0 from rfl, dq_zero _ (by omega)]
    unfold qval withSign
    simp
  · rw [hs h, hn]; rfl
theorem divv_pos {v d : Int} (h : d ≠ 0) : divv v d = satv (divZ v d) ∧ divh v d = sath (divZ v d) := by
  unfold divv divh
  rw [if_neg h, if_neg h]
  exact ⟨rfl, rfl⟩
theorem dq_bound (n d : Nat) (hd : 0 < d) (hn : n < 340282366920938463463374607431768211456) : dq n d < 340282366920938463463374607431768211456 := by
  have := Nat.div_le_self n d
  have hm := Nat.mod_lt n hd
  unfold dq
  split
  · rename_i h
    have h2 : 2 ≤ d := by omega
    have : n / d ≤ n / 2 := Nat.div_le_div_left h2 (by omega)
    omega
  · omega
theorem lift_hi (x s : Nat) (_ : 1 ≤ s) (h2 : s < 64) (_ : x ≤ 1152921504606846976) : ((x : Int) / 2 ^ (64 - s)) = wh (x * 2 ^ s : Nat) ∧ IntKind.u64.wrap ((x : Int) * 2 ^ s) = wl (x * 2 ^ s : Nat) := by
  have h := shift_low x s h2
  have e : ((x : Int) * 2 ^ s) = ((x * 2 ^ s : Nat) : Int) := by rw [pow_int, ← Int.natCast_mul]
  rw [e] at h
  have h3 := h.1
  refine ⟨h3, ?_⟩
  rw [e, IntKind.wrap_u64]
  rfl
set_option maxHeartbeats 1000000 in
theorem qdiv_zero (p o : Nat) (a b : Int) (s : Int) (h : Bool) (w : World) (f : Fl p o h w) (hb0 : satv b = 0) :
    Calls Try.prog 146 #[.pointer (some ⟨p, o, none⟩), .int .i64 a, .int .i64 b, .int .i64 s] w fun e w' => e = .returned (.int .i64 (sideOf (satv a))) ∧ FlW p o true w w' := by
  have l1 := satv_lo a
  have l2 := satv_hi a
  have HB := Lib.hid (show ∀ h w, Fl p o h w → _ from fun h w f => qsat p o b h w f)
  rw [hb0] at HB
  go_enter Try.func146, Try.ntmps146
  go_wp2_with fail
  refine (qsat p o a h _ f).mono ?_
  rintro e w1 ⟨rfl, k⟩
  have f := k.fl f
  go_wp2_with fail
  refine (HB.out _ _ f).mono ?_
  rintro e w2 ⟨rfl, k2⟩
  have f := k2.fl f
  have k := k.trans k2
  clear k2 HB
  obtain ⟨fc, ff, fl⟩ := f
  generalize hX : satv a = x at *
  rcases Int.lt_trichotomy x 0 with hx | hx | hx
  · have g1 : ¬ 0 < x := by omega
    have HV := Lib.hid (side_neg hx)
    go_wp2_with fail
    go_ret
    exact ⟨ret_int (by rw [hX]; exact HV.out.symm), k.trans (FlW.set _ _)⟩
  · subst hx
    go_wp2_with fail
    go_ret
    exact ⟨ret_int (by rw [hX]; rfl), k.trans (FlW.set _ _)⟩
  · have HV := Lib.hid (side_pos hx)
    go_wp2_with fail
    go_ret
    exact ⟨ret_int (by rw [hX]; exact HV.out.symm), k.trans (FlW.set _ _)⟩
theorem q_size_b (a : Int) (w : World) (h1 : -1152921504606846976 ≤ a) (h2 : a ≤ 1152921504606846976) :
    Calls Try.prog 147 #[.int .i64 a] w fun e w' => e = .returned (.int .u64 a.natAbs) ∧ Below w.heap.size w w' :=
  (q_size a w h1 h2).mono fun e w' ⟨he, hw⟩ => ⟨he, by rw [← hw]; exact Below.refl _ _⟩
set_option maxHeartbeats 2000000 in
theorem qdiv_near (p o : Nat) (a b : Int) (s : Nat) (h : Bool) (w : World) (f : Fl p o h w) (s1 : 1 ≤ s) (s2 : s < 64) (hb0 : satv b ≠ 0) :
    Calls Try.prog 146 #[.pointer (some ⟨p, o, none⟩), .int .i64 a, .int .i64 b, .int .i64 s] w fun e w' => e = .returned (.int .i64 (satv (divZ (satv a * 2 ^ s) (satv b)))) ∧ FlW p o (h || sath a || sath b || sath (divZ (satv a * 2 ^ s) (satv b))) w w' := by
  have l1 := satv_lo a
  have l2 := satv_hi a
  have l3 := satv_lo b
  have l4 := satv_hi b
  have g1 : ¬ (64 : Int) ≤ s := by omega
  have g2 : (0 : Int) < s := by omega
  have g4 : IntKind.i64.wrap (64 - (s : Int)) = ((64 - s : Nat) : Int) := by rw [IntKind.wrap_i64]; omega
  have hP : 2 ^ s ≤ 9223372036854775808 := pow_lt s 63 (by omega)
  have hN : (satv a).natAbs * 2 ^ s < 340282366920938463463374607431768211456 := by
    have : (satv a).natAbs * 2 ^ s ≤ 1152921504606846976 * 9223372036854775808 := Nat.mul_le_mul (by omega) hP
    omega
  have e0 : (satv a * 2 ^ s).natAbs = (satv a).natAbs * 2 ^ s := by rw [Int.natAbs_mul, pow_int]; rfl
  have e1 : satv a * 2 ^ s ≠ 0 → decide (satv a < 0) = decide (satv a * 2 ^ s < 0) := by
    intro _
    have hp : (0 : Int) < 2 ^ s := Int.pow_pos (by decide)
    rcases Int.lt_trichotomy (satv a) 0 with hx | hx | hx
    · rw [decide_eq_true hx, decide_eq_true (Int.mul_neg_of_neg_of_pos hx hp)]
    · rw [hx]; simp
    · rw [decide_eq_false (by omega), decide_eq_false (by have := Int.mul_pos hx hp; omega)]
  have HQ := Lib.hid (quot_sign (satv a * 2 ^ s) (satv b) ((satv a).natAbs * 2 ^ s) (decide (satv a < 0)) hb0 e0 e1)
  have HL := Lib.hid (lift_hi (satv a).natAbs s s1 s2 (by omega))
  have HX := Lib.hid (fun w => q_size (satv a) w l1 l2)
  have HY := Lib.hid (fun w => q_size_b (satv b) w l3 l4)
  have HD := Lib.hid (fun (c : Bool) w => q_divided ((satv a).natAbs * 2 ^ s) (satv b).natAbs c w hN (by omega) (by omega))
  have HE := Lib.hid (fun (c : Bool) h w f => qend p o c (dq ((satv a).natAbs * 2 ^ s) (satv b).natAbs : Nat) h w f (inq_nat (dq_bound _ _ (by omega) hN)))
  have HN := Lib.hid hN
  clear hN e0 e1
  rw [← HQ.out]
  go_enter Try.func146, Try.ntmps146
  go_wp2_with fail
  refine (qsat p o a h _ f).mono ?_
  rintro e w1 ⟨rfl, k⟩
  have f := k.fl f
  go_wp2_with fail
  refine (qsat p o b _ _ f).mono ?_
  rintro e w2 ⟨rfl, k2⟩
  have f := k2.fl f
  have k := k.trans k2
  clear k2
  go_wp2_with fail
  refine (HX.out _).mono ?_
  rintro e w3 ⟨rfl, rfl⟩
  have k2p := f
  go_upto_region 17 with (fail)
  generalize hW : World.alloc _ _ = W
  have k := k.alloc (.cells #[.int .u64 ((satv a).natAbs / 2 ^ (64 - s)), .int .u64 (IntKind.u64.wrap ((satv a).natAbs * 2 ^ s)), .bool (!(decide (satv a < 0) == decide (satv b < 0)))] 127)
  have f := f.alloc (.cells #[.int .u64 ((satv a).natAbs / 2 ^ (64 - s)), .int .u64 (IntKind.u64.wrap ((satv a).natAbs * 2 ^ s)), .bool (!(decide (satv a < 0) == decide (satv b < 0)))] 127)
  have e0 := heap_alloc_new w2 (.cells #[.int .u64 ((satv a).natAbs / 2 ^ (64 - s)), .int .u64 (IntKind.u64.wrap ((satv a).natAbs * 2 ^ s)), .bool (!(decide (satv a < 0) == decide (satv b < 0)))] 127)
  rw [hW] at k f e0
  have hsz : w2.heap.size < W.heap.size := by subst hW; simp
  clear hW
  have hne : w2.heap.size ≠ p := by have := k2p.lt; omega
  rw [HL.out.1, HL.out.2] at e0
  have a0 : W.cell? ⟨w2.heap.size, 0, none⟩ = some (.int .u64 (wh ((satv a).natAbs * 2 ^ s : Nat))) := by rw [cell_of_row W _ _ _ _ _ e0]; rfl
  have a1 : W.cell? ⟨w2.heap.size, 1, none⟩ = some (.int .u64 (wl ((satv a).natAbs * 2 ^ s : Nat))) := by rw [cell_of_row W _ _ _ _ _ e0]; rfl
  have a2 : W.cell? ⟨w2.heap.size, 2, none⟩ = some (.bool (!(decide (satv a < 0) == decide (satv b < 0)))) := by rw [cell_of_row W _ _ _ _ _ e0]; rfl
  clear e0 HL HX k2p
  generalize hM : (satv a).natAbs * 2 ^ s = M at *
  generalize hR : dq M (satv b).natAbs = R at *
  go_region_held3 (fun w' => FExt p W w')
    ((show FExt p W _; first | (with_reducible exact FExt.start p W) | (with_reducible exact hJ)))
    (first
      | (go_at_call 147; refine (HY.out _).mono ?_; rintro e w6 ⟨rfl, hb6⟩; have hJ := FExt.call (by assumption) hb6)
      | (go_at_call 156; refine (HD.out _ _).mono ?_; rintro e w7 ⟨rfl, hb7⟩; have hJ := FExt.call (by assumption) hb7)
      | (go_at_call 122; refine (HE.out _ _ _ ((f.drew.below hb6).below hb7)).mono ?_; rintro e w9 ⟨rfl, k9⟩; have hJ := FExt.flag (by assumption) k9))
  go_wp2_with fail
  go_ret
  rw [hM, hR]
  exact ⟨rfl, ((k.drew.then hb6).then hb7).trans k9⟩
theorem qdiv (p o : Nat) (a b : Int) (s : Nat) (h : Bool) (w : World) (f : Fl p o h w) (s1 : 1 ≤ s) (s2 : s < 64) :
    Calls Try.prog 146 #[.pointer (some ⟨p, o, none⟩), .int .i64 a, .int .i64 b, .int .i64 s] w fun e w' => e = .returned (.int .i64 (divv (satv a * 2 ^ s) (satv b))) ∧ FlW p o (h || sath a || sath b || divh (satv a * 2 ^ s) (satv b)) w w' := by
  by_cases hb0 : satv b = 0
  · refine (qdiv_zero p o a b s h w f hb0).mono ?_
    rintro e w' ⟨rfl, k⟩
    have hp : (0 : Int) < 2 ^ s := Int.pow_pos (by decide)
    refine ⟨ret_int ?_, flag_is ?_ k⟩
    · unfold divv
      rw [if_pos hb0]
      rcases Int.lt_trichotomy (satv a) 0 with hx | hx | hx
      · rw [side_neg hx, side_neg (Int.mul_neg_of_neg_of_pos hx hp)]
      · rw [hx]; simp
      · rw [side_pos hx, side_pos (Int.mul_pos hx hp)]
    · unfold divh
      rw [if_pos hb0, Bool.or_true]
  · rw [(divv_pos hb0).1, (divv_pos hb0).2]
    exact qdiv_near p o a b s h w f s1 s2 hb0
theorem qd (p o : Nat) (a b : Int) (h : Bool) (w : World) (f : Fl p o h w) :
    Calls Try.prog 116 #[.pointer (some ⟨p, o, none⟩), .int .i64 a, .int .i64 b] w fun e w' => e = .returned (.int .i64 (divv (satv a * 2 ^ 30) (satv b))) ∧ FlW p o (h || sath a || sath b || divh (satv a * 2 ^ 30) (satv b)) w w' := by
  have HM := Lib.hid (qdiv p o a b 30 h · · (by omega) (by omega))
  generalize divv (satv a * 2 ^ 30) (satv b) = V at *
  generalize divh (satv a * 2 ^ 30) (satv b) = H at *
  go_enter Try.func116, Try.ntmps116
  go_wp2_with fail
  refine (HM.out _ f).mono ?_
  rintro e w1 ⟨rfl, k⟩
  go_wp2_with fail
  go_ret
  exact ⟨rfl, k⟩
end Go.Proofs.Ytdleeeahonfnkaa
