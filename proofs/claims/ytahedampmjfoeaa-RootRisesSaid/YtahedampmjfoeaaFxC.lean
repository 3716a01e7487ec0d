/- Package fx: divided and clamped; a product; a quotient. -/
import Derived.Test.YtahedampmjfoeaaFxB
namespace Go.Proofs.Ytahedampmjfoeaa
open Go.RowKit

def divv (v d : Int) : Int := if d = 0 then sideOf v else satv (divZ v d)
def divh (v d : Int) : Bool := if d = 0 then true else sath (divZ v d)
theorem negside (v : Int) : wrap64 (-sideOf v) = -sideOf v := wrap64_in _ (by have := (side_bd v).2; omega) (by have := (side_bd v).1; omega)
set_option maxHeartbeats 1000000 in
theorem divide_fx (p o : Nat) (v d : Int) (h : Bool) (w : World) (f : Fl p o h w) (hv : InW v) (d1 : -9223372036854775808 ≤ d) (d2 : d ≤ 9223372036854775807) :
    Calls Try.prog 77 #[.pointer (some ⟨p, o, none⟩), Wv v, .int .i64 d] w fun e w' => e = .returned (.int .i64 (divv v d)) ∧ FlW p o (h || divh v d) w w' := by
  have sb := side_bd v
  have sb1 := sb.1
  have sb2 := sb.2
  clear sb
  by_cases d0 : d = 0
  · subst d0
    have HV := Lib.hid (show divv v 0 = sideOf v ∧ divh v 0 = true by unfold divv divh; rw [if_pos rfl, if_pos rfl]; exact ⟨rfl, rfl⟩)
    go_enter Try.func77, Try.ntmps77
    go_wp2_with fail
    generalize hW : World.alloc w _ = W
    obtain ⟨a0, a1⟩ : W.cell? ⟨w.heap.size, 0, none⟩ = some (.int .i64 (wh v)) ∧ W.cell? ⟨w.heap.size, 1, none⟩ = some (.int .u64 (wl v)) := by subst hW; exact box_at rfl
    have hz : w.heap.size < W.heap.size := by subst hW; simp
    have hB : Below w.heap.size w W := by subst hW; exact (Below.refl _ _).alloc (Nat.le_refl _) _
    clear hW
    refine (wdiv_zero v _ hv).mono ?_
    rintro e w1 ⟨rfl, hb⟩
    have a0 := (hb.cell (p := ⟨w.heap.size, 0, none⟩) hz).trans a0
    have a1 := (hb.cell (p := ⟨w.heap.size, 1, none⟩) hz).trans a1
    have hB := hB.trans (hb.mono (Nat.le_of_lt hz))
    have f1 := f.below hB
    clear hb hz
    go_wp2_with fail
    refine (bound_any p o v h _ f1 hv).mono ?_
    rintro e w2 ⟨rfl, k⟩
    go_wp2_with fail
    go_ret
    exact ⟨ret_int HV.out.1.symm, flag_or HV.out.2 (((FlW.refl f).then hB).trans k)⟩
  · have HV := Lib.hid (show divv v d = satv (divZ v d) ∧ divh v d = sath (divZ v d) by unfold divv divh; rw [if_neg d0, if_neg d0]; exact ⟨rfl, rfl⟩)
    cases hk : sok (divZ v d)
    · have HF := Lib.hid (div_far d0 hk)
      have HK := Lib.hid hk
      have HD := Lib.hid (wdiv_any v d · hv d1 d2 d0)
      clear hk d0
      by_cases hd : d < 0
      all_goals
        go_enter Try.func77, Try.ntmps77
        go_wp2_with fail
        generalize hW : World.alloc w _ = W
        obtain ⟨a0, a1⟩ : W.cell? ⟨w.heap.size, 0, none⟩ = some (.int .i64 (wh v)) ∧ W.cell? ⟨w.heap.size, 1, none⟩ = some (.int .u64 (wl v)) := by subst hW; exact box_at rfl
        have hz : w.heap.size < W.heap.size := by subst hW; simp
        have hB : Below w.heap.size w W := by subst hW; exact (Below.refl _ _).alloc (Nat.le_refl _) _
        clear hW
        refine (HD.out _).mono ?_
        rintro e w1 ⟨rfl, hb⟩
        rw [HK.out]
        have a0 := (hb.cell (p := ⟨w.heap.size, 0, none⟩) hz).trans a0
        have a1 := (hb.cell (p := ⟨w.heap.size, 1, none⟩) hz).trans a1
        have hB := hB.trans (hb.mono (Nat.le_of_lt hz))
        have f1 := f.below hB
        clear hb hz
        go_wp2_with fail
        refine (bound_any p o v h _ f1 hv).mono ?_
        rintro e w2 ⟨rfl, k⟩
        go_wp2_with fail
        go_ret
        refine ⟨ret_int ?_, flag_is (show true = (h || divh v d) by rw [HV.out.2, HF.out.2, Bool.or_true]) (((FlW.refl f).then hB).trans k)⟩
        rw [HV.out.1, HF.out.1]
      · rw [if_pos hd]
      · rw [if_neg (by omega)]
    · have HQ := Lib.hid (show sval (divZ v d) = divZ v d by unfold sval; rw [if_pos hk])
      have HK := Lib.hid hk
      have HD := Lib.hid (wdiv_any v d · hv d1 d2 d0)
      clear hk d0
      go_enter Try.func77, Try.ntmps77
      go_wp2_with fail
      generalize hW : World.alloc w _ = W
      have hB : Below w.heap.size w W := by subst hW; exact (Below.refl _ _).alloc (Nat.le_refl _) _
      have hz : w.heap.size < W.heap.size := by subst hW; simp
      clear hW
      refine (HD.out _).mono ?_
      rintro e w1 ⟨rfl, hb⟩
      rw [HK.out]
      have hB := hB.trans (hb.mono (Nat.le_of_lt hz))
      have f1 := f.below hB
      clear hb hz
      go_wp2_with fail
      refine (sat_at p o _ (divZ v d) h _ f1 HQ.out).mono ?_
      rintro e w2 ⟨rfl, k⟩
      go_wp2_with fail
      go_ret
      exact ⟨ret_int HV.out.1.symm, flag_is (by rw [HV.out.2]) (((FlW.refl f).then hB).trans k)⟩

theorem bilin_abs {a b : Int} {k : Int} (hk : 0 ≤ k) (a1 : -k ≤ a) (a2 : a ≤ k) (b1 : -k ≤ b) (b2 : b ≤ k) : -(k * k) ≤ a * b ∧ a * b ≤ k * k := by
  have h1 : (a * b).natAbs ≤ k.natAbs * k.natAbs := by
    rw [Int.natAbs_mul]
    exact Nat.mul_le_mul (by omega) (by omega)
  have h2 : (k * k).natAbs = k.natAbs * k.natAbs := Int.natAbs_mul _ _
  have h3 : 0 ≤ k * k := Int.mul_nonneg hk hk
  generalize a * b = x at *
  generalize k * k = y at *
  omega
theorem mul_sat_in (a b : Int) : InW (satv a * satv b) := by
  have h := bilin_abs (k := 1152921504606846976) (by omega) (satv_lo a) (satv_hi a) (satv_lo b) (satv_hi b)
  exact ⟨by omega, by omega⟩
set_option maxHeartbeats 1000000 in
theorem mul_fx (p o : Nat) (a b : Int) (s : Nat) (h : Bool) (w : World) (f : Fl p o h w) (hs : s ≤ 120) :
    Calls Try.prog 41 #[.pointer (some ⟨p, o, none⟩), .int .i64 a, .int .i64 b, .int .i64 s] w fun e w' => e = .returned (.int .i64 (satv (rnd (satv a * satv b) s))) ∧ FlW p o (h || sath a || sath b || sath (rnd (satv a * satv b) s)) w w' := by
  have g1 : ¬ (s : Int) < 0 := by omega
  have g2 : ¬ (120 : Int) < s := by omega
  have l1 := satv_lo a
  have l2 := satv_hi a
  have l3 := satv_lo b
  have l4 := satv_hi b
  go_enter Try.func41, Try.ntmps41
  go_wp2_with fail
  refine (sat_any p o a h _ f).mono ?_
  rintro e w1 ⟨rfl, k1⟩
  have f1 := k1.fl f
  go_wp2_with fail
  refine (sat_any p o b _ _ f1).mono ?_
  rintro e w2 ⟨rfl, k2⟩
  have f2 := k2.fl f1
  go_wp2_with fail
  refine (wmul_any (satv a) (satv b) _ (by omega) (by omega) (by omega) (by omega)).mono ?_
  rintro e w3 ⟨rfl, hb⟩
  have f3 := f2.below hb
  go_wp2_with fail
  refine (round_fx p o (satv a * satv b) s _ _ f3 (mul_sat_in a b) (by omega)).mono ?_
  rintro e w4 ⟨rfl, k4⟩
  go_wp2_with fail
  go_ret
  exact ⟨rfl, ((k1.trans k2).then hb).trans k4⟩
theorem mul_out (p o : Nat) (a b s : Int) (h : Bool) (w : World) (f : Fl p o h w) (hs : s < 0 ∨ 120 < s) :
    Calls Try.prog 41 #[.pointer (some ⟨p, o, none⟩), .int .i64 a, .int .i64 b, .int .i64 s] w fun e w' => e = .returned (.int .i64 0) ∧ FlW p o true w w' := by
  obtain ⟨fc, ff, fl⟩ := f
  by_cases g1 : s < 0
  · go_enter Try.func41, Try.ntmps41
    go_wp2
    go_ret
    exact ⟨rfl, FlW.set _ _⟩
  · have g2 : 120 < s := by omega
    go_enter Try.func41, Try.ntmps41
    go_wp2
    go_ret
    exact ⟨rfl, FlW.set _ _⟩
set_option maxHeartbeats 1000000 in
theorem muldiv_fx (p o : Nat) (a b d : Int) (h : Bool) (w : World) (f : Fl p o h w) :
    Calls Try.prog 45 #[.pointer (some ⟨p, o, none⟩), .int .i64 a, .int .i64 b, .int .i64 d] w fun e w' => e = .returned (.int .i64 (divv (satv a * satv b) (satv d))) ∧ FlW p o (h || sath a || sath b || sath d || divh (satv a * satv b) (satv d)) w w' := by
  have l1 := satv_lo a
  have l2 := satv_hi a
  have l3 := satv_lo b
  have l4 := satv_hi b
  have l5 := satv_lo d
  have l6 := satv_hi d
  go_enter Try.func45, Try.ntmps45
  go_wp2_with fail
  refine (sat_any p o a h _ f).mono ?_
  rintro e w1 ⟨rfl, k1⟩
  have f1 := k1.fl f
  go_wp2_with fail
  refine (sat_any p o b _ _ f1).mono ?_
  rintro e w2 ⟨rfl, k2⟩
  have f2 := k2.fl f1
  go_wp2_with fail
  refine (wmul_any (satv a) (satv b) _ (by omega) (by omega) (by omega) (by omega)).mono ?_
  rintro e w3 ⟨rfl, hb⟩
  have f3 := f2.below hb
  go_wp2_with fail
  refine (sat_any p o d _ _ f3).mono ?_
  rintro e w4 ⟨rfl, k4⟩
  have f4 := k4.fl f3
  go_wp2_with fail
  refine (divide_fx p o (satv a * satv b) (satv d) _ _ f4 (mul_sat_in a b) (by omega) (by omega)).mono ?_
  rintro e w5 ⟨rfl, k5⟩
  go_wp2_with fail
  go_ret
  exact ⟨rfl, (((k1.trans k2).then hb).trans k4).trans k5⟩
end Go.Proofs.Ytahedampmjfoeaa
