/- The document's own scalars: Clamp, Sat, Abs, the end of a reckoning. -/
import Derived.Test.YtfofhambacmpbaaFxG
import Derived.Test.YtfofhambacmpbaaRefG
import Derived.Test.YtfofhambacmpbaaRefI
namespace Go.Proofs.Ytfofhambacmpbaa
open Go.RowKit

set_option maxRecDepth 100000 in
set_option maxHeartbeats 2000000 in
theorem rclamp_any (p o : Nat) (a lo hi : Int) (h : Bool) (w : World) (f : Fl p o h w) :
    Calls Try.prog 46 #[.pointer (some ⟨p, o, none⟩), .int .i64 a, .int .i64 lo, .int .i64 hi] w fun e w' => e = .returned (.int .i64 (clampv a lo hi)) ∧ FlW p o (h || clamph a lo hi) w w' := by
  obtain ⟨fc, ff, fl⟩ := f
  have hc : (hi < lo ∧ a < lo) ∨ (hi < lo ∧ ¬ a < lo ∧ lo = a) ∨ (hi < lo ∧ ¬ a < lo ∧ lo ≠ a) ∨ (¬ hi < lo ∧ a < lo) ∨ (¬ hi < lo ∧ ¬ a < lo ∧ hi < a) ∨ (¬ hi < lo ∧ ¬ a < lo ∧ ¬ hi < a) := by omega
  cases h
  all_goals
    rcases hc with ⟨h1, h2⟩ | ⟨h1, h2, h3⟩ | ⟨h1, h2, h3⟩ | ⟨h1, h2⟩ | ⟨h1, h2, h3⟩ | ⟨h1, h2, h3⟩
    · have HV := Lib.hid (show clampv a lo hi = lo ∧ clamph a lo hi = true by unfold clampv clamph; rw [if_pos h1, decide_eq_true h1]; exact ⟨rfl, rfl⟩)
      have t : (lo != a) = true := by rw [bne_iff_ne]; omega
      go_enter Try.func46, Try.ntmps46
      go_wp2
      go_ret
      exact ⟨ret_int HV.out.1.symm, flag_is (by simp [HV.out.2]) (FlW.set true _)⟩
    · have HV := Lib.hid (show clampv a lo hi = lo ∧ clamph a lo hi = true by unfold clampv clamph; rw [if_pos h1, decide_eq_true h1]; exact ⟨rfl, rfl⟩)
      subst h3
      go_enter Try.func46, Try.ntmps46
      go_wp2
      go_ret
      exact ⟨ret_int HV.out.1.symm, flag_is (by simp [HV.out.2]) (FlW.set true _)⟩
    · have HV := Lib.hid (show clampv a lo hi = lo ∧ clamph a lo hi = true by unfold clampv clamph; rw [if_pos h1, decide_eq_true h1]; exact ⟨rfl, rfl⟩)
      have t : (lo != a) = true := by rw [bne_iff_ne]; omega
      clear h3
      go_enter Try.func46, Try.ntmps46
      go_wp2
      go_ret
      exact ⟨ret_int HV.out.1.symm, flag_is (by simp [HV.out.2]) (FlW.set true _)⟩
    · have HV := Lib.hid (show clampv a lo hi = lo ∧ clamph a lo hi = true by unfold clampv clamph; rw [if_neg h1, if_pos h2, decide_eq_false h1, decide_eq_true h2]; exact ⟨rfl, rfl⟩)
      have t : (lo != a) = true := by rw [bne_iff_ne]; omega
      go_enter Try.func46, Try.ntmps46
      go_wp2
      go_ret
      exact ⟨ret_int HV.out.1.symm, flag_is (by simp [HV.out.2]) (FlW.set true _)⟩
    · have HV := Lib.hid (show clampv a lo hi = hi ∧ clamph a lo hi = true by unfold clampv clamph; rw [if_neg h1, if_neg h2, if_pos h3, decide_eq_false h1, decide_eq_false h2, decide_eq_true h3]; exact ⟨rfl, rfl⟩)
      have t : (hi != a) = true := by rw [bne_iff_ne]; omega
      go_enter Try.func46, Try.ntmps46
      go_wp2
      go_ret
      exact ⟨ret_int HV.out.1.symm, flag_is (by simp [HV.out.2]) (FlW.set true _)⟩
    · have HV := Lib.hid (show clampv a lo hi = a ∧ clamph a lo hi = false by unfold clampv clamph; rw [if_neg h1, if_neg h2, if_neg h3, decide_eq_false h1, decide_eq_false h2, decide_eq_false h3]; exact ⟨rfl, rfl⟩)
      go_enter Try.func46, Try.ntmps46
      go_wp2
      go_ret
      exact ⟨ret_int HV.out.1.symm, flag_is (by simp [HV.out.2]) (FlW.set _ _)⟩
theorem rsat_any (p o : Nat) (a : Int) (h : Bool) (w : World) (f : Fl p o h w) :
    Calls Try.prog 48 #[.pointer (some ⟨p, o, none⟩), .int .i64 a] w fun e w' => e = .returned (.int .i64 (satv a)) ∧ FlW p o (h || sath a) w w' := by
  have hcl := rclamp_any p o a (-1152921504606846976) 1152921504606846976 h w f
  rw [(clamp_sat a).1, (clamp_sat a).2] at hcl
  have HC := Lib.hid hcl
  clear hcl
  go_enter Try.func48, Try.ntmps48
  go_wp2_with fail
  refine HC.out.mono ?_
  rintro e w1 ⟨rfl, k⟩
  go_wp2_with fail
  go_ret
  exact ⟨rfl, k⟩
theorem rabs_any (a : Int) (w : World) :
    Calls Try.prog 57 #[.int .i64 a] w fun e w' => e = .returned (.int .i64 (absv a)) ∧ w = w' := by
  by_cases h1 : a < -1152921504606846976
  · have HV := Lib.hid (show absv a = 1152921504606846976 by unfold absv; rw [if_pos h1])
    go_enter Try.func57, Try.ntmps57
    go_wp2
    go_ret
    exact ⟨ret_int HV.out.symm, rfl⟩
  · by_cases h2 : 1152921504606846976 < a
    · have HV := Lib.hid (show absv a = 1152921504606846976 by unfold absv; rw [if_neg h1, if_pos h2])
      go_enter Try.func57, Try.ntmps57
      go_wp2
      go_ret
      exact ⟨ret_int HV.out.symm, rfl⟩
    · have HV := Lib.hid (show absv a = a.natAbs by unfold absv; rw [if_neg h1, if_neg h2])
      by_cases h3 : a < 0
      · go_enter Try.func57, Try.ntmps57
        go_wp2
        go_ret
        refine ⟨ret_int ?_, rfl⟩
        rw [HV.out]; omega
      · go_enter Try.func57, Try.ntmps57
        go_wp2
        go_ret
        refine ⟨ret_int ?_, rfl⟩
        rw [HV.out]; omega
def fit62 (z : Int) : Bool := decide (-4611686018427387904 ≤ z) && decide (z < 4611686018427387904)
theorem fits62 (z : Int) : fits z 62 = fit62 z := by
  unfold fits fit62
  rw [show (2 : Nat) ^ 62 = 4611686018427387904 by decide]
  by_cases h : z < 0
  · rw [if_pos h]
    by_cases h2 : -4611686018427387904 ≤ z
    · rw [decide_eq_false (by omega), decide_eq_true h2, decide_eq_true (by omega)]; rfl
    · rw [decide_eq_true (by omega), decide_eq_false h2]; rfl
  · rw [if_neg h]
    by_cases h2 : z < 4611686018427387904
    · rw [decide_eq_true (by omega), decide_eq_true (by omega), decide_eq_true h2]; rfl
    · rw [decide_eq_false (by omega), decide_eq_true (by omega), decide_eq_false h2]; rfl
theorem fits62_is (z : Int) (b : Bool) (w : World) (hz : z.natAbs < B8) (hb : fit62 z = b) :
    Calls Try.prog 30 #[Bg z, .int .i64 62] w fun e w' => e = .returned (.bool b) ∧ Below w.heap.size w w' := by
  rw [← hb, ← fits62]
  exact fits_any z 62 w (by decide) hz
set_option maxRecDepth 100000 in
set_option maxHeartbeats 2000000 in
theorem end_any (p o : Nat) (z : Int) (h : Bool) (w : World) (f : Fl p o h w) (hz : z.natAbs < B8) :
    Calls Try.prog 80 #[.pointer (some ⟨p, o, none⟩), Bg z] w fun e w' => e = .returned (.int .i64 (satv z)) ∧ FlW p o (h || sath z) w w' := by
  have hc : (fit62 z = true ∧ -4611686018427387904 ≤ z ∧ z < 4611686018427387904) ∨ (fit62 z = false ∧ z < -4611686018427387904) ∨ (fit62 z = false ∧ 4611686018427387904 ≤ z) := by
    unfold fit62
    by_cases h1 : -4611686018427387904 ≤ z
    · by_cases h2 : z < 4611686018427387904
      · exact .inl ⟨by rw [decide_eq_true h1, decide_eq_true h2]; rfl, h1, h2⟩
      · exact .inr (.inr ⟨by rw [decide_eq_true h1, decide_eq_false h2]; rfl, by omega⟩)
    · exact .inr (.inl ⟨by rw [decide_eq_false h1]; rfl, by omega⟩)
  rcases hc with ⟨hk, h1, h2⟩ | ⟨hk, h1⟩ | ⟨hk, h1⟩
  · have F1 := Lib.hid (fits62_is z true · hz hk)
    have F2 := Lib.hid (small_any z · (by omega) (by omega))
    clear hk
    go_enter Try.func80, Try.ntmps80
    go_wp2_with fail
    generalize hW : World.alloc w _ = W
    have B0 : Blk W w.heap.size (row9 (decide (z < 0)) (dg z.natAbs)) 38 := by subst hW; exact Blk.made _ _ _ rfl
    have k : FlW p o h w W := by subst hW; exact (FlW.refl f).alloc _
    clear hW
    refine (F1.out _).mono ?_
    rintro e w1 ⟨rfl, hb⟩
    have B0 := B0.call hb
    have k := k.then hb
    clear hb
    obtain ⟨a0, a1, a2, a3, a4, a5, a6, a7, a8⟩ := Has9.cells B0
    go_wp2_with fail
    refine (F2.out _).mono ?_
    rintro e w2 ⟨rfl, hb⟩
    have k := k.then hb
    have f2 := k.fl f
    clear hb a0 a1 a2 a3 a4 a5 a6 a7 a8
    go_wp2_with fail
    refine (rsat_any p o z h _ f2).mono ?_
    rintro e w3 ⟨rfl, k3⟩
    go_wp2_with fail
    go_ret
    exact ⟨rfl, k.trans k3⟩
  · have F1 := Lib.hid (fits62_is z false · hz hk)
    have HV := Lib.hid (satv_under (a := z) (by omega))
    have HN := Lib.hid (show z < 0 by omega)
    clear hk h1
    go_enter Try.func80, Try.ntmps80
    go_wp2_with fail
    generalize hW : World.alloc w _ = W
    have k : FlW p o h w W := by subst hW; exact (FlW.refl f).alloc _
    have B0 : Blk W w.heap.size (row9 (decide (z < 0)) (dg z.natAbs)) 38 := by subst hW; exact Blk.made _ _ _ rfl
    have z0 := (Has9.cells B0).1
    have zl : w.heap.size < W.heap.size := by subst hW; simp
    clear hW
    refine (F1.out _).mono ?_
    rintro e w1 ⟨rfl, hb⟩
    have k := k.then hb
    have fw := k.fl f
    have z0 := (cellAt hb zl).trans z0
    obtain ⟨fc, ff, fl⟩ := fw
    have hne : w.heap.size ≠ p := by have := f.lt; omega
    have hs := set_cell_other (w := w1) (p := p) (o := o) (b := w.heap.size) (i := 0) (.inl hne) (.bool true)
    have z0' := hs.trans z0
    clear hb hs
    have hneg := HN.out
    go_wp2_with fail
    go_ret
    exact ⟨ret_int HV.out.1.symm, flag_or HV.out.2 (k.trans (FlW.set _ _))⟩
  · have F1 := Lib.hid (fits62_is z false · hz hk)
    have HV := Lib.hid (satv_over (a := z) (by omega))
    have HN := Lib.hid (show ¬ z < 0 by omega)
    clear hk h1
    go_enter Try.func80, Try.ntmps80
    go_wp2_with fail
    generalize hW : World.alloc w _ = W
    have k : FlW p o h w W := by subst hW; exact (FlW.refl f).alloc _
    have B0 : Blk W w.heap.size (row9 (decide (z < 0)) (dg z.natAbs)) 38 := by subst hW; exact Blk.made _ _ _ rfl
    have z0 := (Has9.cells B0).1
    have zl : w.heap.size < W.heap.size := by subst hW; simp
    clear hW
    refine (F1.out _).mono ?_
    rintro e w1 ⟨rfl, hb⟩
    have k := k.then hb
    have fw := k.fl f
    have z0 := (cellAt hb zl).trans z0
    obtain ⟨fc, ff, fl⟩ := fw
    have hne : w.heap.size ≠ p := by have := f.lt; omega
    have hs := set_cell_other (w := w1) (p := p) (o := o) (b := w.heap.size) (i := 0) (.inl hne) (.bool true)
    have z0' := hs.trans z0
    clear hb hs
    have hneg := HN.out
    go_wp2_with fail
    go_ret
    exact ⟨ret_int HV.out.1.symm, flag_or HV.out.2 (k.trans (FlW.set _ _))⟩
end Go.Proofs.Ytfofhambacmpbaa
