/- The document's own scalars again: Clamp, Sat, Abs, the end of a reckoning. -/
import Derived.Test.YtdleeeahonfnkaaQE
import Derived.Test.YtdleeeahonfnkaaPD
namespace Go.Proofs.Ytdleeeahonfnkaa
open Go.RowKit

set_option maxRecDepth 100000 in
set_option maxHeartbeats 2000000 in
theorem qclamp (p o : Nat) (a lo hi : Int) (h : Bool) (w : World) (f : Fl p o h w) :
    Calls Try.prog 113 #[.pointer (some ⟨p, o, none⟩), .int .i64 a, .int .i64 lo, .int .i64 hi] w fun e w' => e = .returned (.int .i64 (clampv a lo hi)) ∧ FlW p o (h || clamph a lo hi) w w' := by
  obtain ⟨fc, ff, fl⟩ := f
  have hc : (hi < lo ∧ a < lo) ∨ (hi < lo ∧ ¬ a < lo ∧ lo = a) ∨ (hi < lo ∧ ¬ a < lo ∧ lo ≠ a) ∨ (¬ hi < lo ∧ a < lo) ∨ (¬ hi < lo ∧ ¬ a < lo ∧ hi < a) ∨ (¬ hi < lo ∧ ¬ a < lo ∧ ¬ hi < a) := by omega
  cases h
  all_goals
    rcases hc with ⟨h1, h2⟩ | ⟨h1, h2, h3⟩ | ⟨h1, h2, h3⟩ | ⟨h1, h2⟩ | ⟨h1, h2, h3⟩ | ⟨h1, h2, h3⟩
    · have HV := Lib.hid (show clampv a lo hi = lo ∧ clamph a lo hi = true by unfold clampv clamph; rw [if_pos h1, decide_eq_true h1]; exact ⟨rfl, rfl⟩)
      have t : (lo != a) = true := by rw [bne_iff_ne]; omega
      go_enter Try.func113, Try.ntmps113
      go_wp2
      go_ret
      exact ⟨ret_int HV.out.1.symm, flag_is (by simp [HV.out.2]) (FlW.set true _)⟩
    · have HV := Lib.hid (show clampv a lo hi = lo ∧ clamph a lo hi = true by unfold clampv clamph; rw [if_pos h1, decide_eq_true h1]; exact ⟨rfl, rfl⟩)
      subst h3
      go_enter Try.func113, Try.ntmps113
      go_wp2
      go_ret
      exact ⟨ret_int HV.out.1.symm, flag_is (by simp [HV.out.2]) (FlW.set true _)⟩
    · have HV := Lib.hid (show clampv a lo hi = lo ∧ clamph a lo hi = true by unfold clampv clamph; rw [if_pos h1, decide_eq_true h1]; exact ⟨rfl, rfl⟩)
      have t : (lo != a) = true := by rw [bne_iff_ne]; omega
      clear h3
      go_enter Try.func113, Try.ntmps113
      go_wp2
      go_ret
      exact ⟨ret_int HV.out.1.symm, flag_is (by simp [HV.out.2]) (FlW.set true _)⟩
    · have HV := Lib.hid (show clampv a lo hi = lo ∧ clamph a lo hi = true by unfold clampv clamph; rw [if_neg h1, if_pos h2, decide_eq_false h1, decide_eq_true h2]; exact ⟨rfl, rfl⟩)
      have t : (lo != a) = true := by rw [bne_iff_ne]; omega
      go_enter Try.func113, Try.ntmps113
      go_wp2
      go_ret
      exact ⟨ret_int HV.out.1.symm, flag_is (by simp [HV.out.2]) (FlW.set true _)⟩
    · have HV := Lib.hid (show clampv a lo hi = hi ∧ clamph a lo hi = true by unfold clampv clamph; rw [if_neg h1, if_neg h2, if_pos h3, decide_eq_false h1, decide_eq_false h2, decide_eq_true h3]; exact ⟨rfl, rfl⟩)
      have t : (hi != a) = true := by rw [bne_iff_ne]; omega
      go_enter Try.func113, Try.ntmps113
      go_wp2
      go_ret
      exact ⟨ret_int HV.out.1.symm, flag_is (by simp [HV.out.2]) (FlW.set true _)⟩
    · have HV := Lib.hid (show clampv a lo hi = a ∧ clamph a lo hi = false by unfold clampv clamph; rw [if_neg h1, if_neg h2, if_neg h3, decide_eq_false h1, decide_eq_false h2, decide_eq_false h3]; exact ⟨rfl, rfl⟩)
      go_enter Try.func113, Try.ntmps113
      go_wp2
      go_ret
      exact ⟨ret_int HV.out.1.symm, flag_is (by simp [HV.out.2]) (FlW.refl ⟨fc, ff, fl⟩)⟩
theorem qsat (p o : Nat) (a : Int) (h : Bool) (w : World) (f : Fl p o h w) :
    Calls Try.prog 110 #[.pointer (some ⟨p, o, none⟩), .int .i64 a] w fun e w' => e = .returned (.int .i64 (satv a)) ∧ FlW p o (h || sath a) w w' := by
  have hcl := qclamp p o a (-1152921504606846976) 1152921504606846976 h w f
  rw [(clamp_sat a).1, (clamp_sat a).2] at hcl
  have HC := Lib.hid hcl
  clear hcl
  go_enter Try.func110, Try.ntmps110
  go_wp2_with fail
  refine HC.out.mono ?_
  rintro e w1 ⟨rfl, k⟩
  go_wp2_with fail
  go_ret
  exact ⟨rfl, k⟩
theorem qabs (a : Int) (w : World) :
    Calls Try.prog 115 #[.int .i64 a] w fun e w' => e = .returned (.int .i64 (absv a)) ∧ Below w.heap.size w w' := by
  have hv : absv a = (satv a).natAbs := by
    unfold absv satv
    repeat split
    all_goals omega
  have l1 := satv_lo a
  have l2 := satv_hi a
  have HS := Lib.hid (fun (w : World) f => qsat w.heap.size 0 a false (w.alloc (.cells #[.bool false] 53)) f)
  rw [hv]
  clear hv
  generalize satv a = v at *
  go_enter Try.func115, Try.ntmps115
  go_wp2_with fail
  refine (HS.out _ (Fl.made w _ false)).mono ?_
  rintro e w1 ⟨rfl, k⟩
  have hB := ((Below.refl w.heap.size w).alloc (Nat.le_refl _) (.cells #[.bool false] 53)).trans (k.below (by simp) (Nat.le_refl _))
  clear k HS
  by_cases hv : v < 0
  · go_wp2_with fail
    go_ret
    refine ⟨ret_int ?_, hB⟩
    omega
  · go_wp2_with fail
    go_ret
    refine ⟨ret_int ?_, hB⟩
    omega
theorem qval_small {b : Bool} {n : Int} (h0 : 0 ≤ n) (h : n ≤ 1152921504606846976) : satv (qval b n) = qval b n ∧ sath (qval b n) = false := by
  unfold qval
  cases b <;> simp only [if_true, if_false, Bool.false_eq_true] <;> exact satv_in (by omega) (by omega)
theorem qval_great {b : Bool} {n : Int} (h : 1152921504606846976 < n) : satv (qval b n) = qval b 1152921504606846976 ∧ sath (qval b n) = true := by
  unfold qval
  cases b
  · simp only [if_false, Bool.false_eq_true]; exact satv_over h
  · simp only [if_true]; exact satv_under (by omega)
set_option maxHeartbeats 1000000 in
theorem qend (p o : Nat) (b : Bool) (n : Int) (h : Bool) (w : World) (f : Fl p o h w) (hn : InQ n) :
    Calls Try.prog 122 #[.pointer (some ⟨p, o, none⟩), Qv b n] w fun e w' => e = .returned (.int .i64 (satv (qval b n))) ∧ FlW p o (h || sath (qval b n)) w w' := by
  have l0 := qh_lo hn
  have n0 := hn.lo
  have k0 := wl_lo n
  have k1 := wl_hi n
  obtain ⟨fc, ff, fl⟩ := f
  have hne : w.heap.size ≠ p := by omega
  have hc : (¬ 0 < wh n ∧ ¬ 1152921504606846976 < wl n ∧ n ≤ 1152921504606846976 ∧ wl n = n) ∨ (0 < wh n ∧ 1152921504606846976 < n) ∨ (¬ 0 < wh n ∧ 1152921504606846976 < wl n ∧ 1152921504606846976 < n) := by
    have := hn.hi
    unfold wh wl at *
    omega
  cases b
  all_goals
    rcases hc with ⟨h1, h2, h3, h4⟩ | ⟨h1, h2⟩ | ⟨h1, h2, h3⟩
    · have HV := Lib.hid (fun b => qval_small (b := b) n0 h3)
      rw [(HV.out _).1, (HV.out _).2]
      have HN := Lib.hid (And.intro h3 h4)
      clear h3 h4 n0 hn
      go_enter Try.func122, Try.ntmps122
      go_wp2_with fail
      go_ret
      exact ⟨ret_int (by have e := HN.out.2; unfold qval; simp <;> omega), (FlW.refl ⟨fc, ff, fl⟩).alloc _⟩
    · have HV := Lib.hid (fun b => qval_great (b := b) h2)
      rw [(HV.out _).1, (HV.out _).2]
      clear n0 hn h2
      go_enter Try.func122, Try.ntmps122
      go_wp2_with fail
      go_ret
      exact ⟨ret_int rfl, by rw [Bool.or_true]; exact (FlW.set true w).alloc _⟩
    · have HV := Lib.hid (fun b => qval_great (b := b) h3)
      rw [(HV.out _).1, (HV.out _).2]
      clear n0 hn h3
      go_enter Try.func122, Try.ntmps122
      go_wp2_with fail
      go_ret
      exact ⟨ret_int rfl, (FlW.set true w).alloc _⟩
end Go.Proofs.Ytdleeeahonfnkaa
