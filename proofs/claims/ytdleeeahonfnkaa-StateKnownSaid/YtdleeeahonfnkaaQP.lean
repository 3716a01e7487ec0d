/- Package root: the root of a scalar. -/
import Derived.Test.YtdleeeahonfnkaaPD
import Derived.Test.YtdleeeahonfnkaaPC
namespace Go.Proofs.Ytdleeeahonfnkaa
open Go.RowKit

def sqw (a : Int) : Int := if satv a < 0 then 0 else (rootN ((satv a).natAbs * 2 ^ 30) : Nat)
theorem sqw_clamp (a : Int) : ∃ c : Int, clampv a 0 1152921504606846976 = c ∧ 0 ≤ c ∧ c ≤ 1152921504606846976 ∧ sqw a = (rootN (c * 1073741824).toNat : Nat) ∧ clamph a 0 1152921504606846976 = (sath a || decide (satv a < 0)) := by
  refine ⟨_, rfl, ?_, ?_, ?_, ?_⟩
  · unfold clampv; (repeat' split) <;> omega
  · unfold clampv; (repeat' split) <;> omega
  · unfold sqw
    by_cases h : a < 0
    · rw [if_pos (by unfold satv; (repeat' split) <;> omega)]
      have : clampv a 0 1152921504606846976 = 0 := by unfold clampv; (repeat' split) <;> omega
      rw [this]
      decide +kernel
    · rw [if_neg (by unfold satv; (repeat' split) <;> omega)]
      have : clampv a 0 1152921504606846976 = satv a := by unfold clampv satv; (repeat' split) <;> omega
      rw [this]
      have e : ((satv a * 1073741824).toNat) = (satv a).natAbs * 2 ^ 30 := by
        have : 0 ≤ satv a := by unfold satv; (repeat' split) <;> omega
        omega
      rw [e]
  · unfold clamph sath satv
    rw [Bool.eq_iff_iff]
    simp only [Bool.or_eq_true, decide_eq_true_eq]
    (repeat' split) <;> omega
set_option maxHeartbeats 1000000 in
theorem rsqrt (p o : Nat) (a : Int) (h : Bool) (w : World) (f : Fl p o h w) :
    Calls Try.prog 117 #[.pointer (some ⟨p, o, none⟩), .int .i64 a] w fun e w' => e = .returned (.int .i64 (sqw a)) ∧ FlW p o (h || (sath a || decide (satv a < 0))) w w' := by
  obtain ⟨c, e1, c1, c2, e2, e3⟩ := sqw_clamp a
  have HC := Lib.hid (fun h w f => clamp_any p o a 0 1152921504606846976 h w f)
  rw [e1] at HC
  have HM := Lib.hid (fun w => wmul_any c 1073741824 w (by omega) (by omega) (by omega) (by omega))
  have HR := Lib.hid (fun w => wroot_any (c * 1073741824) w (by omega) (by omega))
  rw [← e3, e2]
  clear e1 e2 e3
  generalize ((rootN (c * 1073741824).toNat : Nat) : Int) = rr at *
  generalize hz : Wv (c * 1073741824) = z at *
  go_enter Try.func117, Try.ntmps117
  go_wp2_with fail
  refine (HC.out h _ f).mono ?_
  rintro e w1 ⟨rfl, k⟩
  go_wp2_with fail
  refine (HM.out _).mono ?_
  rintro e w2 ⟨rfl, hb⟩
  have k := k.then hb
  clear hb
  go_wp2_with fail
  refine (HR.out _).mono ?_
  rintro e w3 ⟨rfl, hb⟩
  have k := k.then hb
  clear hb
  go_wp2_with fail
  go_ret
  exact ⟨rfl, k⟩
end Go.Proofs.Ytdleeeahonfnkaa
