/- The document's own scalars again: the root. -/
import Derived.Test.YtdleeeahonfnkaaQK
import Derived.Test.YtdleeeahonfnkaaQL
namespace Go.Proofs.Ytdleeeahonfnkaa
open Go.RowKit

def sqv (a : Int) : Int := if satv a < 0 then 0 else (rootN ((satv a).natAbs * 2 ^ 30) : Nat)
theorem sqrt_small (m : Nat) (h : m ≤ 1237940039285380274899124224) : rootN m ≤ 35184372088833 := by
  have : isq m ≤ 35184372088832 := isq_le (by omega)
  unfold rootN
  split <;> omega
theorem root_at (n : Nat) (h l : Int) (hh : h = wh n) (hl : l = wl n) (w : World) (hn : n ≤ 85070591730234615865843651857942052863) :
    Calls Try.prog 148 #[.agg #[.int .u64 h, .int .u64 l, .bool false]] w fun e w' => e = .returned (Qv false ((rootN n : Nat) : Int)) ∧ Below w.heap.size w w' := by
  subst hh hl
  exact q_root n w hn
set_option maxHeartbeats 1000000 in
theorem qsqrt (p o : Nat) (a : Int) (h : Bool) (w : World) (f : Fl p o h w) :
    Calls Try.prog 118 #[.pointer (some ⟨p, o, none⟩), .int .i64 a] w fun e w' => e = .returned (.int .i64 (sqv a)) ∧ FlW p o (h || sath a || decide (satv a < 0)) w w' := by
  have l1 := satv_lo a
  have l2 := satv_hi a
  by_cases hx : satv a < 0
  · have HV := Lib.hid (show sqv a = 0 by unfold sqv; rw [if_pos hx])
    rw [HV.out, decide_eq_true hx, Bool.or_true]
    go_enter Try.func118, Try.ntmps118
    go_wp2_with fail
    refine (qsat p o a h _ f).mono ?_
    rintro e w1 ⟨rfl, k⟩
    obtain ⟨fc, ff, fl⟩ := k.fl f
    go_wp2_with fail
    go_ret
    exact ⟨rfl, k.trans (FlW.set _ _)⟩
  · have hm : (satv a).natAbs * 2 ^ 30 ≤ 1237940039285380274899124224 := by
      have : (satv a).natAbs * 2 ^ 30 ≤ 1152921504606846976 * 2 ^ 30 := Nat.mul_le_mul_right _ (by omega)
      omega
    have hr := sqrt_small _ hm
    have HL := Lib.hid (lift_hi (satv a).natAbs 30 (by omega) (by omega) (by omega))
    have HR := Lib.hid (fun w => root_at ((satv a).natAbs * 2 ^ 30) _ _ HL.out.1 HL.out.2 w (by omega))
    have HX := Lib.hid (fun w => q_size (satv a) w l1 l2)
    have HV := Lib.hid (show sqv a = (rootN ((satv a).natAbs * 2 ^ 30) : Nat) by unfold sqv; rw [if_neg hx])
    have HE := Lib.hid (fun h w f => qend p o false (rootN ((satv a).natAbs * 2 ^ 30) : Nat) h w f (inq_nat (by omega)))
    rw [decide_eq_false hx, Bool.or_false, HV.out]
    have HQ := Lib.hid (qval_small (b := false) (n := (rootN ((satv a).natAbs * 2 ^ 30) : Nat)) (by omega) (by omega))
    go_enter Try.func118, Try.ntmps118
    go_wp2_with fail
    refine (qsat p o a h _ f).mono ?_
    rintro e w1 ⟨rfl, k⟩
    have f := k.fl f
    go_wp2_with fail
    refine (HX.out _).mono ?_
    rintro e w2 ⟨rfl, rfl⟩
    go_wp2_with fail
    refine (HR.out _).mono ?_
    rintro e w3 ⟨rfl, hb⟩
    have f := f.below hb
    have k := k.then hb
    clear hb
    go_wp2_with fail
    refine (HE.out _ _ f).mono ?_
    rintro e w4 ⟨rfl, k2⟩
    go_wp2_with fail
    go_ret
    rw [HQ.out.1]
    rw [HQ.out.2, Bool.or_false] at k2
    exact ⟨rfl, k.trans k2⟩
end Go.Proofs.Ytdleeeahonfnkaa
