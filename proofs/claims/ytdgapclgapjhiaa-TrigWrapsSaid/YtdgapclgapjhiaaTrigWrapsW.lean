/- Proved here: a wrapped angle lies within half a turn, wrapped again it is the same, a whole turn more makes no difference; as the statement bounds it. -/
import Derived.Test.YtdgapclgapjhiaaSE
import Derived.Test.YtdgapclgapjhiaaSxY
import Derived.Test.YtdgapclgapjhiaaLift
import Derived.Test.YtdgapclgapjhiaaPD
namespace Go.Proofs.Ytdgapclgapjhiaa.trigWraps
open Go Go.RowKit
set_option maxRecDepth 100000 in
theorem ranA : SX.trueB (SX.runCall SX.lk SX.U SX.X SX.sums 100000 40 63 [] SX.st0) = true := by kernel_rfl
theorem awake_ok (w : World) : Calls Try.prog 63 #[] w fun e w' => e = .returned (.bool true) ∧ Below w.heap.size w w' :=
  SX.closed_true SX.namesOk SX.mixed (SX.sums_ok) _ _ ranA w
/-- The angle within half a turn. -/
def wrapv (a : Int) : Int := if 3373259426 < a.tmod 6746518852 then a.tmod 6746518852 - 6746518852 else if a.tmod 6746518852 ≤ -3373259426 then a.tmod 6746518852 + 6746518852 else a.tmod 6746518852
theorem wrapv_is (a : Int) : ∃ k : Int, wrapv a = a - k * 6746518852 ∧ -3373259426 < wrapv a ∧ wrapv a ≤ 3373259426 := by
  have h1 := Int.tmod_def a 6746518852
  have h2 := Int.tmod_lt_of_pos a (by omega : (0 : Int) < 6746518852)
  have h3 := Int.lt_tmod_of_pos a (by omega : (0 : Int) < 6746518852)
  unfold wrapv
  generalize a.tmod 6746518852 = r at *
  generalize a.tdiv 6746518852 = q at *
  split
  · exact ⟨q + 1, by omega, by omega, by omega⟩
  · split
    · exact ⟨q - 1, by omega, by omega, by omega⟩
    · exact ⟨q, by omega, by omega, by omega⟩
theorem wrapv_eq {a r k : Int} (h : r = a - k * 6746518852) (h1 : -3373259426 < r) (h2 : r ≤ 3373259426) : wrapv a = r := by
  obtain ⟨j, e, k1, k2⟩ := wrapv_is a
  omega
set_option maxHeartbeats 1000000 in
theorem wrap_any (a : Int) (w : World) (h1 : -9223372036854775808 ≤ a) (h2 : a ≤ 9223372036854775807) :
    Calls Try.prog 65 #[.int .i64 a] w fun e w' => e = .returned (.int .i64 (wrapv a)) ∧ w' = w := by
  have k2 := Int.tmod_lt_of_pos a (by omega : (0 : Int) < 6746518852)
  have k3 := Int.lt_tmod_of_pos a (by omega : (0 : Int) < 6746518852)
  have hV := Lib.hid (show wrapv a = if 3373259426 < a.tmod 6746518852 then a.tmod 6746518852 - 6746518852 else if a.tmod 6746518852 ≤ -3373259426 then a.tmod 6746518852 + 6746518852 else a.tmod 6746518852 from rfl)
  generalize wrapv a = v at *
  go_enter Try.func65, Try.ntmps65
  go_wp2_with fail
  all_goals go_ret
  all_goals refine ⟨?_, rfl⟩
  all_goals rw [hV.out]
  all_goals (repeat' split)
  all_goals first | rfl | (exfalso; omega)
set_option maxHeartbeats 2000000 in
theorem walk (a : Int) (wa : (Lit.int .i64 a).wf = true) (n : Int) (wn : (Lit.int .i64 n).wf = true) (w : World) :
    Calls Try.prog 15 #[.int .i64 a, .int .i64 n] w fun e w' => e = .returned (.bool true) ∧ Below w.heap.size w w' := by
  obtain ⟨a1, a2⟩ := wf_i64 wa
  obtain ⟨n1, n2⟩ := wf_i64 wn
  obtain ⟨k, e, k1, k2⟩ := wrapv_is a
  have HA := Lib.hid awake_ok
  have HW := Lib.hid (fun w => wrap_any a w a1 a2)
  have HW2 := Lib.hid (fun w => wrap_any (wrapv a) w (by omega) (by omega))
  have e2 : wrapv (wrapv a) = wrapv a := wrapv_eq (k := 0) (by omega) k1 k2
  rw [e2] at HW2
  have HW3 := Lib.hid (fun (h1 : a ≤ 2305843009213693952) (h2 : -2305843009213693952 ≤ a) (h3 : n ≤ 268435456) (h4 : -268435456 ≤ n) w => wrap_any (a + n * 6746518852) w (by omega) (by omega))
  have e3 : wrapv (a + n * 6746518852) = wrapv a := wrapv_eq (k := k + n) (by omega) k1 k2
  rw [e3] at HW3
  clear e e2 e3
  generalize wrapv a = r at *
  go_enter Try.func15, Try.ntmps15
  go_wp2_with fail
  refine (HA.out _).mono ?_
  rintro e w1 ⟨rfl, hb1⟩
  go_wp2_with fail
  refine (HW.out _).mono ?_
  rintro e w2 ⟨rfl, rfl⟩
  go_wp2_with fail
  refine (HW2.out _).mono ?_
  rintro e w3 ⟨rfl, rfl⟩
  by_cases c1 : 2305843009213693952 < a
  · go_wp2_with fail
    go_ret
    exact ⟨rfl, hb1⟩
  · by_cases c2 : a < -2305843009213693952
    · go_wp2_with fail
      go_ret
      exact ⟨rfl, hb1⟩
    · by_cases c3 : 268435456 < n
      · go_wp2_with fail
        go_ret
        exact ⟨rfl, hb1⟩
      · by_cases c4 : n < -268435456
        · go_wp2_with fail
          go_ret
          exact ⟨rfl, hb1⟩
        · have HW3 := Lib.hid (HW3.out (by omega) (by omega) (by omega) (by omega))
          go_wp2_with fail
          refine (HW3.out _).mono ?_
          rintro e w4 ⟨rfl, rfl⟩
          go_wp2_with fail
          go_ret
          exact ⟨rfl, hb1⟩
end Go.Proofs.Ytdgapclgapjhiaa.trigWraps
