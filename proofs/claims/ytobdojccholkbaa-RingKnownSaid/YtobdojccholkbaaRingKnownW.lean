/- The examples of chapter 13. -/
import Derived.Test.YtobdojccholkbaaRgU
namespace Go.Proofs.Ytobdojccholkbaa.Rg
open Go.RowKit
def q1 : Ring := ⟨[sm 5], 1, 0, 0, 0, 0, 1, m0⟩
def q2 : Ring := ⟨[sm 5], 2, 0, 1, 0, 0, 1, m0⟩
set_option maxRecDepth 100000 in
set_option maxHeartbeats 16000000 in
theorem known_walk (w : World) : Calls Try.prog 3 #[] w fun e w' => e = .returned (.bool true) ∧ Below w.heap.size w w' := by
  go_enter Try.func3, Try.ntmps3
  go_wp2_with fail
  refine (awake_any w).mono ?_
  rintro e w0 ⟨rfl, k0⟩
  have k0 := Lib.hid k0
  go_wp2_with fail
  refine (new_bad 0 w0 (by omega)).mono ?_
  rintro e v1 ⟨rfl, rfl⟩
  go_wp2_with fail
  refine (new_bad 65 v1 (by omega)).mono ?_
  rintro e v2 ⟨rfl, rfl⟩
  go_wp2_with fail
  refine (two_new (nothing v2) 1 (by omega) (by omega)).mono ?_
  rintro e w1 ⟨rfl, s1⟩
  have s1 := Lib.hid s1
  go_wp2_with fail
  refine (two_putL s1.out 5 q1 true (by decide) (by decide) (by decide) (by decide) rfl rfl).mono ?_
  rintro e w2 ⟨rfl, s2, _⟩
  have s2 := Lib.hid s2
  go_wp2_with fail
  refine (two_peekL s2.out 5 rfl rfl).mono ?_
  rintro e w5 ⟨rfl, k5⟩
  have s5 := Lib.hid ((s2.out.call k5).alloc (.cells #[.int .i64 5, .int .i64 0, .int .i64 0, .int .i64 0, .int .i64 0, .int .i64 0, .int .i64 0, .int .i64 0, .int .i64 0] 30))
  clear s1 s2 k5
  go_wp2_with fail
  refine (two_putL s5.out 4 q2 false (by decide) (by decide) (by decide) (by decide) rfl rfl).mono ?_
  rintro e w6 ⟨rfl, s6, _⟩
  have hc := two_cell s6
  simp only [q2] at hc
  obtain ⟨d0, d1, d2, d3, d4⟩ := hc
  simp at d2
  have s6 := Lib.hid s6
  clear s5 d0 d1 d3 d4
  go_wp2_with fail
  refine (two_hor s6.out).mono ?_
  rintro e w7 ⟨rfl, rfl⟩
  go_wp2_with fail
  go_ret
  trace_state
  exact ⟨rfl, k0.out.trans (s6.out.K.mono k0.out.size)⟩
end Go.Proofs.Ytobdojccholkbaa.Rg
