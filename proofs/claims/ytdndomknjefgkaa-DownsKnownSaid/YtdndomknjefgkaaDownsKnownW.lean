/- The examples of chapter 14. -/
import Derived.Test.YtdndomknjefgkaaDnM
namespace Go.Proofs.Ytdndomknjefgkaa.Rg
open Go.RowKit
theorem join_nil {w W : World} {p A : Nat} {F : Nat → Int} (m : M2 w p A F W) :
    Calls Try.prog 11 #[.pointer (some ⟨p, 0, none⟩), .slice none 0 0] W fun e w' => e = .returned (.tuple #[.agg #[.int .i64 0, .int .i64 0, .int .i64 0, .int .i64 0, .int .i64 0, .int .i64 0, .int .i64 0, .int .i64 0], .int .i64 1]) ∧ M2 w p A F w' ∧ FlW p 0 false W w' := by
  refine (join_any p 0 none 0 0 [] false W m.f ⟨rfl, by simp, by omega, .inl rfl⟩ (fun g o' e => by cases e) (by omega)).mono ?_
  rintro e w' ⟨rfl, k⟩
  exact ⟨rfl, m.flag k, k⟩
set_option maxRecDepth 100000 in
set_option maxHeartbeats 16000000 in
theorem dknown_walk (w : World) : Calls Try.prog 3 #[] w fun e w' => e = .returned (.bool true) ∧ Below w.heap.size w w' := by
  go_enter Try.func3, Try.ntmps3
  go_wp2_with fail
  refine (dawake_any w).mono ?_
  rintro e w0 ⟨rfl, k0⟩
  have k0 := Lib.hid k0
  go_wp2_with fail
  refine (dnew_bad 999 w0 (by omega)).mono ?_
  rintro e w1 ⟨rfl, rfl⟩
  go_wp2_with fail
  refine (dnew_any 1000 w1 (by omega) (by omega)).mono ?_
  rintro e w2 ⟨rfl, hb, k2⟩
  have m2 := Lib.hid (m2_new hb k2)
  clear hb k2
  go_wp2_with fail
  generalize w2.alloc _ = X2 at *
  generalize w2.heap.size = p at *
  generalize hsz : w1.heap.size = A at *
  refine (m2_put m2.out (Bd.new _) (by omega) (fn [5, 0, 0, 0, 0, 0, 0, 0]) _ (by kernel_rfl) #[.int .i64 0, .int .i64 0, .int .i64 0, .int .i64 0, .int .i64 0, .int .i64 0, .int .i64 0, .int .i64 0] false 1 (by kernel_rfl) (by kernel_rfl) (by kernel_rfl)).mono ?_
  rintro e w3 ⟨rfl, m3, _⟩
  have hp3 : nextF (newS 1000) (fn [5, 0, 0, 0, 0, 0, 0, 0]) 3 = 0 := by kernel_rfl
  have m3 := Lib.hid m3
  have P3 := Lib.hid hp3
  clear m2 hp3
  go_wp2_with fail
  have m4 := Lib.hid (m3.out.alloc (.cells #[.int .i64 0, .int .i64 0, .int .i64 0, .int .i64 0, .int .i64 0, .int .i64 0, .int .i64 0, .int .i64 0] 32))
  clear m3
  generalize World.alloc w3 _ = X3 at *
  refine (join_nil m4.out).mono ?_
  rintro e w5 ⟨rfl, m5, _⟩
  have m5 := Lib.hid m5
  clear m4
  go_wp2_with fail
  have m6 := Lib.hid ((m5.out.alloc (.cells #[.int .i64 0, .int .i64 0, .int .i64 0, .int .i64 0, .int .i64 0, .int .i64 0, .int .i64 0, .int .i64 0] 32)).alloc (.cells #[.int .i64 2, .int .i64 1, .int .i64 0, .int .i64 0, .int .i64 0, .int .i64 0, .int .i64 0, .int .i64 0, .int .i64 2, .int .i64 1, .int .i64 0, .int .i64 0, .int .i64 0, .int .i64 0, .int .i64 0, .int .i64 0] 32))
  have bS : Blk (World.alloc (World.alloc w5 (.cells #[.int .i64 0, .int .i64 0, .int .i64 0, .int .i64 0, .int .i64 0, .int .i64 0, .int .i64 0, .int .i64 0] 32)) (.cells #[.int .i64 2, .int .i64 1, .int .i64 0, .int .i64 0, .int .i64 0, .int .i64 0, .int .i64 0, .int .i64 0, .int .i64 2, .int .i64 1, .int .i64 0, .int .i64 0, .int .i64 0, .int .i64 0, .int .i64 0, .int .i64 0] 32)) (w5.heap.size + 1) #[.int .i64 2, .int .i64 1, .int .i64 0, .int .i64 0, .int .i64 0, .int .i64 0, .int .i64 0, .int .i64 0, .int .i64 2, .int .i64 1, .int .i64 0, .int .i64 0, .int .i64 0, .int .i64 0, .int .i64 0, .int .i64 0] 32 := Blk.made _ _ _ (by simp)
  have hp5 := m5.out.f.lt
  clear m5
  generalize World.alloc (World.alloc w5 _) _ = X6 at *
  generalize w5.heap.size = q at *
  refine (join_two m6.out (q + 1) [2, 1, 0, 0, 0, 0, 0, 0] [2, 1, 0, 0, 0, 0, 0, 0] _ bS (by kernel_rfl) ⟨rfl, rfl⟩ (by omega) #[.int .i64 0, .int .i64 0, .int .i64 0, .int .i64 0, .int .i64 0, .int .i64 0, .int .i64 0, .int .i64 0] 1 (by kernel_rfl) (by kernel_rfl)).mono ?_
  rintro e w7 ⟨rfl, m7, _⟩
  have m7 := Lib.hid m7
  clear m6 bS
  go_wp2_with fail
  have hG := fun W => good_lit #[.int .i64 0, .int .i64 0, .int .i64 0, .int .i64 0, .int .i64 0, .int .i64 0, .int .i64 0, .int .i64 0] (fn [0, 0, 0, 0, 0, 0, 0, 0]) (by kernel_rfl) false (by kernel_rfl) W
  refine (hG _).mono ?_
  rintro e w8 ⟨rfl, k8⟩
  have m8 := Lib.hid ((m7.out.alloc (.cells #[.int .i64 0, .int .i64 0, .int .i64 0, .int .i64 0, .int .i64 0, .int .i64 0, .int .i64 0, .int .i64 0] 32)).call k8)
  clear hG k8 m7
  go_wp2_with fail
  refine (m8.out.pending 0 P3.out).mono ?_
  rintro e w9 ⟨rfl, rfl⟩
  go_wp2_with fail
  go_ret
  refine ⟨rfl, k0.out.trans (Below.mono ?_ k0.out.size)⟩
  first | exact m8.out.K | (rw [← hsz]; exact m8.out.K)
end Go.Proofs.Ytdndomknjefgkaa.Rg
