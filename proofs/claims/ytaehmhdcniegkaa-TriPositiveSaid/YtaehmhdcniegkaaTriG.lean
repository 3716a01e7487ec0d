/- Package tri: the greatest D. -/
import Derived.Test.YtaehmhdcniegkaaTriE
namespace Go.Proofs.Ytaehmhdcniegkaa
open Go.RowKit

set_option maxHeartbeats 1000000 in
theorem slicesMax_any (b : Nat) (f : Nat → Int) (w : World) (hx : Ints w b 276 24 (fun k => f (276 + k))) :
    Calls Try.prog 118 #[.slice (some ⟨b, 276, none⟩) 24 24] w fun e w' => e = .returned (.int .i64 (mostF f 23)) ∧ Below w.heap.size w w' := by
  have h0 := hx.at_ 0 (by omega)
  simp only [Nat.add_zero] at h0
  go_enter Try.func118, Try.ntmps118
  go_wp2_with fail
  clear h0
  go_loopw [3, 4] (fun m i wr => ∃ k : Nat, k ≤ 23 ∧ i = .int .i64 ((k + 1 : Nat) : Int) ∧ m = .int .i64 (mostF f k) ∧ Below w.heap.size w wr ∧ Ints wr b 276 24 (fun k => f (276 + k))) (fun _ i _ => 24 - (intOf i).toNat)
  case atStart => exact ⟨0, by omega, rfl, rfl, Below.refl _ _, hx⟩
  case round =>
    obtain ⟨k, hk, rfl, rfl, hb, hx⟩ := hrel
    by_cases hlt : k < 23
    · have h1 := hx.at_ (k + 1) (by omega)
      have HM := Lib.hid (show mostF f (k + 1) = max (mostF f k) (f (276 + (k + 1))) from rfl)
      generalize mostF f k = M at *
      go_wp2_with fail
      go_roundw
      case rel => exact ⟨k + 1, by omega, by go_num, by rw [HM.out], hb, hx⟩
      case measure => simp [intOf]; omega
    · obtain rfl : k = 23 := by omega
      clear hlt
      go_wp2_with fail
      go_ret
      exact ⟨rfl, hb⟩
theorem most_any (f : Nat → Int) (w : World) :
    Calls Try.prog 26 #[.agg (rowA 300 f)] w fun e w' => e = .returned (.int .i64 (mostF f 23)) ∧ Below w.heap.size w w' := by
  go_enter Try.func26, Try.ntmps26
  go_wp2_with fail
  generalize hW : World.alloc w _ = W
  have hb : Below w.heap.size w W := by subst hW; exact (Below.refl _ _).alloc (Nat.le_refl _) _
  have hB : Blk W w.heap.size (rowA 300 f) 29 := by subst hW; exact Blk.made _ _ _ rfl
  clear hW
  have hI := hB.ints.part 276 24 (by omega)
  rw [Nat.zero_add] at hI
  refine (slicesMax_any w.heap.size f W hI).mono ?_
  rintro e w' ⟨rfl, hb2⟩
  go_wp2_with fail
  go_ret
  exact ⟨rfl, hb.trans (hb2.mono hb.size)⟩
end Go.Proofs.Ytaehmhdcniegkaa
