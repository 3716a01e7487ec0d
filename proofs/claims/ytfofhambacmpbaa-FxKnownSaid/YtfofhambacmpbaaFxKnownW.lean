/- Proved here: the examples of the second layer answer as they are told, whatever the memory; no condition. -/
import Derived.Test.YtfofhambacmpbaaAwakeF
namespace Go.Proofs.Ytfofhambacmpbaa.fxKnown
open Go.RowKit
set_option maxRecDepth 100000 in
set_option maxHeartbeats 4000000 in
theorem walk (w : World) :
    Calls Try.prog 9 #[] w fun e w' => e = .returned (.bool true) ∧ Below w.heap.size w w' := by
  go_enter Try.func9, Try.ntmps9
  go_wp2_with fail
  refine (awakeF_any _).mono ?_
  rintro e w1 ⟨rfl, hB⟩
  go_wp2_with fail
  generalize hW : World.alloc w1 _ = W
  have f : Fl w1.heap.size 0 false W := by subst hW; exact Fl.made _ _ _
  have hl := hB.size
  have hB : Below w.heap.size w W := by subst hW; exact hB.alloc hB.size _
  clear hW
  refine (add_none w1.heap.size 0 false _ f).mono ?_
  rintro e w2 ⟨rfl, k⟩
  have f := k.fl f
  have hB := hB.trans (k.below hB.size hl)
  clear k
  go_wp2_with fail
  refine (dot_none w1.heap.size 0 false _ f).mono ?_
  rintro e w3 ⟨rfl, k⟩
  have f := k.fl f
  have hB := hB.trans (k.below hB.size hl)
  have fc := f.cell
  clear k
  go_wp2_with fail
  refine (div_fx w1.heap.size 0 (-5) 0 30 false _ f (by decide)).mono ?_
  rintro e w4 ⟨rfl, k⟩
  have k := flag_is (g := true) (by decide) k
  have f := k.fl f
  have hB := hB.trans (k.below hB.size hl)
  clear k fc
  rw [show divv (satv (-5) * 2 ^ 30) (satv 0) = -1152921504606846976 from by decide]
  go_wp2_with fail
  refine (mul_out w1.heap.size 0 1 1 121 true _ f (by decide)).mono ?_
  rintro e w5 ⟨rfl, k⟩
  have f := k.fl f
  have hB := hB.trans (k.below hB.size hl)
  have fc := f.cell
  clear k
  go_wp2_with fail
  refine (abs_any (-9223372036854775808) _).mono ?_
  rintro e w6 ⟨rfl, rfl⟩
  rw [show absv (-9223372036854775808) = 1152921504606846976 from by decide]
  go_wp2_with fail
  go_ret
  exact ⟨rfl, hB⟩
end Go.Proofs.Ytfofhambacmpbaa.fxKnown
