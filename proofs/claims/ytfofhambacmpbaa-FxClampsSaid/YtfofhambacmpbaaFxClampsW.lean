/- Proved here: what is clamped lies between its bounds, again it is the same, and order is kept; for every input. -/
import Derived.Test.YtfofhambacmpbaaAwakeF
import Derived.Test.YtfofhambacmpbaaLift
namespace Go.Proofs.Ytfofhambacmpbaa.fxClamps
open Go.RowKit
theorem clampv_lo {a lo hi : Int} (h : lo ≤ hi) : lo ≤ clampv a lo hi := by unfold clampv; repeat split <;> omega
theorem clampv_hi {a lo hi : Int} (h : lo ≤ hi) : clampv a lo hi ≤ hi := by unfold clampv; repeat split <;> omega
theorem clampv_mono {a b lo hi : Int} (hl : lo ≤ hi) (h : a ≤ b) : clampv a lo hi ≤ clampv b lo hi := by unfold clampv; repeat split <;> omega
set_option maxRecDepth 100000 in
set_option maxHeartbeats 4000000 in
theorem walk (a : Int) (w0 : (Lit.int .i64 a).wf = true) (b : Int) (w1 : (Lit.int .i64 b).wf = true) (lo : Int) (w2 : (Lit.int .i64 lo).wf = true) (hi : Int) (w3 : (Lit.int .i64 hi).wf = true) (w : World) :
    Calls Try.prog 14 #[.int .i64 a, .int .i64 b, .int .i64 lo, .int .i64 hi] w fun e w' => e = .returned (.bool true) ∧ Below w.heap.size w w' := by
  clear w0 w1 w2 w3
  by_cases hlt : hi < lo
  · go_enter Try.func14, Try.ntmps14
    go_wp2_with fail
    refine (awakeF_any _).mono ?_
    rintro e w1 ⟨rfl, hB⟩
    go_wp2_with fail
    go_ret
    exact ⟨rfl, hB⟩
  · have hle : lo ≤ hi := by omega
    have x1 := clampv_lo (a := a) hle
    have x2 := clampv_hi (a := a) hle
    have x3 : ¬ b < a → clampv a lo hi ≤ clampv b lo hi := fun h => clampv_mono hle (by omega)
    have X3 := Lib.hid x3
    have s1 := satv_lo a
    have s2 := satv_hi a
    clear x3 hle
    by_cases hab : b < a
    all_goals
      first | (have x4 := X3.out hab) | skip
      clear X3
      go_enter Try.func14, Try.ntmps14
      go_wp2_with fail
      refine (awakeF_any _).mono ?_
      rintro e w1 ⟨rfl, hB⟩
      go_wp2_with fail
      generalize hW : World.alloc w1 _ = W
      have f : Fl w1.heap.size 0 false W := by subst hW; exact Fl.made _ _ _
      have hl := hB.size
      have hB : Below w.heap.size w W := by subst hW; exact hB.alloc hB.size _
      clear hW
      refine (clamp_any w1.heap.size 0 a lo hi false _ f).mono ?_
      rintro e w2 ⟨rfl, k⟩
      have f := k.fl f
      have hB := hB.trans (k.below hB.size hl)
      clear k
      go_wp2_with fail
      refine (clamp_any w1.heap.size 0 b lo hi _ _ f).mono ?_
      rintro e w3 ⟨rfl, k⟩
      have f := k.fl f
      have hB := hB.trans (k.below hB.size hl)
      clear k
      generalize clampv a lo hi = x at *
      generalize clampv b lo hi = y at *
      go_wp2_with fail
      generalize hX : World.alloc w3 _ = X
      have bX : Below w3.heap.size w3 X := by subst hX; exact (Below.refl _ _).alloc (Nat.le_refl _) _
      have fd : Fl w3.heap.size 0 false X := by subst hX; exact Fl.made _ _ _
      have hl3 := hB.size
      have l13 : w1.heap.size < w3.heap.size := f.lt
      have f := f.below bX
      have hB := hB.trans (bX.mono hB.size)
      clear hX bX
      refine (clamp_ok w3.heap.size 0 x lo hi false _ fd x1 x2).mono ?_
      rintro e w4 ⟨rfl, k⟩
      have fdd := k.fl fd
      have fd := fdd.cell
      have f : Fl w1.heap.size 0 _ w4 := ⟨(k.cell f.lt (.inl (by omega))).trans f.cell, (k.frozen f.lt).trans f.free, Nat.lt_of_lt_of_le f.lt k.size⟩
      have hB := hB.trans (k.below hB.size hl3)
      clear k fdd
      go_wp2_with fail
      refine (sat_any w1.heap.size 0 a _ _ f).mono ?_
      rintro e w5 ⟨rfl, k⟩
      have f := k.fl f
      have hB := hB.trans (k.below hB.size hl)
      clear k fd
      go_wp2_with fail
      refine (sat_any w1.heap.size 0 a _ _ f).mono ?_
      rintro e w6 ⟨rfl, k⟩
      have hB := hB.trans (k.below hB.size hl)
      clear k
      go_wp2_with fail
      go_ret
      exact ⟨rfl, hB⟩
end Go.Proofs.Ytfofhambacmpbaa.fxClamps
