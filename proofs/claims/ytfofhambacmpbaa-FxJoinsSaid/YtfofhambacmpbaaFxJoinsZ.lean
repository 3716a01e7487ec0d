/- Proved here: the walk of the law of joined sums of products, where there is nothing to sum. -/
import Derived.Test.YtfofhambacmpbaaFxJoinsA
namespace Go.Proofs.Ytfofhambacmpbaa.fxJoins
open Go.RowKit
theorem split_flag0 {q : Nat} {G : Bool} {w : World} (f : Fl q 0 G w) : ∃ G', Fl q 0 G' w := ⟨G, f⟩
theorem dot_out (p N : Nat) (pa pb : Option Addr) (ca cb : Nat) (s : Nat) (h : Bool) (w0 w : World) (f : Fl p 0 h w) (hs : s ≤ 120) (hB : Below N w0 w) (hN : N ≤ p) (hl : N ≤ w.heap.size) :
    Calls Try.prog 41 #[.pointer (some ⟨p, 0, none⟩), .int .i64 s, .slice pa 0 ca, .slice pb 0 cb] w fun e w' => e = .returned (.int .i64 0) ∧ Fl p 0 h w' ∧ Below N w0 w' ∧ N ≤ w'.heap.size := by
  refine (dot_zero p 0 pa pb ca cb s h w f hs).mono ?_
  rintro e w' ⟨rfl, k⟩
  exact ⟨rfl, by simpa using k.fl f, hB.trans (k.below hl hN), Nat.le_trans hl k.size⟩
set_option maxRecDepth 100000 in
set_option maxHeartbeats 8000000 in
theorem walk_nn (s : Nat)  (w : World) (hs : s ≤ 120) : Good (s : Int) (.slice none 0 0) (.slice none 0 0) 0 w := by
  have g4 : ¬ (s : Int) < 0 := by omega
  have g5 : ¬ (120 : Int) < (s : Int) := by omega
  unfold Good
  go_enter Try.func15, Try.ntmps15
  go_wp2_with fail
  refine (awakeF_any _).mono ?_
  rintro e w1 ⟨rfl, hB⟩
  have hl := hB.size
  go_wp2_with fail
  generalize hW : World.alloc w1 _ = W
  have f : Fl w1.heap.size 0 false W := by subst hW; exact Fl.made _ _ _
  have hB : Below w.heap.size w W := by subst hW; exact hB.alloc hB.size _
  have hs1 : w.heap.size ≤ W.heap.size := hB.size
  clear hW
  refine (dot_out w1.heap.size w.heap.size _ _ _ _ s false w W f hs hB hl hs1).mono ?_
  rintro e w2 ⟨rfl, f2, hB2, hl2⟩
  go_wp2_with fail
  go_region_with
    (first
      | (go_at_call 41
         refine (dot_out w1.heap.size w.heap.size _ _ _ _ s _ w _ (by first | exact f2.drew | exact f2) hs (by first | exact hB2.drew | exact hB2) hl (by exact hl2)).mono ?_
         rintro e w3 ⟨rfl, f3, hB3, hl3⟩))
  go_wp2_with fail
  go_region_with
    (first
      | (go_at_call 41
         refine (dot_out w1.heap.size w.heap.size _ _ _ _ s _ w _ (by first | exact f3.drew | exact f3) hs (by first | exact hB3.drew | exact hB3) hl (by exact hl3)).mono ?_
         rintro e w4 ⟨rfl, f4, hB4, hl4⟩))
  go_wp2_with fail
  refine (fadd2 w1.heap.size 0 _ 0 0 _ _ w4 f4 rfl).mono ?_
  rintro e w5 ⟨rfl, k5⟩
  have hB5 := hB4.trans (k5.below hl4 hl)
  have f5 := k5.fl f4
  clear k5 f4
  simp only [show (false || (sath 0 || sath 0) || sath (satv 0 + satv 0)) = false from by decide, show satv (satv 0 + satv 0) = 0 from by decide] at f5 ⊢
  have c5 := f5.cell
  go_wp2_with fail
  go_ret
  exact ⟨rfl, hB5⟩
set_option maxRecDepth 100000 in
set_option maxHeartbeats 8000000 in
theorem walk_na (s : Nat) (B : Addr) (cb : Nat) (w : World) (hs : s ≤ 120) : Good (s : Int) (.slice none 0 0) (.slice (some B) 0 cb) 0 w := by
  have g4 : ¬ (s : Int) < 0 := by omega
  have g5 : ¬ (120 : Int) < (s : Int) := by omega
  unfold Good
  go_enter Try.func15, Try.ntmps15
  go_wp2_with fail
  refine (awakeF_any _).mono ?_
  rintro e w1 ⟨rfl, hB⟩
  have hl := hB.size
  go_wp2_with fail
  generalize hW : World.alloc w1 _ = W
  have f : Fl w1.heap.size 0 false W := by subst hW; exact Fl.made _ _ _
  have hB : Below w.heap.size w W := by subst hW; exact hB.alloc hB.size _
  have hs1 : w.heap.size ≤ W.heap.size := hB.size
  clear hW
  refine (dot_out w1.heap.size w.heap.size _ _ _ _ s false w W f hs hB hl hs1).mono ?_
  rintro e w2 ⟨rfl, f2, hB2, hl2⟩
  go_wp2_with fail
  go_region_with
    (first
      | (go_at_call 41
         refine (dot_out w1.heap.size w.heap.size _ _ _ _ s _ w _ (by first | exact f2.drew | exact f2) hs (by first | exact hB2.drew | exact hB2) hl (by exact hl2)).mono ?_
         rintro e w3 ⟨rfl, f3, hB3, hl3⟩))
  go_wp2_with fail
  go_region_with
    (first
      | (go_at_call 41
         refine (dot_out w1.heap.size w.heap.size _ _ _ _ s _ w _ (by first | exact f3.drew | exact f3) hs (by first | exact hB3.drew | exact hB3) hl (by exact hl3)).mono ?_
         rintro e w4 ⟨rfl, f4, hB4, hl4⟩))
  go_wp2_with fail
  refine (fadd2 w1.heap.size 0 _ 0 0 _ _ w4 f4 rfl).mono ?_
  rintro e w5 ⟨rfl, k5⟩
  have hB5 := hB4.trans (k5.below hl4 hl)
  have f5 := k5.fl f4
  clear k5 f4
  simp only [show (false || (sath 0 || sath 0) || sath (satv 0 + satv 0)) = false from by decide, show satv (satv 0 + satv 0) = 0 from by decide] at f5 ⊢
  have c5 := f5.cell
  go_wp2_with fail
  go_ret
  exact ⟨rfl, hB5⟩
set_option maxRecDepth 100000 in
set_option maxHeartbeats 8000000 in
theorem walk_an (s : Nat) (A : Addr) (ca : Nat) (w : World) (hs : s ≤ 120) : Good (s : Int) (.slice (some A) 0 ca) (.slice none 0 0) 0 w := by
  have g4 : ¬ (s : Int) < 0 := by omega
  have g5 : ¬ (120 : Int) < (s : Int) := by omega
  unfold Good
  go_enter Try.func15, Try.ntmps15
  go_wp2_with fail
  refine (awakeF_any _).mono ?_
  rintro e w1 ⟨rfl, hB⟩
  have hl := hB.size
  go_wp2_with fail
  generalize hW : World.alloc w1 _ = W
  have f : Fl w1.heap.size 0 false W := by subst hW; exact Fl.made _ _ _
  have hB : Below w.heap.size w W := by subst hW; exact hB.alloc hB.size _
  have hs1 : w.heap.size ≤ W.heap.size := hB.size
  clear hW
  refine (dot_out w1.heap.size w.heap.size _ _ _ _ s false w W f hs hB hl hs1).mono ?_
  rintro e w2 ⟨rfl, f2, hB2, hl2⟩
  go_wp2_with fail
  go_region_with
    (first
      | (go_at_call 41
         refine (dot_out w1.heap.size w.heap.size _ _ _ _ s _ w _ (by first | exact f2.drew | exact f2) hs (by first | exact hB2.drew | exact hB2) hl (by exact hl2)).mono ?_
         rintro e w3 ⟨rfl, f3, hB3, hl3⟩))
  go_wp2_with fail
  go_region_with
    (first
      | (go_at_call 41
         refine (dot_out w1.heap.size w.heap.size _ _ _ _ s _ w _ (by first | exact f3.drew | exact f3) hs (by first | exact hB3.drew | exact hB3) hl (by exact hl3)).mono ?_
         rintro e w4 ⟨rfl, f4, hB4, hl4⟩))
  go_wp2_with fail
  refine (fadd2 w1.heap.size 0 _ 0 0 _ _ w4 f4 rfl).mono ?_
  rintro e w5 ⟨rfl, k5⟩
  have hB5 := hB4.trans (k5.below hl4 hl)
  have f5 := k5.fl f4
  clear k5 f4
  simp only [show (false || (sath 0 || sath 0) || sath (satv 0 + satv 0)) = false from by decide, show satv (satv 0 + satv 0) = 0 from by decide] at f5 ⊢
  have c5 := f5.cell
  go_wp2_with fail
  go_ret
  exact ⟨rfl, hB5⟩
set_option maxRecDepth 100000 in
set_option maxHeartbeats 8000000 in
theorem walk_ab (s : Nat) (A B : Addr) (ca cb : Nat) (w : World) (hs : s ≤ 120) : Good (s : Int) (.slice (some A) 0 ca) (.slice (some B) 0 cb) 0 w := by
  have g4 : ¬ (s : Int) < 0 := by omega
  have g5 : ¬ (120 : Int) < (s : Int) := by omega
  unfold Good
  go_enter Try.func15, Try.ntmps15
  go_wp2_with fail
  refine (awakeF_any _).mono ?_
  rintro e w1 ⟨rfl, hB⟩
  have hl := hB.size
  go_wp2_with fail
  generalize hW : World.alloc w1 _ = W
  have f : Fl w1.heap.size 0 false W := by subst hW; exact Fl.made _ _ _
  have hB : Below w.heap.size w W := by subst hW; exact hB.alloc hB.size _
  have hs1 : w.heap.size ≤ W.heap.size := hB.size
  clear hW
  refine (dot_out w1.heap.size w.heap.size _ _ _ _ s false w W f hs hB hl hs1).mono ?_
  rintro e w2 ⟨rfl, f2, hB2, hl2⟩
  go_wp2_with fail
  go_region_with
    (first
      | (go_at_call 41
         refine (dot_out w1.heap.size w.heap.size _ _ _ _ s _ w _ (by first | exact f2.drew | exact f2) hs (by first | exact hB2.drew | exact hB2) hl (by exact hl2)).mono ?_
         rintro e w3 ⟨rfl, f3, hB3, hl3⟩))
  go_wp2_with fail
  go_region_with
    (first
      | (go_at_call 41
         refine (dot_out w1.heap.size w.heap.size _ _ _ _ s _ w _ (by first | exact f3.drew | exact f3) hs (by first | exact hB3.drew | exact hB3) hl (by exact hl3)).mono ?_
         rintro e w4 ⟨rfl, f4, hB4, hl4⟩))
  go_wp2_with fail
  refine (fadd2 w1.heap.size 0 _ 0 0 _ _ w4 f4 rfl).mono ?_
  rintro e w5 ⟨rfl, k5⟩
  have hB5 := hB4.trans (k5.below hl4 hl)
  have f5 := k5.fl f4
  clear k5 f4
  simp only [show (false || (sath 0 || sath 0) || sath (satv 0 + satv 0)) = false from by decide, show satv (satv 0 + satv 0) = 0 from by decide] at f5 ⊢
  have c5 := f5.cell
  go_wp2_with fail
  go_ret
  exact ⟨rfl, hB5⟩
end Go.Proofs.Ytfofhambacmpbaa.fxJoins
