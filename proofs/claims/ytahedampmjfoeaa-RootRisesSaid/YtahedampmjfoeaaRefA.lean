/- The document's own numbers: one out of 64 bits, its other sign, its power of two, whether it fits. -/
import Derived.Test.YtahedampmjfoeaaAdd
namespace Go.Proofs.Ytahedampmjfoeaa
open Go.RowKit

theorem sgn_abs (z : Int) : (if decide (z < 0) = true then -(z.natAbs : Int) else (z.natAbs : Int)) = z := by
  by_cases h : z < 0
  · rw [decide_eq_true h]; simp; omega
  · rw [decide_eq_false h]; simp; omega
theorem sgn_neg (z : Int) : (if (!decide (z < 0)) = true then -(z.natAbs : Int) else (z.natAbs : Int)) = -z := by
  by_cases h : z < 0
  · rw [decide_eq_true h]; simp; omega
  · rw [decide_eq_false h]; simp; omega
theorem size_any (a : Int) (w : World) (h1 : -9223372036854775808 ≤ a) (h2 : a ≤ 9223372036854775807) :
    Calls Try.prog 58 #[.int .i64 a] w fun e w' => e = .returned (.int .u64 (a.natAbs : Int)) ∧ w = w' := by
  by_cases h0 : a < 0
  · go_enter Try.func58, Try.ntmps58
    go_wp2
    go_ret
    exact ⟨ret_int (by omega), rfl⟩
  · go_enter Try.func58, Try.ntmps58
    go_wp2
    go_ret
    exact ⟨ret_int (by omega), rfl⟩

/-- 'made', as a whole number. -/
theorem made_bg (b : Bool) (n : Nat) (z : Int) (V : Value) (w : World) (hn : n < B8) (hV : V = A8 n) (hz : (if b then -(n : Int) else (n : Int)) = z) :
    Calls Try.prog 59 #[.bool b, V] w fun e w' => e = .returned (Bg z) ∧ Below w.heap.size w w' :=
  (made_of b n V w hn hV).mono fun _ _ ⟨he, hb⟩ => ⟨he.trans (ret_val (bg_of b n z hz)), hb⟩

set_option maxHeartbeats 1000000 in
theorem of_any (a : Int) (w : World) (h1 : -9223372036854775808 ≤ a) (h2 : a ≤ 9223372036854775807) :
    Calls Try.prog 14 #[.int .i64 a] w fun e w' => e = .returned (Bg a) ∧ Below w.heap.size w w' := by
  have hn : a.natAbs < 18446744073709551616 := by omega
  go_enter Try.func14, Try.ntmps14
  go_wp2_with fail
  generalize hW : World.alloc w _ = W
  have fc : Has9 W 31 w.heap.size false (fun _ => 0) := by subst hW; exact Has9.made_at w _ (B := w.heap.size) rfl false (fun _ => 0)
  have hs : w.heap.size < W.heap.size := by subst hW; simp
  have hB : Below w.heap.size w W := by subst hW; exact (Below.refl _ _).alloc (Nat.le_refl _) _
  clear hW
  have hI := Inv.start0 (there_of_row fc 9 (by decide)) hB
  refine (size_any a _ h1 h2).mono ?_
  rintro e w' ⟨rfl, rfl⟩
  go_wp2_with fail
  refine (made_bg (decide (a < 0)) a.natAbs a _ _ (Nat.lt_trans hn B8_big) (A8_of64 a.natAbs hn _ _ (and_mask _ (by omega) (by omega)) rfl) (sgn_abs a)).mono ?_
  rintro e w1 ⟨rfl, hb⟩
  obtain ⟨j1, j2, j3, j4, j5⟩ := Inv.call hs (Nat.le_of_lt hs) hI hb
  clear hI fc hB
  go_wp2
  exact bodyPost_ret (v := Bg a) (by simp [results, Try.results14, go_sem, j2]) rfl ⟨rfl, Below.set9 (Nat.le_refl _) j4 _ _ _ _ _ _ _ _ _⟩

set_option maxHeartbeats 1000000 in
theorem neg_any (z : Int) (w : World) (hz : z.natAbs < B8) :
    Calls Try.prog 21 #[Bg z] w fun e w' => e = .returned (Bg (-z)) ∧ Below w.heap.size w w' := by
  go_enter Try.func21, Try.ntmps21
  go_wp2_with fail
  generalize hW : World.alloc (World.alloc w _) _ = W
  have fc : Has9 W 31 (w.heap.size + 1) false (fun _ => 0) := by subst hW; exact Has9.made_at (World.alloc w _) _ (B := w.heap.size + 1) (by simp) false (fun _ => 0)
  have hs : w.heap.size + 1 < W.heap.size := by subst hW; simp
  have hs0 : w.heap.size < W.heap.size := by omega
  have hB : Below w.heap.size w W := by subst hW; exact ((Below.refl _ _).alloc (Nat.le_refl _) _).alloc (by simp) _
  clear hW
  have hI := Inv.start0 (there_of_row fc 9 (by decide)) hB
  refine (made_bg (!decide (z < 0)) z.natAbs (-z) _ _ hz rfl (sgn_neg z)).mono ?_
  rintro e w1 ⟨rfl, hb⟩
  obtain ⟨j1, j2, j3, j4, j5⟩ := Inv.call hs (Nat.le_of_lt hs0) hI hb
  clear hI fc hB
  go_wp2
  exact bodyPost_ret (v := Bg (-z)) (by simp [results, Try.results21, go_sem, j2]) rfl ⟨rfl, Below.set9 (Nat.le_add_right _ _) j4 _ _ _ _ _ _ _ _ _⟩
end Go.Proofs.Ytahedampmjfoeaa
