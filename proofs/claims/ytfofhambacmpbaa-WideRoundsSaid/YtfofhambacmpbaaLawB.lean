/- The laws' own two helpers: a number as the document's own; held against one. -/
import Derived.Test.YtfofhambacmpbaaLawA
namespace Go.Proofs.Ytfofhambacmpbaa
open Go.RowKit

set_option maxHeartbeats 1000000 in
theorem big_any (z : Int) (w : World) (hz : InW z) :
    Calls Try.prog 29 #[Wv z] w fun e w' => e = .returned (Bg z) ∧ Below w.heap.size w w' := by
  have l1 := wh_lo hz
  have l2 := wh_hi hz
  have l3 := wl_lo z
  have l4 := wl_hi z
  have hv : wh z * 18446744073709551616 + wl z = z := by unfold wh wl; omega
  have HV := Lib.hid hv
  clear hv
  go_enter Try.func29, Try.ntmps29
  go_wp2_with fail
  generalize hW : World.alloc (World.alloc w _) _ = W
  have fc : Has9 W 38 (w.heap.size + 1) false (fun _ => 0) := by subst hW; exact Has9.made_at (World.alloc w _) _ (B := w.heap.size + 1) (by simp) false (fun _ => 0)
  have hs : w.heap.size + 1 < W.heap.size := by subst hW; simp
  have hs0 : w.heap.size < W.heap.size := by omega
  have hB : Below w.heap.size w W := by subst hW; exact ((Below.refl _ _).alloc (Nat.le_refl _) _).alloc (by simp) _
  clear hW
  have hI := Inv.start0 (there_of_row fc 9 (by decide)) hB
  refine (wide_at (wh z) (wl z) z _ l1 l2 l3 l4 HV.out).mono ?_
  rintro e w1 ⟨rfl, hb⟩
  obtain ⟨j1, j2, j3, j4, j5⟩ := Inv.call hs (Nat.le_of_lt hs0) hI hb
  clear hI fc hB
  go_wp2
  exact bodyPost_ret (v := Bg z) (by simp [results, Try.results29, go_sem, j2]) rfl ⟨rfl, Below.set9 (Nat.le_add_right _ _) j4 _ _ _ _ _ _ _ _ _⟩

theorem cmp_eq0 (x y : Int) (b : Bool) (hb : decide (x = y) = b) : (cmpI x y == 0) = b := by
  subst hb
  unfold cmpI
  by_cases h : x = y
  · simp [h]
  · simp only [h, if_false]
    split <;> simp
theorem B8_in {z : Int} (hz : InW z) : z.natAbs < B8 := by have := hz.lo; have := hz.hi; have := B8_val; rw [this]; omega
set_option maxHeartbeats 1000000 in
theorem same_any (x y : Int) (b : Bool) (w : World) (hx : InW x) (hy : y.natAbs < B8) (hsum : x.natAbs + y.natAbs < B8) (hb : decide (x = y) = b) :
    Calls Try.prog 24 #[Wv x, Bg y] w fun e w' => e = .returned (.bool b) ∧ Below w.heap.size w w' := by
  have hxB := B8_in hx
  have HE := Lib.hid (cmp_eq0 x y b hb)
  clear hb
  go_enter Try.func24, Try.ntmps24
  go_upto_region 1 with (fail)
  generalize hW : World.alloc (World.alloc w _) _ = W
  have fa : W.heap[w.heap.size]? = some (.cells #[.int .i64 (wh x), .int .u64 (wl x)] 27 (0, 0)) := by subst hW; exact (Below.heap_alloc _ _ _ (by simp)).trans (heap_alloc_new w _)
  have fb : Has9 W 38 (w.heap.size + 1) (decide (y < 0)) (dg y.natAbs) := by subst hW; exact Has9.made_at (World.alloc w _) _ (B := w.heap.size + 1) (by simp) (decide (y < 0)) (dg y.natAbs)
  have hB : Below w.heap.size w W := by subst hW; exact ((Below.refl _ _).alloc (Nat.le_refl _) _).alloc (by simp) _
  have hs1 : w.heap.size + 1 < W.heap.size := by subst hW; simp
  have hs : w.heap.size < W.heap.size := by omega
  clear hW
  have a0 : W.cell? ⟨w.heap.size, 0, none⟩ = some (.int .i64 (wh x)) := by rw [cell_of_row W _ _ _ _ _ fa]; rfl
  have a1 : W.cell? ⟨w.heap.size, 1, none⟩ = some (.int .u64 (wl x)) := by rw [cell_of_row W _ _ _ _ _ fa]; rfl
  obtain ⟨b0, b1, b2, b3, b4, b5, b6, b7, b8⟩ := fb.cells
  have hs' := Nat.le_of_lt hs
  clear fa fb
  go_region_held3 (fun w' => Ext w W w')
    ((show Ext w W _; first | (with_reducible exact Ext.start hB) | (with_reducible exact hJ)))
    (first
      | (go_at_call 29; refine (big_any x _ hx).mono ?_; rintro e w' ⟨rfl, hb⟩; have hJ := Ext.call hs' (by assumption) hb)
      | (go_at_call 33; refine (cmp_any x y _ hxB hy hsum).mono ?_; rintro e w' ⟨rfl, hb⟩; have hJ := Ext.call hs' (by assumption) hb))
  all_goals
    rename_i hI
    have HB := hI.2.1
    clear hI
    go_wp2_with fail
    go_ret
    refine ⟨ret_bool ?_, HB⟩
    exact HE.out
end Go.Proofs.Ytfofhambacmpbaa
