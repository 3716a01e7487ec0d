/- Comparing two of the document's own numbers. -/
import Derived.Test.YtahedampmjfoeaaRefC
namespace Go.Proofs.Ytahedampmjfoeaa
open Go.RowKit

set_option maxHeartbeats 2000000 in
theorem cmp_any (x y : Int) (w : World) (hx : x.natAbs < B8) (hy : y.natAbs < B8) (h : x.natAbs + y.natAbs < B8) :
    Calls Try.prog 23 #[Bg x, Bg y] w fun e w' => e = .returned (.int .i64 (cmpI x y)) ∧ Below w.heap.size w w' := by
  have hny : (-y).natAbs < B8 := by omega
  have hxy : x.natAbs + (-y).natAbs < B8 := by omega
  have hd : (x + -y).natAbs < B8 := by omega
  go_enter Try.func23, Try.ntmps23
  go_upto_region 1 with (fail)
  generalize hW : World.alloc (World.alloc w _) _ = W
  have fa : Has9 W 31 w.heap.size (decide (x < 0)) (dg x.natAbs) := by subst hW; exact (Has9.made_at w _ (B := w.heap.size) rfl _ _).alloc _
  have fb : Has9 W 31 (w.heap.size + 1) (decide (y < 0)) (dg y.natAbs) := by subst hW; exact Has9.made_at (World.alloc w _) _ (B := w.heap.size + 1) (by simp) (decide (y < 0)) (dg y.natAbs)
  have hB : Below w.heap.size w W := by subst hW; exact ((Below.refl _ _).alloc (Nat.le_refl _) _).alloc (by simp) _
  have hs1 : w.heap.size + 1 < W.heap.size := by subst hW; simp
  have hs : w.heap.size < W.heap.size := by omega
  clear hW
  obtain ⟨a0, a1, a2, a3, a4, a5, a6, a7, a8⟩ := fa.cells
  obtain ⟨b0, b1, b2, b3, b4, b5, b6, b7, b8⟩ := fb.cells
  have hs' := Nat.le_of_lt hs
  go_region_held3 (fun w' => Ext w W w')
    ((show Ext w W _; first | (with_reducible exact Ext.start hB) | (with_reducible exact hJ) | ((iterate 9 ((with_reducible refine Ext.other hs' ?_ (by first | exact Nat.le_refl _ | exact hJ.2.2 | assumption) _ _))); with_reducible exact hJ) | (with_reducible refine Ext.alloc hs' ?_ _; with_reducible first | exact hJ | exact Ext.start hB) | (with_reducible exact Ext.drew (Ext.alloc hs' (Ext.start0 hB) _)) | (with_reducible exact Ext.call hs' (by assumption) hb)))
    (first
      | (go_at_call 21; refine (neg_any y _ hy).mono ?_; rintro e w' ⟨rfl, hb⟩; have hJ := Ext.call hs' (by assumption) hb; have j5 := hJ.2.2; obtain ⟨hc, hf⟩ := bcell hb; have hz := hb.size; (try simp at hz); first | (have hz2 : W.heap.size < _ := hz) | skip)
      | (go_at_call 17; refine (add_any x (-y) _ hx hny hxy).mono ?_; rintro e w' ⟨rfl, hb⟩; have hJ := Ext.call hs' (by assumption) hb; have j5 := hJ.2.2; obtain ⟨hc, hf⟩ := bcell hb; have hz := hb.size; (try simp at hz); first | (have hz2 : W.heap.size < _ := hz) | skip))
  all_goals
    rename_i hI
    have HB := hI.2.1
    have HS := Nat.le_trans hs' hI.2.2
    clear hI
    go_wp2_with fail
    refine (zero_any (x + -y).natAbs _ hd).mono ?_
    rintro e w2 ⟨rfl, hb2⟩
    obtain ⟨hc2, hf2⟩ := bcell hb2
    have HB2 := HB.trans (hb2.mono HS)
    clear HB HS hb2 hb
    first
      | (have hz3 : W.heap.size < w'.heap.size := Nat.lt_of_lt_of_le hz2 hz)
      | (have hz3 := Nat.lt_of_succ_le hz)
      | skip
    go_wp2
  all_goals
    go_ret
    refine ⟨ret_int ?_, HB2⟩
    clear hc2 hf2 HB2
    unfold cmpI
    repeat split
    all_goals omega
end Go.Proofs.Ytahedampmjfoeaa
