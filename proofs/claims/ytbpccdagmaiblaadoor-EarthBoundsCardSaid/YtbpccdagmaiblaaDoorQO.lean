/- The document's own scalars again: a product divided by nought; both. -/
import Derived.Test.YtbpccdagmaiblaaDoorQN
namespace Go.Proofs.YtbpccdagmaiblaaDoor
open Go.RowKit

set_option maxHeartbeats 2000000 in
theorem qmuldiv_zero (p o : Nat) (a b d : Int) (h : Bool) (w : World) (f : Fl p o h w) (hd0 : satv d = 0) :
    Calls Tryd.prog 32 #[.pointer (some ⟨p, o, none⟩), .int .i64 a, .int .i64 b, .int .i64 d] w fun e w' => e = .returned (.int .i64 (sideOf (satv a * satv b))) ∧ FlW p o true w w' := by
  have l1 := satv_lo a
  have l2 := satv_hi a
  have l3 := satv_lo b
  have l4 := satv_hi b
  have l5 := satv_lo d
  have l6 := satv_hi d
  have hN := mul_in a b
  have e0 : (satv a * satv b).natAbs = (satv a).natAbs * (satv b).natAbs := Int.natAbs_mul _ _
  have hc : (satv a).natAbs * (satv b).natAbs = 0 ∧ sideOf (satv a * satv b) = 0 ∨ (satv a).natAbs * (satv b).natAbs ≠ 0 ∧ (decide (satv a < 0) != decide (satv b < 0)) = true ∧ sideOf (satv a * satv b) = -1152921504606846976 ∨ (satv a).natAbs * (satv b).natAbs ≠ 0 ∧ (decide (satv a < 0) != decide (satv b < 0)) = false ∧ sideOf (satv a * satv b) = 1152921504606846976 := by
    rw [← e0]
    rcases Int.lt_trichotomy (satv a) 0 with hx | hx | hx
    · rcases Int.lt_trichotomy (satv b) 0 with hy | hy | hy
      · have h := Int.mul_pos_of_neg_of_neg hx hy
        exact .inr (.inr ⟨by omega, by rw [decide_eq_true hx, decide_eq_true hy]; rfl, side_pos h⟩)
      · left; rw [hy, Int.mul_zero]; exact ⟨rfl, rfl⟩
      · have h := Int.mul_neg_of_neg_of_pos hx hy
        exact .inr (.inl ⟨by omega, by rw [decide_eq_true hx, decide_eq_false (by omega)]; rfl, side_neg h⟩)
    · left; rw [hx, Int.zero_mul]; exact ⟨rfl, rfl⟩
    · rcases Int.lt_trichotomy (satv b) 0 with hy | hy | hy
      · have h := Int.mul_neg_of_pos_of_neg hx hy
        exact .inr (.inl ⟨by omega, by rw [decide_eq_false (by omega), decide_eq_true hy]; rfl, side_neg h⟩)
      · left; rw [hy, Int.mul_zero]; exact ⟨rfl, rfl⟩
      · have h := Int.mul_pos hx hy
        exact .inr (.inr ⟨by omega, by rw [decide_eq_false (by omega), decide_eq_false (by omega)]; rfl, side_pos h⟩)
  have HM := Lib.hid (fun w => q_mul (satv a) (satv b) w l1 l2 l3 l4)
  simp only [← Int.natCast_mul] at HM
  clear e0
  generalize hM : (satv a).natAbs * (satv b).natAbs = M at *
  generalize hs : (decide (satv a < 0) != decide (satv b < 0)) = sg at *
  have HC := Lib.hid hc
  clear hc
  have HZ := Lib.hid (fun h w f => qsat p o d h w f)
  rw [hd0] at HZ
  have f0 := f
  go_enter Tryd.func32, Tryd.ntmps32
  go_wp2_with fail
  refine (qsat p o a h _ f).mono ?_
  rintro e w1 ⟨rfl, k⟩
  have f := k.fl f
  go_wp2_with fail
  refine (qsat p o b _ _ f).mono ?_
  rintro e w2 ⟨rfl, k2⟩
  have f := k2.fl f
  have k := k.trans k2
  clear k2
  go_wp2_with fail
  refine (HM.out _).mono ?_
  rintro e w3 ⟨rfl, hb⟩
  have f := f.below hb
  have k := k.then hb
  clear hb
  have hw3 := k.size
  go_wp2_with fail
  generalize hW : World.alloc _ _ = W
  have k := k.alloc (.cells #[.int .u64 (wh M), .int .u64 (wl M), .bool sg] 82)
  have e0 := heap_alloc_new w3 (.cells #[.int .u64 (wh M), .int .u64 (wl M), .bool sg] 82)
  have hsz : w3.heap.size < (w3.alloc (.cells #[.int .u64 (wh M), .int .u64 (wl M), .bool sg] 82)).heap.size := by simp
  have hne : w3.heap.size ≠ p := by have := f.lt; omega
  have f := f.alloc (.cells #[.int .u64 (wh M), .int .u64 (wl M), .bool sg] 82)
  rw [hW] at k f e0 hsz
  clear hW
  refine (HZ.out _ _ f).mono ?_
  rintro e w4 ⟨rfl, k2⟩
  have e0 := (k2.block hsz hne).trans e0
  have hsz := Nat.lt_of_lt_of_le hsz k2.size
  have f := k2.fl f
  have k := k.trans k2
  clear k2
  have a0 : w4.cell? ⟨w3.heap.size, 0, none⟩ = some (.int .u64 (wh M)) := by rw [cell_of_row w4 _ _ _ _ _ e0]; rfl
  have a1 : w4.cell? ⟨w3.heap.size, 1, none⟩ = some (.int .u64 (wl M)) := by rw [cell_of_row w4 _ _ _ _ _ e0]; rfl
  have a2 : w4.cell? ⟨w3.heap.size, 2, none⟩ = some (.bool sg) := by rw [cell_of_row w4 _ _ _ _ _ e0]; rfl
  have ga : ∀ o, w4.frozen? ⟨w3.heap.size, o, none⟩ = false := fun o => by simp [World.frozen?, e0]
  have hwz : ∀ n : Nat, n = 0 → wh n = 0 ∧ wl n = 0 := fun n h => by subst h; exact ⟨rfl, rfl⟩
  obtain ⟨fc, ff, fl⟩ := f
  have hq0 := set_cell_other (w := w4) (p := p) (o := o) (b := w3.heap.size) (i := 0) (.inl hne) (.bool true)
  have hq1 := set_cell_other (w := w4) (p := p) (o := o) (b := w3.heap.size) (i := 1) (.inl hne) (.bool true)
  have hq2 := set_cell_other (w := w4) (p := p) (o := o) (b := w3.heap.size) (i := 2) (.inl hne) (.bool true)
  have hq0 := hq0.trans a0
  have hq1 := hq1.trans a1
  have hq2 := hq2.trans a2
  rcases HC.out with ⟨h1, h2⟩ | ⟨h1, h2, h3⟩ | ⟨h1, h2, h3⟩
  · obtain ⟨g1, g2⟩ := hwz M h1
    have HV := Lib.hid h2
    clear h1 h2
    go_wp2_with fail
    go_ret
    exact ⟨ret_int HV.out.symm, k.trans (FlW.set _ _)⟩
  · have HV := Lib.hid h3
    subst h2
    have g : 0 < wh M ∨ 0 < wl M := by have := wl_lo M; unfold wh wl at *; omega
    clear h1 h3
    by_cases g1 : wh M = 0
    · have g2 : ¬ wl M = 0 := by omega
      go_wp2_with fail
      go_ret
      exact ⟨ret_int HV.out.symm, k.trans (FlW.set _ _)⟩
    · go_wp2_with fail
      go_ret
      exact ⟨ret_int HV.out.symm, k.trans (FlW.set _ _)⟩
  · have HV := Lib.hid h3
    subst h2
    have g : 0 < wh M ∨ 0 < wl M := by have := wl_lo M; unfold wh wl at *; omega
    clear h1 h3
    by_cases g1 : wh M = 0
    · have g2 : ¬ wl M = 0 := by omega
      go_wp2_with fail
      go_ret
      exact ⟨ret_int HV.out.symm, k.trans (FlW.set _ _)⟩
    · go_wp2_with fail
      go_ret
      exact ⟨ret_int HV.out.symm, k.trans (FlW.set _ _)⟩
theorem qmuldiv (p o : Nat) (a b d : Int) (h : Bool) (w : World) (f : Fl p o h w) :
    Calls Tryd.prog 32 #[.pointer (some ⟨p, o, none⟩), .int .i64 a, .int .i64 b, .int .i64 d] w fun e w' => e = .returned (.int .i64 (divv (satv a * satv b) (satv d))) ∧ FlW p o (h || sath a || sath b || sath d || divh (satv a * satv b) (satv d)) w w' := by
  by_cases hd0 : satv d = 0
  · refine (qmuldiv_zero p o a b d h w f hd0).mono ?_
    rintro e w' ⟨rfl, k⟩
    refine ⟨ret_int ?_, flag_is ?_ k⟩
    · unfold divv; rw [if_pos hd0]
    · unfold divh; rw [if_pos hd0, Bool.or_true]
  · rw [(divv_pos hd0).1, (divv_pos hd0).2]
    exact qmuldiv_near p o a b d h w f hd0
end Go.Proofs.YtbpccdagmaiblaaDoor
