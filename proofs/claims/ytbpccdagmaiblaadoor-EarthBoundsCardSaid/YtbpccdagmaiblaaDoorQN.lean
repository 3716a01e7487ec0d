/- The document's own scalars again: a product divided. -/
import Derived.Test.YtbpccdagmaiblaaDoorQK
namespace Go.Proofs.YtbpccdagmaiblaaDoor
open Go.RowKit

set_option maxHeartbeats 2000000 in
theorem qmuldiv_near (p o : Nat) (a b d : Int) (h : Bool) (w : World) (f : Fl p o h w) (hd0 : satv d ≠ 0) :
    Calls Tryd.prog 32 #[.pointer (some ⟨p, o, none⟩), .int .i64 a, .int .i64 b, .int .i64 d] w fun e w' => e = .returned (.int .i64 (satv (divZ (satv a * satv b) (satv d)))) ∧ FlW p o (h || sath a || sath b || sath d || sath (divZ (satv a * satv b) (satv d))) w w' := by
  have l1 := satv_lo a
  have l2 := satv_hi a
  have l3 := satv_lo b
  have l4 := satv_hi b
  have l5 := satv_lo d
  have l6 := satv_hi d
  have hN := mul_in a b
  have e0 : (satv a * satv b).natAbs = (satv a).natAbs * (satv b).natAbs := Int.natAbs_mul _ _
  have e1 : satv a * satv b ≠ 0 → (decide (satv a < 0) != decide (satv b < 0)) = decide (satv a * satv b < 0) := by
    intro hne
    rcases Int.lt_trichotomy (satv a) 0 with hx | hx | hx
    · rcases Int.lt_trichotomy (satv b) 0 with hy | hy | hy
      · rw [decide_eq_true hx, decide_eq_true hy, decide_eq_false (by have := Int.mul_pos_of_neg_of_neg hx hy; omega)]; rfl
      · rw [hy, Int.mul_zero] at hne; exact absurd rfl hne
      · rw [decide_eq_true hx, decide_eq_false (by omega), decide_eq_true (Int.mul_neg_of_neg_of_pos hx hy)]; rfl
    · rw [hx, Int.zero_mul] at hne; exact absurd rfl hne
    · rcases Int.lt_trichotomy (satv b) 0 with hy | hy | hy
      · rw [decide_eq_false (by omega), decide_eq_true hy, decide_eq_true (Int.mul_neg_of_pos_of_neg hx hy)]; rfl
      · rw [hy, Int.mul_zero] at hne; exact absurd rfl hne
      · rw [decide_eq_false (by omega), decide_eq_false (by omega), decide_eq_false (by have := Int.mul_pos hx hy; omega)]; rfl
  have HQ := Lib.hid (quot_sign (satv a * satv b) (satv d) ((satv a).natAbs * (satv b).natAbs) (decide (satv a < 0) != decide (satv b < 0)) hd0 e0 e1)
  have HM := Lib.hid (fun w => q_mul (satv a) (satv b) w l1 l2 l3 l4)
  have HY := Lib.hid (fun w => q_size_b (satv d) w l5 l6)
  have HD := Lib.hid (fun (c : Bool) w => q_divided ((satv a).natAbs * (satv b).natAbs) (satv d).natAbs c w (by omega) (by omega) (by omega))
  have HE := Lib.hid (fun (c : Bool) h w f => qend p o c (dq ((satv a).natAbs * (satv b).natAbs) (satv d).natAbs : Nat) h w f (inq_nat (dq_bound _ _ (by omega) (by omega))))
  simp only [← Int.natCast_mul] at HM
  clear hN e0 e1
  generalize hM : (satv a).natAbs * (satv b).natAbs = M at *
  generalize hR : dq M (satv d).natAbs = R at *
  rw [← HQ.out]
  generalize hs : (decide (satv a < 0) != decide (satv b < 0)) = sg at *
  have f0 := f
  go_enter Tryd.func32, Tryd.ntmps32
  go_wp2_with fail
  refine (qsat p o a h _ f).mono ?_
  rintro e w1 ⟨rfl, k⟩
  have f := k.fl f
  go_wp2_with fail
  refine (qsat p o b _ _ f).mono ?_
  rintro e w2 ⟨rfl, k2⟩
  have f := k2.fl f
  have k := k.trans k2
  clear k2
  go_wp2_with fail
  refine (HM.out _).mono ?_
  rintro e w3 ⟨rfl, hb⟩
  have f := f.below hb
  have k := k.then hb
  clear hb
  have hw3 := k.size
  go_wp2_with fail
  generalize hW : World.alloc _ _ = W
  have k := k.alloc (.cells #[.int .u64 (wh M), .int .u64 (wl M), .bool sg] 82)
  have e0 := heap_alloc_new w3 (.cells #[.int .u64 (wh M), .int .u64 (wl M), .bool sg] 82)
  have hsz : w3.heap.size < (w3.alloc (.cells #[.int .u64 (wh M), .int .u64 (wl M), .bool sg] 82)).heap.size := by simp
  have hne : w3.heap.size ≠ p := by have := f.lt; omega
  have f := f.alloc (.cells #[.int .u64 (wh M), .int .u64 (wl M), .bool sg] 82)
  rw [hW] at k f e0 hsz
  clear hW
  refine (qsat p o d _ _ f).mono ?_
  rintro e w4 ⟨rfl, k2⟩
  have e0 := (k2.block hsz hne).trans e0
  have hsz := Nat.lt_of_lt_of_le hsz k2.size
  have f := k2.fl f
  have k := k.trans k2
  clear k2
  have a0 : w4.cell? ⟨w3.heap.size, 0, none⟩ = some (.int .u64 (wh M)) := by rw [cell_of_row w4 _ _ _ _ _ e0]; rfl
  have a1 : w4.cell? ⟨w3.heap.size, 1, none⟩ = some (.int .u64 (wl M)) := by rw [cell_of_row w4 _ _ _ _ _ e0]; rfl
  have a2 : w4.cell? ⟨w3.heap.size, 2, none⟩ = some (.bool sg) := by rw [cell_of_row w4 _ _ _ _ _ e0]; rfl
  have ga : ∀ o, w4.frozen? ⟨w3.heap.size, o, none⟩ = false := fun o => by simp [World.frozen?, e0]
  go_upto_region 11 with (fail)
  have z2 : (w4.setCell ⟨w3.heap.size, 2, none⟩ (.bool (!sg == decide (satv d < 0)))).cell? ⟨w3.heap.size, 2, none⟩ = some (.bool (!sg == decide (satv d < 0))) := set_cell_same a2 _
  have z0 := (set_cell_other (w := w4) (p := w3.heap.size) (o := 2) (b := w3.heap.size) (i := 0) (.inr (by decide)) (.bool (!sg == decide (satv d < 0)))).trans a0
  have z1 := (set_cell_other (w := w4) (p := w3.heap.size) (o := 2) (b := w3.heap.size) (i := 1) (.inr (by decide)) (.bool (!sg == decide (satv d < 0)))).trans a1
  have k := k.other (b := w3.heap.size) (i := 2) hw3 (.bool (!sg == decide (satv d < 0)))
  have hsz : w3.heap.size < (w4.setCell ⟨w3.heap.size, 2, none⟩ (.bool (!sg == decide (satv d < 0)))).heap.size := by rw [size_set]; exact hsz
  generalize World.setCell _ _ _ = Z at *
  have f := k.fl f0
  clear a0 a1 a2 ga e0
  go_region_held3 (fun w' => FExt p Z w')
    ((show FExt p Z _; first | (with_reducible exact FExt.start p Z) | (with_reducible exact hJ)))
    (first
      | (go_at_call 55; refine (HY.out _).mono ?_; rintro e w6 ⟨rfl, hb6⟩; have hJ := FExt.call (by assumption) hb6)
      | (go_at_call 54; refine (HD.out _ _).mono ?_; rintro e w7 ⟨rfl, hb7⟩; have hJ := FExt.call (by assumption) hb7)
      | (go_at_call 53; refine (HE.out _ _ _ ((f.drew.below hb6).below hb7)).mono ?_; rintro e w9 ⟨rfl, k9⟩; have hJ := FExt.flag (by assumption) k9))
  go_wp2_with fail
  go_ret
  exact ⟨rfl, ((k.drew.then hb6).then hb7).trans k9⟩
end Go.Proofs.YtbpccdagmaiblaaDoor
