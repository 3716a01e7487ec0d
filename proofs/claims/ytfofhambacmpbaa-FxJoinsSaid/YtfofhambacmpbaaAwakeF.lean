/- The laws' own examples of chapter 2 answer as told. -/
import Derived.Test.YtfofhambacmpbaaFxG
namespace Go.Proofs.Ytfofhambacmpbaa
open Go.RowKit

theorem fl_is {p o : Nat} {g h : Bool} {w : World} (hh : h = g) (k : Fl p o h w) : Fl p o g w := by subst hh; exact k
set_option maxRecDepth 100000 in
set_option maxHeartbeats 4000000 in
theorem awakeF_any (w : World) :
    Calls Try.prog 39 #[] w fun e w' => e = .returned (.bool true) ∧ Below w.heap.size w w' := by
  go_enter Try.func39, Try.ntmps39
  go_wp2_with fail
  generalize hW : World.alloc w _ = W
  have fW : Fl w.heap.size 0 false W := by subst hW; exact Fl.made _ _ _
  have hB : Below w.heap.size w W := by subst hW; exact (Below.refl _ _).alloc (Nat.le_refl _) _
  clear hW
  refine (mul_ok w.heap.size 0 1073741824 1073741824 30 1073741824 false _ fW (by decide) (by decide) (by decide)).mono ?_
  rintro e w1 ⟨rfl, k⟩
  have f1 := k.fl fW
  have hB := hB.trans (k.below hB.size (Nat.le_refl _))
  clear k fW
  go_wp2_with fail
  refine (mul_ok w.heap.size 0 3 536870912 30 2 false _ f1 (by decide) (by decide) (by decide)).mono ?_
  rintro e w2 ⟨rfl, k⟩
  have f2 := k.fl f1
  have hB := hB.trans (k.below hB.size (Nat.le_refl _))
  clear k f1
  go_wp2_with fail
  refine (div_ok w.heap.size 0 1073741824 3 0 357913941 false _ f2 (by decide) (by decide) (by decide)).mono ?_
  rintro e w3 ⟨rfl, k⟩
  have f3 := k.fl f2
  have hB := hB.trans (k.below hB.size (Nat.le_refl _))
  clear k f2
  go_wp2_with fail
  generalize hX : World.alloc (World.alloc w3 _) _ = X
  have bX : Below w3.heap.size w3 X := by subst hX; exact ((Below.refl _ _).alloc (Nat.le_refl _) _).alloc (by simp) _
  have Ba : Blk X w3.heap.size #[.int .i64 1073741824, .int .i64 1073741824] 2 := by subst hX; exact (Blk.made _ _ _ rfl).alloc _
  have Bb : Blk X (w3.heap.size + 1) #[.int .i64 1073741824, .int .i64 5] 2 := by subst hX; exact Blk.made _ _ _ (by simp)
  have fX := f3.below bX
  have lw : w.heap.size < w3.heap.size := f3.lt
  have hB := hB.trans (bX.mono hB.size)
  clear hX f3 bX
  refine (dot_fx w.heap.size 0 w3.heap.size 0 2 2 (w3.heap.size + 1) 0 2 2 _ _ 30 2 false X fX (by decide) (by decide) (by decide) (by decide) (by decide) Ba.lt Bb.lt (by omega) (by omega) Ba.ints2 Bb.ints2).mono ?_
  rintro e w4 ⟨rfl, k⟩
  have k := flag_is (g := false) (by decide) k
  have f4 := k.fl fX
  have hB := hB.trans (k.below hB.size (Nat.le_refl _))
  clear k fX Ba Bb lw
  rw [show satv (rnd (sumP (fun i => if i = 0 then 1073741824 else 1073741824) (fun i => if i = 0 then 1073741824 else 5) 2) 30) = 1073741829 from by decide]
  go_wp2_with fail
  refine (sub_ok w.heap.size 0 5 7 (-2) false _ f4 (by decide) (by decide)).mono ?_
  rintro e w5 ⟨rfl, k⟩
  have f5 := k.fl f4
  have hB := hB.trans (k.below hB.size (Nat.le_refl _))
  clear k f4
  go_wp2_with fail
  refine (muldiv_ok w.heap.size 0 10 10 3 33 false _ f5 (by decide) (by decide)).mono ?_
  rintro e w6 ⟨rfl, k⟩
  have f6 := k.fl f5
  have hB := hB.trans (k.below hB.size (Nat.le_refl _))
  clear k f5
  go_wp2_with fail
  refine (sat_ok w.heap.size 0 9 false _ f6 (by decide) (by decide)).mono ?_
  rintro e w7 ⟨rfl, k⟩
  have f7 := k.fl f6
  have hB := hB.trans (k.below hB.size (Nat.le_refl _))
  clear k f6
  go_wp2_with fail
  refine (clamp_ok w.heap.size 0 5 1 9 false _ f7 (by decide) (by decide)).mono ?_
  rintro e w8 ⟨rfl, k⟩
  have f8 := k.fl f7
  have hB := hB.trans (k.below hB.size (Nat.le_refl _))
  clear k f7
  have c8 := f8.cell
  go_wp2_with fail
  refine (abs_any (-4) _).mono ?_
  rintro e w8' ⟨rfl, rfl⟩
  rw [show absv (-4) = 4 from by decide]
  go_upto_region 5 with (fail)
  generalize hY : World.alloc (World.alloc (World.alloc w8 _) _) _ = Y
  have bY : Below w8.heap.size w8 Y := by subst hY; exact (((Below.refl _ _).alloc (Nat.le_refl _) _).alloc (by simp) _).alloc (by simp; omega) _
  have fd : Fl w8.heap.size 0 false Y := by subst hY; exact ((Fl.made w8 _ false).alloc _).alloc _
  have ft : Fl (w8.heap.size + 1) 0 true Y := by subst hY; exact (Fl.made_at _ _ true (by simp)).alloc _
  have Bp : Blk Y (w8.heap.size + 1 + 1) #[.pointer (some ⟨w.heap.size, 0, none⟩), .pointer (some ⟨w8.heap.size + 1, 0, none⟩)] 56 := by subst hY; exact Blk.made _ _ _ (by simp)
  have fY := f8.below bY
  have lw : w.heap.size < w8.heap.size := f8.lt
  have hB := hB.trans (bY.mono hB.size)
  clear hY f8 bY c8
  refine (merge_fx w8.heap.size 0 (w8.heap.size + 1 + 1) 0 2 2 (fun i => if i = 0 then w.heap.size else w8.heap.size + 1) (fun _ => 0) (fun i => if i = 0 then false else true) false Y fd (by decide) Bp.lt (by omega) ?_ ?_ ?_).mono ?_
  · intro i hi
    rw [Bp.cell]
    match i, hi with
    | 0, _ => rfl
    | 1, _ => rfl
  · intro i hi
    match i, hi with
    | 0, _ => exact fY
    | 1, _ => exact ft
  · intro i hi
    match i, hi with
    | 0, _ => show w.heap.size ≠ _; omega
    | 1, _ => show w8.heap.size + 1 ≠ _; omega
  rintro e w9 ⟨rfl, k⟩
  have k := flag_is (g := true) (by decide) k
  have fd := k.fl fd
  have f9 : Fl w.heap.size 0 false w9 := ⟨(k.cell fY.lt (.inl (by omega))).trans fY.cell, (k.frozen fY.lt).trans fY.free, Nat.lt_of_lt_of_le fY.lt k.size⟩
  have hB := hB.trans (k.below hB.size (Nat.le_of_lt lw))
  clear k fY ft Bp
  go_wp2_with fail
  generalize hZ : World.alloc w9 _ = Z
  have bZ : Below w9.heap.size w9 Z := by subst hZ; exact (Below.refl _ _).alloc (Nat.le_refl _) _
  have Bz : Blk Z w9.heap.size #[.int .i64 1152921504606846976, .int .i64 1] 2 := by subst hZ; exact Blk.made _ _ _ rfl
  have fZ := f9.below bZ
  have fdZ := fd.below bZ
  have hB := hB.trans (bZ.mono hB.size)
  have l9 := f9.lt
  clear hZ bZ f9 fd
  refine (add_fx w.heap.size 0 w9.heap.size 0 2 2 _ false Z fZ (by decide) Bz.lt (by omega) Bz.ints2).mono ?_
  rintro e w10 ⟨rfl, k⟩
  have k := flag_is (g := true) (by decide) k
  have f10 := k.fl fZ
  have cd := (k.cell fdZ.lt (.inl (by omega))).trans fdZ.cell
  have cc := f10.cell
  have hB := hB.trans (k.below hB.size (Nat.le_refl _))
  clear k fZ Bz fdZ f10
  rw [show satv (rnd (sumS (fun i => if i = 0 then 1152921504606846976 else 1) 2) 0) = 1152921504606846976 from by decide]
  go_wp2_with fail
  go_ret
  exact ⟨rfl, hB⟩
end Go.Proofs.Ytfofhambacmpbaa
