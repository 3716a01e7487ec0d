/- Two samples compared: the program's order, the document's own. -/
import Derived.Test.YtdndomknjefgkaaRgB
namespace Go.Proofs.Ytdndomknjefgkaa.Rg
open Go.RowKit
theorem below_drewN {N : Nat} {a w : World} (h : Below N a w) (n : Nat) : Below N a (w.drewN n) := ⟨h.os, h.tape, h.output, h.size, h.block⟩
theorem keep_alloc {w : World} {b i : Nat} {v : Value} (x : Obj) (h : w.cell? ⟨b, i, none⟩ = some v) : (w.alloc x).cell? ⟨b, i, none⟩ = some v :=
  (cellAt ((Below.refl w.heap.size w).alloc (Nat.le_refl _) x) (World.block_lt_of_cell? w ⟨b, i, none⟩ h)).trans h
set_option maxRecDepth 100000 in
set_option maxHeartbeats 4000000 in
theorem order_any (x y : Sam) (hx : x.length = 9) (hy : y.length = 9) (w : World) :
    Calls Try.prog 33 #[.agg (rowA 9 (fn x)), .agg (rowA 9 (fn y))] w fun e w' => e = .returned (.int .i64 (cmpS x y)) ∧ Below w.heap.size w w' := by
  go_enter Try.func33, Try.ntmps33
  go_upto_region 1 with (fail)
  generalize hW : World.alloc (World.alloc w _) _ = X
  have hB : Below w.heap.size w X := by subst hW; exact ((Below.refl _ _).alloc (Nat.le_refl _) _).alloc (by simp) _
  have h1 : Blk X w.heap.size (rowA 9 (fn x)) 56 := by subst hW; exact (Blk.made _ _ _ rfl).alloc _
  have h2 : Blk X (w.heap.size + 1) (rowA 9 (fn y)) 56 := by subst hW; exact Blk.made _ _ _ (by simp)
  clear hW
  have e := cmpF_is x y (by rw [hx, hy])
  rw [hx] at e
  unfold cmpF at e
  generalize hA : w.heap.size = A at *
  have HA := Lib.hid hA
  clear hA
  have i1 := h1.ints
  have i2 := h2.ints
  have x1 := i1.at_ 0 (by omega)
  have x2 := i2.at_ 0 (by omega)
  rw [Nat.zero_add] at x1 x2
  generalize fn x = f at *
  generalize fn y = g at *
  have E := Lib.hid e
  have HB := Lib.hid hB
  have C1 : ∀ W, Calls Try.prog 40 #[.int .i64 (f 0), .int .i64 (g 0)] W fun e w' => e = .returned (.int .i64 (if f 0 < g 0 then -1 else if g 0 < f 0 then 1 else 0)) ∧ w' = W := fun W => cmp_any _ _ W
  have C2 : ∀ W, Ints W A 0 9 f → Ints W (A + 1) 0 9 g → Calls Try.prog 41 #[.slice (some ⟨A, 1, none⟩) 8 8, .slice (some ⟨A + 1, 1, none⟩) 8 8] W fun e w' => e = .returned (.int .i64 (cmpF f g 1 8)) ∧ w' = W := fun W a1 a2 => cmps_any A (A + 1) f g W a1 a2
  have E2 : (if (if f 0 < g 0 then (-1 : Int) else if g 0 < f 0 then 1 else 0) = 0 then cmpF f g 1 8 else (if f 0 < g 0 then (-1 : Int) else if g 0 < f 0 then 1 else 0)) = cmpS x y := by
    rw [← E.out]
    by_cases h1 : f 0 < g 0
    · simp [h1]
    · by_cases h2 : g 0 < f 0 <;> simp [h1, h2]
  generalize (if f 0 < g 0 then (-1 : Int) else if g 0 < f 0 then 1 else 0) = c1 at *
  generalize cmpF f g 1 8 = c2 at *
  have C3 : ∀ W b, W.cell? ⟨b, 0, none⟩ = some (.int .i64 c1) → W.cell? ⟨b, 1, none⟩ = some (.int .i64 c2) → Calls Try.prog 39 #[.slice (some ⟨b, 0, none⟩) 2 2] W fun e w' => e = .returned (.int .i64 (cmpS x y)) ∧ w' = W := fun W b a1 a2 => by have := or_any b c1 c2 W a1 a2; rwa [E2] at this
  have D1 := Lib.hid C1
  have D2 := Lib.hid C2
  have D3 := Lib.hid C3
  clear C1 C2 C3 E2 E
  clear hB h1 h2 hx hy e
  go_region_held3 (fun w' => w'.cell? ⟨A, 0, none⟩ = some (.int .i64 (f 0)) ∧ w'.cell? ⟨A + 1, 0, none⟩ = some (.int .i64 (g 0)))
    ((refine ⟨?_, ?_⟩ <;> first | assumption | (refine keep_alloc _ ?_; assumption)))
    (first
      | (go_at_call 40; refine (D1.out _).mono ?_; rintro e w1 ⟨rfl, rfl⟩)
      | (go_at_call 41; refine (D2.out _ (by first | exact i1 | exact i1.drew) (by first | exact i2 | exact i2.drew)).mono ?_; rintro e w1 ⟨rfl, rfl⟩)
      | (go_at_call 39; refine (D3.out _ _ (by simp) (by simp)).mono ?_; rintro e w1 ⟨rfl, rfl⟩))
  go_wp2
  go_ret
  exact ⟨rfl, by rw [HA.out]; exact (HB.out.alloc (by rw [← HA.out]; exact HB.out.size) _).drew⟩
set_option maxRecDepth 100000 in
set_option maxHeartbeats 4000000 in
theorem less_any (x y : Sam) (hx : x.length = 9) (hy : y.length = 9) (w : World) :
    Calls Try.prog 36 #[.agg (rowA 9 (fn x)), .agg (rowA 9 (fn y))] w fun e w' => e = .returned (.bool (lt x y)) ∧ Below w.heap.size w w' := by
  have e : lt x y = decide (cmpF (fn x) (fn y) 0 9 < 0) := by
    rw [← hx, cmpF_is x y (by rw [hx, hy]), Bool.eq_iff_iff, decide_eq_true_eq, cmpS_neg]
  go_enter Try.func36, Try.ntmps36
  go_upto_region 1 with (fail)
  generalize hW : World.alloc (World.alloc w _) _ = X
  have hB : Below w.heap.size w X := by subst hW; exact ((Below.refl _ _).alloc (Nat.le_refl _) _).alloc (by simp) _
  have h1 : Blk X w.heap.size (rowA 9 (fn x)) 56 := by subst hW; exact (Blk.made _ _ _ rfl).alloc _
  have h2 : Blk X (w.heap.size + 1) (rowA 9 (fn y)) 56 := by subst hW; exact Blk.made _ _ _ (by simp)
  clear hW
  have i1 := h1.ints
  have i2 := h2.ints
  have x1 := i1.at_ 0 (by omega)
  have x2 := i2.at_ 0 (by omega)
  rw [Nat.zero_add] at x1 x2
  unfold cmpF at e
  have E := Lib.hid e
  have HB := Lib.hid hB
  clear e hB h1 h2
  generalize hA : w.heap.size = A at *
  have HA := Lib.hid hA
  clear hA
  generalize fn x = f at *
  generalize fn y = g at *
  have I1 := Lib.hid i1
  have I2 := Lib.hid i2
  clear i1 i2
  rcases Int.lt_trichotomy (f 0) (g 0) with h1 | h1 | h1
  · have hne : f 0 ≠ g 0 := by omega
    go_wp2
    go_ret
    exact ⟨by rw [E.out, if_pos h1]; rfl, by rw [HA.out]; exact HB.out⟩
  · rw [h1] at x1
    go_wp2
    go_loopw [5] (fun i wr => ∃ k : Nat, k ≤ 8 ∧ i = .int .i64 k ∧ Below X.heap.size X wr ∧ lt x y = decide (cmpF f g (1 + k) (8 - k) < 0)) (fun i _ => 8 - (intOf i).toNat)
    case atStart => exact ⟨0, by omega, rfl, Below.refl _ _, by rw [E.out, if_neg (by omega), if_neg (by omega)]⟩
    case round =>
      obtain ⟨k, hk, rfl, hX, hc⟩ := hrel
      by_cases hlt : k < 8
      · have z1 : wr.cell? ⟨A, 1 + k, none⟩ = some (.int .i64 (f (1 + k))) := by
          rw [cellAt hX (World.block_lt_of_cell? X ⟨A, 0, none⟩ x1), ← I1.out.at_ (1 + k) (by omega), Nat.zero_add]
        have z2 : wr.cell? ⟨A + 1, 1 + k, none⟩ = some (.int .i64 (g (1 + k))) := by
          rw [cellAt hX (World.block_lt_of_cell? X ⟨A + 1, 0, none⟩ x2), ← I2.out.at_ (1 + k) (by omega), Nat.zero_add]
        have hltI : (k : Int) < 8 := by omega
        have C := Lib.hid hc
        have HX := Lib.hid hX
        clear hc hX x1 x2
        have HN := Lib.hid hltI
        rcases Int.lt_trichotomy (f (1 + k)) (g (1 + k)) with h2 | h2 | h2
        · have hne : f (1 + k) ≠ g (1 + k) := by omega
          have ER : lt x y = true := by
            rw [C.out, show 8 - k = (7 - k) + 1 by omega]
            unfold cmpF
            rw [if_pos h2]; rfl
          go_wp2_with fail
          go_quiet (fail)
          go_wp2_with fail
          go_quiet (fail)
          go_wp2
          go_ret
          exact ⟨by rw [ER]; simp; try omega, by rw [HA.out]; exact below_drewN (below_drewN (HB.out.trans (HX.out.mono (by rw [← HA.out]; exact HB.out.size))) _) _⟩
        · rw [h2] at z1
          go_wp2_with fail
          go_quiet (fail)
          go_wp2
          go_roundw
          case rel => exact ⟨k + 1, by omega, by simp, below_drewN HX.out _, by rw [C.out, show 8 - k = (7 - k) + 1 by omega, cmpF_step _ _ _ _ (by omega) (by omega), show 1 + (k + 1) = 1 + k + 1 by omega, show 8 - (k + 1) = 7 - k by omega]⟩
          case measure => simp [intOf]; omega
        · have hne : f (1 + k) ≠ g (1 + k) := by omega
          have hn2 : ¬ f (1 + k) < g (1 + k) := by omega
          have ER : lt x y = false := by
            rw [C.out, show 8 - k = (7 - k) + 1 by omega]
            unfold cmpF
            rw [if_neg (by omega), if_pos h2]; rfl
          go_wp2_with fail
          go_quiet (fail)
          go_wp2_with fail
          go_quiet (fail)
          go_wp2
          go_ret
          exact ⟨by rw [ER]; simp; try omega, by rw [HA.out]; exact below_drewN (below_drewN (HB.out.trans (HX.out.mono (by rw [← HA.out]; exact HB.out.size))) _) _⟩
      · obtain rfl : k = 8 := by omega
        go_wp2
        go_ret
        exact ⟨by rw [hc]; rfl, by rw [HA.out]; exact (HB.out.trans (hX.mono (by rw [← HA.out]; exact HB.out.size)))⟩
  · have hne : f 0 ≠ g 0 := by omega
    have hn2 : ¬ f 0 < g 0 := by omega
    go_wp2
    go_ret
    exact ⟨by rw [E.out, if_neg (by omega), if_pos h1]; rfl, by rw [HA.out]; exact HB.out⟩
end Go.Proofs.Ytdndomknjefgkaa.Rg
