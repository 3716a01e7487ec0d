/- The laws' own examples answer as told. -/
import Derived.Test.YtahedampmjfoeaaWideI
namespace Go.Proofs.Ytahedampmjfoeaa
open Go.RowKit

abbrev V2 (h l : Int) : Value := .agg #[.int .i64 h, .int .u64 l]
theorem V2_of (v h l : Int) (h1 : wh v = h) (h2 : wl v = l) : Wv v = V2 h l := agg2 h1 h2
/-- Of, at a number that is written out. -/
theorem of_lit (a h l : Int) (w : World) (h1 : wh a = h) (h2 : wl a = l) (b1 : -9223372036854775808 ≤ a) (b2 : a ≤ 9223372036854775807) :
    Calls Try.prog 13 #[.int .i64 a] w fun e w' => e = .returned (V2 h l) ∧ Below w.heap.size w w' := by
  rw [← V2_of a h l h1 h2]; exact wof_any a w b1 b2
theorem round_lit (w : World) : Calls Try.prog 27 #[V2 0 5, .int .i64 1] w fun e w' => e = .returned (.tuple #[.int .i64 3, .bool true]) ∧ Below w.heap.size w w' := by
  rw [← V2_of 5 0 5 (by decide) (by decide)]
  refine (round_any 5 1 w ⟨by decide, by decide⟩ (by decide)).mono fun e w' ⟨he, hb⟩ => ⟨he.trans (tupleb (by decide) (by decide)), hb⟩
theorem div_lit (w : World) : Calls Try.prog 30 #[V2 (-1) 18446744073709551609, .int .i64 2] w fun e w' => e = .returned (.tuple #[.int .i64 (-4), .bool true]) ∧ Below w.heap.size w w' := by
  rw [← V2_of (-7) (-1) 18446744073709551609 (by decide) (by decide)]
  refine (wdiv_any (-7) 2 w ⟨by decide, by decide⟩ (by decide) (by decide) (by decide)).mono fun e w' ⟨he, hb⟩ => ⟨he.trans (tupleb (by decide) (by decide)), hb⟩
theorem root_lit (w : World) : Calls Try.prog 57 #[V2 0 7] w fun e w' => e = .returned (.tuple #[.int .i64 3, .bool true]) ∧ Below w.heap.size w w' := by
  rw [← V2_of 7 0 7 (by decide) (by decide)]
  refine (wroot_any 7 w (by decide) (by decide)).mono fun e w' ⟨he, hb⟩ => ⟨he.trans (tupleb (by decide) rfl), hb⟩
theorem neg_lit (w : World) : Calls Try.prog 20 #[V2 0 4] w fun e w' => e = .returned (.tuple #[V2 (-1) 18446744073709551612, .bool true]) ∧ Below w.heap.size w w' := by
  rw [← V2_of 4 0 4 (by decide) (by decide), ← V2_of (-4) (-1) 18446744073709551612 (by decide) (by decide)]
  exact wneg_yes 4 w ⟨by decide, by decide⟩ (by decide)
theorem shift_lit (w : World) : Calls Try.prog 25 #[.int .i64 3, .int .i64 64] w fun e w' => e = .returned (.tuple #[V2 3 0, .bool true]) ∧ Below w.heap.size w w' := by
  rw [← V2_of (3 * 2 ^ 64) 3 0 (by decide) (by decide)]
  exact wshift_yes 3 64 w (by decide) (by decide) (by decide) ⟨by decide, by decide⟩
theorem mul_lit (w : World) : Calls Try.prog 15 #[.int .i64 4611686018427387904, .int .i64 4] w fun e w' => e = .returned (V2 1 0) ∧ Below w.heap.size w w' := by
  rw [← V2_of (4611686018427387904 * 4) 1 0 (by decide) (by decide)]
  exact wmul_any 4611686018427387904 4 w (by decide) (by decide) (by decide) (by decide)
theorem cmp_lit (w : World) : Calls Try.prog 22 #[V2 0 1, V2 0 2] w fun e w' => e = .returned (.int .i64 (-1)) ∧ Below w.heap.size w w' := by
  rw [← V2_of 1 0 1 (by decide) (by decide), ← V2_of 2 0 2 (by decide) (by decide)]
  exact (wcmp_any 1 2 w).mono fun e w' ⟨he, hb⟩ => ⟨he.trans (ret_int (by decide)), hb⟩
def two (i : Nat) : Int := if i = 0 then 3 else -5
theorem add_lit (b : Nat) (w : World) (hb : b < w.heap.size) (h0 : w.cell? ⟨b, 0, none⟩ = some (.int .i64 0)) (h1 : w.cell? ⟨b, 1, none⟩ = some (.int .u64 3)) (h2 : w.cell? ⟨b, 2, none⟩ = some (.int .i64 (-1))) (h3 : w.cell? ⟨b, 3, none⟩ = some (.int .u64 18446744073709551611)) :
    Calls Try.prog 24 #[.slice (some ⟨b, 0, none⟩) 2 2] w fun e w' => e = .returned (.tuple #[V2 (-1) 18446744073709551614, .bool true]) ∧ Below w.heap.size w w' := by
  have hin : ∀ k, k ≤ 2 → InW (accum two k) := fun k hk => by
    match k, hk with
    | 0, _ => exact ⟨by decide, by decide⟩
    | 1, _ => exact ⟨by decide, by decide⟩
    | 2, _ => exact ⟨by decide, by decide⟩
  have htw : ∀ i, i < 2 → InW (two i) := fun i hi => by
    match i, hi with
    | 0, _ => exact ⟨by decide, by decide⟩
    | 1, _ => exact ⟨by decide, by decide⟩
  have hc : Holds w b 0 2 two := ⟨fun i hi => by
    match i, hi with
    | 0, _ => exact h0
    | 1, _ => exact h2, fun i hi => by
    match i, hi with
    | 0, _ => exact h1
    | 1, _ => exact h3⟩
  refine (wadd_any b 0 2 2 2 two w (by decide) hb htw (Nat.le_refl _) hin (.inl rfl) hc).mono fun e w' ⟨he, hb'⟩ => ⟨he.trans (ret_val ?_), hb'⟩
  rw [show addRes two 2 2 = .tuple #[Wv (accum two 2), .bool true] from rfl, V2_of (accum two 2) (-1) 18446744073709551614 (by decide) (by decide)]
set_option maxRecDepth 100000 in
set_option maxHeartbeats 4000000 in
theorem awake_any (w : World) :
    Calls Try.prog 11 #[] w fun e w' => e = .returned (.bool true) ∧ Below w.heap.size w w' := by
  go_enter Try.func11, Try.ntmps11
  go_wp2_with fail
  refine (of_lit 5 0 5 _ (by decide) (by decide) (by decide) (by decide)).mono ?_
  rintro e w1 ⟨rfl, hb1⟩
  go_wp2_with fail
  refine (round_lit _).mono ?_
  rintro e w2 ⟨rfl, hb2⟩
  go_wp2_with fail
  refine (of_lit (-7) (-1) 18446744073709551609 _ (by decide) (by decide) (by decide) (by decide)).mono ?_
  rintro e w3 ⟨rfl, hb3⟩
  go_wp2_with fail
  refine (div_lit _).mono ?_
  rintro e w4 ⟨rfl, hb4⟩
  go_wp2_with fail
  refine (of_lit 7 0 7 _ (by decide) (by decide) (by decide) (by decide)).mono ?_
  rintro e w5 ⟨rfl, hb5⟩
  go_wp2_with fail
  refine (root_lit _).mono ?_
  rintro e w6 ⟨rfl, hb6⟩
  have hz := fun {a b c : World} (h1 : Below w.heap.size w a) (h2 : Below a.heap.size a b) (h3 : Below b.heap.size b c) => (h1.trans (h2.mono h1.size)).trans (h3.mono (Nat.le_trans h1.size h2.size))
  have hB6 := hz (hz (hz (Below.refl _ _) hb1 hb2) hb3 hb4) hb5 hb6
  clear hz hb1 hb2 hb3 hb4 hb5 hb6
  go_wp2_with fail
  refine (of_lit 3 0 3 _ (by decide) (by decide) (by decide) (by decide)).mono ?_
  rintro e w7 ⟨rfl, hb7⟩
  go_wp2_with fail
  refine (of_lit (-5) (-1) 18446744073709551611 _ (by decide) (by decide) (by decide) (by decide)).mono ?_
  rintro e w8 ⟨rfl, hb8⟩
  have hB8 : Below w.heap.size w w8 := (hB6.trans (hb7.mono hB6.size)).trans (hb8.mono (Nat.le_trans hB6.size hb7.size))
  clear hb7 hb8 hB6
  go_wp2_with fail
  generalize hW : World.alloc w8 _ = W
  have q0 : W.cell? ⟨w8.heap.size, 0, none⟩ = some (.int .i64 0) := by subst hW; simp
  have q1 : W.cell? ⟨w8.heap.size, 1, none⟩ = some (.int .u64 3) := by subst hW; simp
  have q2 : W.cell? ⟨w8.heap.size, 2, none⟩ = some (.int .i64 (-1)) := by subst hW; simp
  have q3 : W.cell? ⟨w8.heap.size, 3, none⟩ = some (.int .u64 18446744073709551611) := by subst hW; simp
  have hlt : w8.heap.size < W.heap.size := by subst hW; simp
  have hBW : Below w.heap.size w W := by subst hW; exact hB8.alloc hB8.size _
  refine (add_lit w8.heap.size W hlt q0 q1 q2 q3).mono ?_
  rintro e w9 ⟨rfl, hb9⟩
  have hB9 := hBW.trans (hb9.mono hBW.size)
  clear q0 q1 q2 q3 hlt hBW hB8 hW hb9
  go_wp2_with fail
  generalize hX : World.alloc w9 _ = X
  have x0 : X.cell? ⟨w9.heap.size, 0, none⟩ = some (.int .i64 (-1)) := by subst hX; simp
  have x1 : X.cell? ⟨w9.heap.size, 1, none⟩ = some (.int .u64 18446744073709551614) := by subst hX; simp
  have xl : w9.heap.size < X.heap.size := by subst hX; simp
  have hBX : Below w.heap.size w X := by subst hX; exact hB9.alloc hB9.size _
  clear hX hB9
  refine (of_lit 4 0 4 _ (by decide) (by decide) (by decide) (by decide)).mono ?_
  rintro e w10 ⟨rfl, hb10⟩
  go_wp2_with fail
  refine (neg_lit _).mono ?_
  rintro e w11 ⟨rfl, hb11⟩
  have hX11 : Below X.heap.size X w11 := hb10.trans (hb11.mono hb10.size)
  clear hb10 hb11
  go_wp2_with fail
  generalize hY : World.alloc w11 _ = Y
  have y0 : Y.cell? ⟨w11.heap.size, 0, none⟩ = some (.int .i64 (-1)) := by subst hY; simp
  have y1 : Y.cell? ⟨w11.heap.size, 1, none⟩ = some (.int .u64 18446744073709551612) := by subst hY; simp
  have yl : w11.heap.size < Y.heap.size := by subst hY; simp
  have hXY : Below X.heap.size X Y := by subst hY; exact hX11.alloc hX11.size _
  have xy := hX11.size
  clear hY hX11
  refine (shift_lit _).mono ?_
  rintro e w12 ⟨rfl, hb12⟩
  go_wp2_with fail
  generalize hZ : World.alloc w12 _ = Z
  have z0 : Z.cell? ⟨w12.heap.size, 0, none⟩ = some (.int .i64 3) := by subst hZ; simp
  have z1 : Z.cell? ⟨w12.heap.size, 1, none⟩ = some (.int .u64 0) := by subst hZ; simp
  have zl : w12.heap.size < Z.heap.size := by subst hZ; simp
  have hYZ : Below Y.heap.size Y Z := by subst hZ; exact hb12.alloc hb12.size _
  have yz := hb12.size
  clear hZ hb12
  have u0 := (hYZ.cell (p := ⟨w11.heap.size, 0, none⟩) yl).trans y0
  have u1 := (hYZ.cell (p := ⟨w11.heap.size, 1, none⟩) yl).trans y1
  have hXZ := hXY.trans (hYZ.mono hXY.size)
  have v0 := (hXZ.cell (p := ⟨w9.heap.size, 0, none⟩) xl).trans x0
  have v1 := (hXZ.cell (p := ⟨w9.heap.size, 1, none⟩) xl).trans x1
  have hBZ := hBX.trans (hXZ.mono hBX.size)
  have l1 : w9.heap.size < Z.heap.size := Nat.lt_of_lt_of_le xl hXZ.size
  have l2 : w11.heap.size < Z.heap.size := Nat.lt_of_lt_of_le yl hYZ.size
  have hwZ := hBZ.size
  clear x0 x1 y0 y1 xl yl hXY hYZ hXZ hBX xy yz
  go_region_held3 (fun w' => Ext w Z w')
    ((show Ext w Z _; first | (with_reducible exact Ext.start hBZ) | (with_reducible exact hJ) | (with_reducible assumption)))
    (first
      | (go_at_call 15; refine (mul_lit _).mono ?_; rintro e w' ⟨rfl, hb⟩; have hJ := Ext.call hwZ (by assumption) hb)
      | (go_at_call 22; refine (cmp_lit _).mono ?_; rintro e w' ⟨rfl, hb⟩; have hJ := Ext.call hwZ (by assumption) hb)
      | (go_at_call 13; (first | refine (of_lit (-2) (-1) 18446744073709551614 _ (by decide) (by decide) (by decide) (by decide)).mono ?_ | refine (of_lit (-4) (-1) 18446744073709551612 _ (by decide) (by decide) (by decide) (by decide)).mono ?_ | refine (of_lit 1 0 1 _ (by decide) (by decide) (by decide) (by decide)).mono ?_ | refine (of_lit 2 0 2 _ (by decide) (by decide) (by decide) (by decide)).mono ?_); rintro e w' ⟨rfl, hb⟩; have hJ := Ext.call hwZ (by assumption) hb))
  rename_i hI
  have HB := hI.2.1
  clear hI
  go_wp2_with fail
  go_ret
  exact ⟨rfl, HB⟩
end Go.Proofs.Ytahedampmjfoeaa
