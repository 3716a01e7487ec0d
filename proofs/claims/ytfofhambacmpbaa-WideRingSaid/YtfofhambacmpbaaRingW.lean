/- Proved here: products are shared out over sums and turned, and comparing goes on past a sum, for every input. -/
import Derived.Test.YtfofhambacmpbaaLawB
import Derived.Test.YtfofhambacmpbaaLift
import Derived.Test.YtfofhambacmpbaaFxB
namespace Go.Proofs.Ytfofhambacmpbaa.wideRing
open Go.RowKit
theorem bil_bd {a b : Int} {k : Int} (hk : 0 ≤ k) (a1 : -k ≤ a) (a2 : a ≤ k) (b1 : -k ≤ b) (b2 : b ≤ k) : -(k * k) ≤ a * b ∧ a * b ≤ k * k := by
  have h1 : (a * b).natAbs ≤ k.natAbs * k.natAbs := by
    rw [Int.natAbs_mul]
    exact Nat.mul_le_mul (by omega) (by omega)
  have h2 : (k * k).natAbs = k.natAbs * k.natAbs := Int.natAbs_mul _ _
  have h3 : 0 ≤ k * k := Int.mul_nonneg hk hk
  generalize a * b = x at *
  generalize k * k = y at *
  omega
theorem alloc_old {w : World} {B : Nat} {o : Obj} (h : w.heap[B]? = some o) (x : Obj) : (w.alloc x).heap[B]? = some o := by
  have hl : B < w.heap.size := by
    rcases Nat.lt_or_ge B w.heap.size with h1 | h1
    · exact h1
    · rw [Array.getElem?_eq_none_iff.2 h1] at h; cases h
  rw [Below.heap_alloc _ _ _ hl]; exact h
theorem i64_id (x : Int) (h1 : -9223372036854775808 ≤ x) (h2 : x ≤ 9223372036854775807) : IntKind.i64.wrap x = x := by
  rw [IntKind.wrap_i64]; omega
theorem wmul_to (a x b v : Int) (w : World) (a1 : -9223372036854775808 ≤ a) (a2 : a ≤ 9223372036854775807) (b1 : -9223372036854775808 ≤ b) (b2 : b ≤ 9223372036854775807) (hx : x = b) (hv : a * b = v) :
    Calls Try.prog 26 #[.int .i64 a, .int .i64 x] w fun e w' => e = .returned (Wv v) ∧ Below w.heap.size w w' := by
  subst hx hv; exact wmul_any a x w a1 a2 b1 b2
/-- All that X held is as it was. -/
abbrev BExt (X w' : World) : Prop := (∀ b o, b < X.heap.size → w'.cell? ⟨b, o, none⟩ = X.cell? ⟨b, o, none⟩) ∧ Below X.heap.size X w'
theorem BExt.of {X w' : World} (h : Below X.heap.size X w') : BExt X w' := ⟨fun b o hlt => h.cell (p := ⟨b, o, none⟩) hlt, h⟩
theorem BExt.start (X : World) : BExt X X.drew := .of (Below.refl _ _).drew
theorem BExt.call {X w1 w2 : World} (h : BExt X w1) (hb : Below w1.heap.size w1 w2) : BExt X w2 := .of (h.2.trans (hb.mono h.2.size))
theorem cellAt {N b i : Nat} {w w' : World} (h : Below N w w') (hb : b < N) : w'.cell? ⟨b, i, none⟩ = w.cell? ⟨b, i, none⟩ := h.cell (p := ⟨b, i, none⟩) hb
theorem quo4 (a : Int) (h1 : -9223372036854775808 ≤ a) (h2 : a ≤ 9223372036854775807) : -2305843009213693952 ≤ a.tdiv 4 ∧ a.tdiv 4 ≤ 2305843009213693952 := by
  have := quo_bd a 4 (by omega)
  omega
set_option maxRecDepth 100000 in
set_option maxHeartbeats 4000000 in
theorem walk (a0 : Int) (w0 : (Lit.int .i64 a0).wf = true) (a1 : Int) (w1 : (Lit.int .i64 a1).wf = true) (a2 : Int) (w2 : (Lit.int .i64 a2).wf = true) (a3a a3b : Int) (w3a : (Lit.int .i64 a3a).wf = true) (w3b : (Lit.int .u64 a3b).wf = true)
    (a4a a4b : Int) (w4a : (Lit.int .i64 a4a).wf = true) (w4b : (Lit.int .u64 a4b).wf = true) (w : World) :
    Calls Try.prog 7 #[.int .i64 a0, .int .i64 a1, .int .i64 a2, .agg #[.int .i64 a3a, .int .u64 a3b], .agg #[.int .i64 a4a, .int .u64 a4b]] w fun e w' => e = .returned (.bool true) ∧ Below w.heap.size w w' := by
  obtain ⟨b01, b02⟩ := wf_i64 w0
  obtain ⟨b11, b12⟩ := wf_i64 w1
  obtain ⟨b21, b22⟩ := wf_i64 w2
  obtain ⟨b31, b32⟩ := wf_i64 w3a
  obtain ⟨b33, b34⟩ := wf_u64 w3b
  obtain ⟨b41, b42⟩ := wf_i64 w4a
  obtain ⟨b43, b44⟩ := wf_u64 w4b
  obtain ⟨q01, q02⟩ := quo4 a0 b01 b02
  obtain ⟨q11, q12⟩ := quo4 a1 b11 b12
  obtain ⟨q21, q22⟩ := quo4 a2 b21 b22
  obtain ⟨q31, q32⟩ := quo4 a3a b31 b32
  obtain ⟨q41, q42⟩ := quo4 a4a b41 b42
  clear w0 w1 w2 w3a w3b w4a w4b
  go_enter Try.func7, Try.ntmps7
  go_wp2_with fail
  generalize hW : World.alloc (World.alloc w _) _ = W
  have fx : W.heap[w.heap.size]? = some (.cells #[.int .i64 a3a, .int .u64 a3b] 27 (0, 0)) := by subst hW; exact heap_alloc2_old w _ _
  have fy : W.heap[w.heap.size + 1]? = some (.cells #[.int .i64 a4a, .int .u64 a4b] 27 (0, 0)) := by subst hW; exact heap_alloc2_new w _ _
  have zW : w.heap.size + 1 < W.heap.size := by subst hW; simp
  have hB : Below w.heap.size w W := by subst hW; exact ((Below.refl _ _).alloc (Nat.le_refl _) _).alloc (by simp) _
  clear hW
  refine (awake_any _).mono ?_
  rintro e w1 ⟨rfl, hb⟩
  have fx := (hb.block _ (by omega)).trans fx
  have fy := (hb.block _ (by omega)).trans fy
  have zW := Nat.lt_of_lt_of_le zW hb.size
  have hB := hB.trans (hb.mono (by omega))
  clear hb
  go_wp2_with fail
  generalize a0.tdiv 4 = a at *
  generalize a1.tdiv 4 = b at *
  generalize a2.tdiv 4 = d at *
  clear b01 b02 b11 b12 b21 b22
  have hP := bil_bd (k := 2305843009213693952) (by omega) q01 q02 q11 q12
  have hQ := bil_bd (k := 2305843009213693952) (by omega) q01 q02 q21 q22
  have HS := Lib.hid (show a * (b + d) = a * b + a * d from Int.mul_add a b d)
  have HC := Lib.hid (show b * a = a * b from Int.mul_comm b a)
  refine (wmul_any a b _ (by omega) (by omega) (by omega) (by omega)).mono ?_
  rintro e w2 ⟨rfl, hb⟩
  have fx := (hb.block _ (by omega)).trans fx
  have fy := (hb.block _ (by omega)).trans fy
  have zW := Nat.lt_of_lt_of_le zW hb.size
  have hB := hB.trans (hb.mono (by omega))
  clear hb
  go_wp2_with fail
  refine (wmul_any a d _ (by omega) (by omega) (by omega) (by omega)).mono ?_
  rintro e w3 ⟨rfl, hb⟩
  have fx := (hb.block _ (by omega)).trans fx
  have fy := (hb.block _ (by omega)).trans fy
  have zW := Nat.lt_of_lt_of_le zW hb.size
  have hB := hB.trans (hb.mono (by omega))
  clear hb
  go_wp2_with fail
  refine (wadd_made _ _ (a * b) (a * d) _ rfl ⟨by omega, by omega⟩ ⟨by omega, by omega⟩ ⟨by omega, by omega⟩).mono ?_
  rintro e w4 ⟨rfl, hb⟩
  have fx := (hb.block _ (by omega)).trans fx
  have fy := (hb.block _ (by omega)).trans fy
  have zW := Nat.lt_of_lt_of_le zW hb.size
  have hB := hB.trans (hb.mono (by omega))
  clear hb
  go_wp2_with fail
  have hSb : -(10633823966279326983230456482242756608 : Int) ≤ a * b + a * d ∧ a * b + a * d ≤ 10633823966279326983230456482242756608 := by omega
  generalize hSe : a * b + a * d = S at *
  have HSe := Lib.hid hSe
  clear hSe
  generalize hPe : a * b = P at *
  have HPe := Lib.hid hPe
  clear hPe
  generalize hX : World.alloc w4 _ = X
  obtain ⟨s0, s1⟩ : X.cell? ⟨w4.heap.size, 0, none⟩ = some (.int .i64 (wh S)) ∧ X.cell? ⟨w4.heap.size, 1, none⟩ = some (.int .u64 (wl S)) := by subst hX; exact box_at rfl
  have fx := alloc_old fx (.cells #[.int .i64 (wh S), .int .u64 (wl S)] 27)
  have fy := alloc_old fy (.cells #[.int .i64 (wh S), .int .u64 (wl S)] 27)
  rw [hX] at fx fy
  have zX : w.heap.size + 1 < X.heap.size := by subst hX; simp; omega
  have zs : w4.heap.size < X.heap.size := by subst hX; simp
  have hwX : w.heap.size ≤ X.heap.size := by omega
  have hB : Below w.heap.size w X := by subst hX; exact hB.alloc (by omega) _
  clear hX
  have HW := Lib.hid (i64_id (b + d) (by omega) (by omega))
  go_region_held3 (fun w' => BExt X w')
    ((show BExt X _; first | (with_reducible exact BExt.start X) | (with_reducible exact hJ)))
    (first
      | (go_at_call 26; ((first | (with_reducible refine (wmul_to a (IntKind.i64.wrap (b + d)) (b + d) S _ (by omega) (by omega) (by omega) (by omega) HW.out HS.out).mono ?_) | (with_reducible refine (wmul_at a b P _ (by omega) (by omega) (by omega) (by omega) HPe.out).mono ?_) | (with_reducible refine (wmul_at b a P _ (by omega) (by omega) (by omega) (by omega) HC.out).mono ?_)); rintro e w' ⟨rfl, hb⟩; have hJ := BExt.call (by assumption) hb)))
  rename_i hI
  have hb := hI.2
  clear hI
  generalize hw5 : w' = w5 at *
  clear hw5
  have fx := (hb.block _ (by omega)).trans fx
  have fy := (hb.block _ (by omega)).trans fy
  have s0 := (cellAt (b := w4.heap.size) hb zs).trans s0
  have s1 := (cellAt (b := w4.heap.size) hb zs).trans s1
  have zX := Nat.lt_of_lt_of_le zX hb.size
  have zs := Nat.lt_of_lt_of_le zs hb.size
  have hB := hB.trans (hb.mono hwX)
  clear hb
  have fx0 : w5.cell? ⟨w.heap.size, 0, none⟩ = some (.int .i64 a3a) := by rw [cell_of_row _ _ _ _ _ _ fx]; rfl
  have fx1 : w5.cell? ⟨w.heap.size, 1, none⟩ = some (.int .u64 a3b) := by rw [cell_of_row _ _ _ _ _ _ fx]; rfl
  have fy0 : w5.cell? ⟨w.heap.size + 1, 0, none⟩ = some (.int .i64 a4a) := by rw [cell_of_row _ _ _ _ _ _ fy]; rfl
  have fy1 : w5.cell? ⟨w.heap.size + 1, 1, none⟩ = some (.int .u64 a4b) := by rw [cell_of_row _ _ _ _ _ _ fy]; rfl
  have gx0 : w5.frozen? ⟨w.heap.size, 0, none⟩ = false := by unfold World.frozen?; rw [fx]; rfl
  have gy0 : w5.frozen? ⟨w.heap.size + 1, 0, none⟩ = false := by unfold World.frozen?; rw [fy]; rfl
  have fs : w.heap.size + 1 < w4.heap.size := by omega
  go_upto_region 8 with (fail)
  generalize hY : World.setCell w5 _ _ = Y
  have hB : Below w.heap.size w Y := by subst hY; exact hB.setCell (Nat.le_refl _) _
  have zY : w4.heap.size < Y.heap.size := by subst hY; rw [size_set]; exact zs
  have x0 : Y.cell? ⟨w.heap.size, 0, none⟩ = some (.int .i64 (a3a.tdiv 4)) := by subst hY; exact set_cell_same fx0 _
  have x1 : Y.cell? ⟨w.heap.size, 1, none⟩ = some (.int .u64 a3b) := by subst hY; exact (set_cell_other (.inr (by omega)) _).trans fx1
  have y0 : Y.cell? ⟨w.heap.size + 1, 0, none⟩ = some (.int .i64 a4a) := by subst hY; exact (set_cell_other (.inl (by omega)) _).trans fy0
  have y1 : Y.cell? ⟨w.heap.size + 1, 1, none⟩ = some (.int .u64 a4b) := by subst hY; exact (set_cell_other (.inl (by omega)) _).trans fy1
  have g0 : Y.frozen? ⟨w.heap.size + 1, 0, none⟩ = false := by subst hY; exact (set_frozen _ _ _ _ _ _).trans gy0
  have s0 : Y.cell? ⟨w4.heap.size, 0, none⟩ = some (.int .i64 (wh S)) := by subst hY; exact (set_cell_other (.inl (by omega)) _).trans s0
  have s1 : Y.cell? ⟨w4.heap.size, 1, none⟩ = some (.int .u64 (wl S)) := by subst hY; exact (set_cell_other (.inl (by omega)) _).trans s1
  clear hY fx fy fx0 fx1 fy0 fy1 gx0 gy0 zX zs
  go_upto_region 9 with (fail)
  generalize hZ : World.setCell Y _ _ = Z
  have hB : Below w.heap.size w Z := by subst hZ; exact hB.setCell (Nat.le_add_right _ _) _
  have zZ : w4.heap.size < Z.heap.size := by subst hZ; rw [size_set]; exact zY
  have y0 : Z.cell? ⟨w.heap.size + 1, 0, none⟩ = some (.int .i64 (a4a.tdiv 4)) := by subst hZ; exact set_cell_same y0 _
  have y1 : Z.cell? ⟨w.heap.size + 1, 1, none⟩ = some (.int .u64 a4b) := by subst hZ; exact (set_cell_other (.inr (by omega)) _).trans y1
  have x0 : Z.cell? ⟨w.heap.size, 0, none⟩ = some (.int .i64 (a3a.tdiv 4)) := by subst hZ; exact (set_cell_other (.inl (by omega)) _).trans x0
  have x1 : Z.cell? ⟨w.heap.size, 1, none⟩ = some (.int .u64 a3b) := by subst hZ; exact (set_cell_other (.inl (by omega)) _).trans x1
  have s0 : Z.cell? ⟨w4.heap.size, 0, none⟩ = some (.int .i64 (wh S)) := by subst hZ; exact (set_cell_other (.inl (by omega)) _).trans s0
  have s1 : Z.cell? ⟨w4.heap.size, 1, none⟩ = some (.int .u64 (wl S)) := by subst hZ; exact (set_cell_other (.inl (by omega)) _).trans s1
  clear hZ g0 zY
  generalize a3a.tdiv 4 = x3 at *
  generalize a4a.tdiv 4 = y3 at *
  obtain ⟨vx, hx1, hx2, hxI⟩ : ∃ v, x3 = wh v ∧ a3b = wl v ∧ -85070591730234615865843651857942052864 ≤ v ∧ v ≤ 85070591730234615865843651857942052864 := ⟨x3 * 18446744073709551616 + a3b, by unfold wh; omega, by unfold wl; omega, by omega, by omega⟩
  obtain ⟨vy, hy1, hy2, hyI⟩ : ∃ v, y3 = wh v ∧ a4b = wl v ∧ -85070591730234615865843651857942052864 ≤ v ∧ v ≤ 85070591730234615865843651857942052864 := ⟨y3 * 18446744073709551616 + a4b, by unfold wh; omega, by unfold wl; omega, by omega, by omega⟩
  subst hx1 hx2 hy1 hy2
  go_wp2_with fail
  refine (wadd_made _ _ vx S _ rfl ⟨by omega, by omega⟩ ⟨by omega, by omega⟩ ⟨by omega, by omega⟩).mono ?_
  rintro e w6 ⟨rfl, hb⟩
  have hB := hB.trans (hb.mono hB.size)
  have x0 := (cellAt (b := w.heap.size) hb (by omega)).trans x0
  have x1 := (cellAt (b := w.heap.size) hb (by omega)).trans x1
  have y0 := (cellAt (b := w.heap.size + 1) hb (by omega)).trans y0
  have y1 := (cellAt (b := w.heap.size + 1) hb (by omega)).trans y1
  have s0 := (cellAt (b := w4.heap.size) hb zZ).trans s0
  have s1 := (cellAt (b := w4.heap.size) hb zZ).trans s1
  have z6 := Nat.lt_of_lt_of_le zZ hb.size
  clear hb zZ
  go_upto_region 10 with (fail)
  generalize hY : World.alloc w6 _ = Y
  obtain ⟨p0, p1⟩ : Y.cell? ⟨w6.heap.size, 0, none⟩ = some (.int .i64 (wh (vx + S))) ∧ Y.cell? ⟨w6.heap.size, 1, none⟩ = some (.int .u64 (wl (vx + S))) := by subst hY; exact box_at rfl
  have bY : Below w6.heap.size w6 Y := by subst hY; exact (Below.refl _ _).alloc (Nat.le_refl _) _
  have zY : w6.heap.size < Y.heap.size := by subst hY; simp
  have hB := hB.trans (bY.mono hB.size)
  have x0 := (cellAt (b := w.heap.size) bY (by omega)).trans x0
  have x1 := (cellAt (b := w.heap.size) bY (by omega)).trans x1
  have y0 := (cellAt (b := w.heap.size + 1) bY (by omega)).trans y0
  have y1 := (cellAt (b := w.heap.size + 1) bY (by omega)).trans y1
  have s0 := (cellAt (b := w4.heap.size) bY z6).trans s0
  have s1 := (cellAt (b := w4.heap.size) bY z6).trans s1
  clear hY bY
  go_wp2_with fail
  refine (wadd_made _ _ vy S _ rfl ⟨by omega, by omega⟩ ⟨by omega, by omega⟩ ⟨by omega, by omega⟩).mono ?_
  rintro e w7 ⟨rfl, hb⟩
  have hB := hB.trans (hb.mono hB.size)
  have x0 := (cellAt (b := w.heap.size) hb (by omega)).trans x0
  have x1 := (cellAt (b := w.heap.size) hb (by omega)).trans x1
  have y0 := (cellAt (b := w.heap.size + 1) hb (by omega)).trans y0
  have y1 := (cellAt (b := w.heap.size + 1) hb (by omega)).trans y1
  have p0 := (cellAt (b := w6.heap.size) hb zY).trans p0
  have p1 := (cellAt (b := w6.heap.size) hb zY).trans p1
  have z7 := Nat.lt_of_lt_of_le zY hb.size
  clear hb zY s0 s1
  go_upto_region 11 with (fail)
  generalize hV : World.alloc w7 _ = V
  obtain ⟨q0, q1⟩ : V.cell? ⟨w7.heap.size, 0, none⟩ = some (.int .i64 (wh (vy + S))) ∧ V.cell? ⟨w7.heap.size, 1, none⟩ = some (.int .u64 (wl (vy + S))) := by subst hV; exact box_at rfl
  have bV : Below w7.heap.size w7 V := by subst hV; exact (Below.refl _ _).alloc (Nat.le_refl _) _
  have zV : w7.heap.size < V.heap.size := by subst hV; simp
  have hB := hB.trans (bV.mono hB.size)
  have x0 := (cellAt (b := w.heap.size) bV (by omega)).trans x0
  have x1 := (cellAt (b := w.heap.size) bV (by omega)).trans x1
  have y0 := (cellAt (b := w.heap.size + 1) bV (by omega)).trans y0
  have y1 := (cellAt (b := w.heap.size + 1) bV (by omega)).trans y1
  have p0 := (cellAt (b := w6.heap.size) bV z7).trans p0
  have p1 := (cellAt (b := w6.heap.size) bV z7).trans p1
  have zx : w.heap.size + 1 < V.heap.size := by omega
  have zx' : w.heap.size < V.heap.size := by omega
  have zp : w6.heap.size < V.heap.size := by omega
  clear hV bV z7
  have c1 := (cmp_bd vx vy).1
  have c2 := (cmp_bd vx vy).2
  have E1 := Lib.hid (show cmpI (vx + S) (vy + S) = cmpI vx vy by unfold cmpI; repeat split <;> omega)
  have E2 := Lib.hid (show cmpI vy vx = -cmpI vx vy by unfold cmpI; repeat split <;> omega)
  have t1 : IntKind.i64.wrap (cmpI vx vy) = cmpI vx vy := i64_id _ (by omega) (by omega)
  have t2 : IntKind.i64.wrap (-(-cmpI vx vy)) = cmpI vx vy := by rw [Int.neg_neg]; exact t1
  have hvI : InW vx := ⟨by omega, by omega⟩
  have hvB := B8_in hvI
  have hvS : vx.natAbs + vx.natAbs < B8 := by rw [B8_val]; omega
  generalize hce : cmpI vx vy = c at *
  have Hce := Lib.hid hce
  clear hce
  go_region_held3 (fun w' => BExt V w')
    ((show BExt V _; first | (with_reducible exact BExt.start V) | (with_reducible exact hJ)))
    (first
      | (go_at_call 32; ((first | (with_reducible refine (wcmp_is vx vy c _ Hce.out).mono ?_) | (with_reducible refine (wcmp_is (vx + S) (vy + S) c _ E1.out).mono ?_) | (with_reducible refine (wcmp_is vy vx (-c) _ E2.out).mono ?_)); rintro e w' ⟨rfl, hb⟩; have hJ := BExt.call (by assumption) hb))
      | (go_at_call 29; refine (big_any vx _ hvI).mono ?_; rintro e w' ⟨rfl, hb⟩; have hJ := BExt.call (by assumption) hb)
      | (go_at_call 24; refine (same_any vx vx true _ hvI hvB hvS (decide_eq_true rfl)).mono ?_; rintro e w' ⟨rfl, hb⟩; have hJ := BExt.call (by assumption) hb))
  all_goals
    rename_i hI
    have hb := hI.2
    clear hI
    have hB := hB.trans (hb.mono hB.size)
    go_wp2_with fail
    go_ret
    exact ⟨rfl, hB⟩
end Go.Proofs.Ytfofhambacmpbaa.wideRing
