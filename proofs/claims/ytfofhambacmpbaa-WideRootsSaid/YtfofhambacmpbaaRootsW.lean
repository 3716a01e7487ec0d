/- Proved here: the root's square is nearest, said without the document's own root; for every input. -/
import Derived.Test.YtfofhambacmpbaaLawB
import Derived.Test.YtfofhambacmpbaaLift
import Derived.Test.YtfofhambacmpbaaFxC
import Derived.Test.YtfofhambacmpbaaMem
import Derived.Test.YtfofhambacmpbaaRefE
import Derived.Deep.DeepCutAuto
namespace Go.Proofs.Ytfofhambacmpbaa.wideRoots
open Go.RowKit
theorem pow63 (w : World) : Calls Try.prog 35 #[.int .i64 63] w fun e w' => e = .returned (Bg 9223372036854775808) ∧ Below w.heap.size w w' :=
  (pow_any 63 (by decide) w).mono fun e w' ⟨he, hb⟩ => ⟨he, hb⟩
theorem mul_is (x y z : Int) (w : World) (hx : x.natAbs < B8) (h : x.natAbs * y.natAbs < B8) (hz : x * y = z) :
    Calls Try.prog 27 #[Bg x, Bg y] w fun e w' => e = .returned (Bg z) ∧ Below w.heap.size w w' := by
  subst hz; exact mul_any x y w hx h
theorem cmp_is (x y c : Int) (w : World) (hx : x.natAbs < B8) (hy : y.natAbs < B8) (h : x.natAbs + y.natAbs < B8) (hc : cmpI x y = c) :
    Calls Try.prog 33 #[Bg x, Bg y] w fun e w' => e = .returned (.int .i64 c) ∧ Below w.heap.size w w' := by
  subst hc; exact cmp_any x y w hx hy h
theorem blk_set9 {w : World} {B : Nat} {t : TypeId} {c0 c1 c2 c3 c4 c5 c6 c7 c8 : Value} (h : Blk w B #[c0, c1, c2, c3, c4, c5, c6, c7, c8] t) (v0 v1 v2 v3 v4 v5 v6 v7 v8 : Value) :
    Blk (((((((((w.setCell ⟨B, 0, none⟩ v0).setCell ⟨B, 1, none⟩ v1).setCell ⟨B, 2, none⟩ v2).setCell ⟨B, 3, none⟩ v3).setCell ⟨B, 4, none⟩ v4).setCell ⟨B, 5, none⟩ v5).setCell ⟨B, 6, none⟩ v6).setCell ⟨B, 7, none⟩ v7).setCell ⟨B, 8, none⟩ v8) B #[v0, v1, v2, v3, v4, v5, v6, v7, v8] t :=
  by
  unfold Blk
  simp [World.setCell, Array.getElem?_modify, show w.heap[B]? = _ from h]
theorem root_sides (n : Nat) (r : Int) (hr : r = (rootN n : Nat)) : 0 ≤ r ∧ (r ≠ 0 → r * r + -r < n) ∧ (n : Int) ≤ r * r + r := by
  obtain ⟨g1, g2⟩ := isq_spec n
  have e2 : (isq n + 1) * (isq n + 1) = isq n * isq n + 2 * isq n + 1 := by grind
  have e3 : ((isq n : Int) + 1) * ((isq n : Int) + 1) = (isq n : Int) * isq n + 2 * isq n + 1 := by grind
  have e4 : ((isq n : Int) * (isq n : Int)) = ((isq n * isq n : Nat) : Int) := by simp
  unfold rootN at hr
  rw [e2] at g2
  split at hr
  · rename_i h
    have hr' : r = (isq n : Int) + 1 := by rw [hr]; simp
    subst hr'
    rw [e3, e4]
    generalize isq n * isq n = q at *
    omega
  · rename_i h
    have hr' : r = (isq n : Int) := by rw [hr]; simp
    subst hr'
    rw [e4]
    generalize isq n * isq n = q at *
    omega
set_option maxRecDepth 100000 in
set_option maxHeartbeats 4000000 in
/-- A number below 0. -/
theorem walk_neg (v : Int) (w : World) (hv : InW v) (h : v < 0) :
    Calls Try.prog 6 #[Wv v] w fun e w' => e = .returned (.bool true) ∧ Below w.heap.size w w' := by
  have t1 : wh v < 0 := (wh_neg v).2 h
  go_enter Try.func6, Try.ntmps6
  go_wp2_with fail
  generalize hW : World.alloc w _ = W
  have B0 : Blk W w.heap.size #[.int .i64 (wh v), .int .u64 (wl v)] 27 := by subst hW; exact Blk.made _ _ _ rfl
  have hB : Below w.heap.size w W := by subst hW; exact (Below.refl _ _).alloc (Nat.le_refl _) _
  clear hW
  refine (awake_any _).mono ?_
  rintro e w1 ⟨rfl, hb⟩
  have B0 := B0.call hb
  have hB := hB.trans (hb.mono hB.size)
  clear hb
  have c0 := B0.cell 0
  have c1 := B0.cell 1
  simp at c0 c1
  go_wp2_with fail
  refine (wroot_neg v _ h).mono ?_
  rintro e w2 ⟨rfl, hb⟩
  have B0 := B0.call hb
  have hB := hB.trans (hb.mono hB.size)
  clear hb c0 c1
  have c0 := B0.cell 0
  simp at c0
  go_wp2_with fail
  go_ret
  exact ⟨rfl, hB⟩
set_option maxRecDepth 100000 in
set_option maxHeartbeats 4000000 in
/-- A number whose root does not fit. -/
theorem walk_big (v : Int) (w : World) (hv : InW v) (h : 85070591730234615856620279821087277056 < v) :
    Calls Try.prog 6 #[Wv v] w fun e w' => e = .returned (.bool true) ∧ Below w.heap.size w w' := by
  have t1 : ¬ wh v < 0 := fun x => by have := (wh_neg v).1 x; omega
  have hvB := B8_in hv
  have hP : ∀ n : Nat, n ≤ 340282366920938463463374607431768211456 → n < B8 := fun n hn => by rw [B8_val]; omega
  have HP := Lib.hid hP
  clear hP
  have hc : cmpI v 85070591730234615856620279821087277056 = 1 := by unfold cmpI; rw [if_neg (by omega), if_neg (by omega)]
  have HC := Lib.hid hc
  clear hc
  have hv1 := hv.lo
  have hv2 := hv.hi
  go_enter Try.func6, Try.ntmps6
  go_wp2_with fail
  generalize hW : World.alloc w _ = W
  have B0 : Blk W w.heap.size #[.int .i64 (wh v), .int .u64 (wl v)] 27 := by subst hW; exact Blk.made _ _ _ rfl
  have hB : Below w.heap.size w W := by subst hW; exact (Below.refl _ _).alloc (Nat.le_refl _) _
  clear hW
  refine (awake_any _).mono ?_
  rintro e w1 ⟨rfl, hb⟩
  have B0 := B0.call hb
  have hB := hB.trans (hb.mono hB.size)
  clear hb
  have c0 := B0.cell 0
  have c1 := B0.cell 1
  simp at c0 c1
  go_wp2_with fail
  refine (wroot_big v _ (by omega) h).mono ?_
  rintro e w2 ⟨rfl, hb⟩
  have B0 := B0.call hb
  have hB := hB.trans (hb.mono hB.size)
  clear hb c0 c1
  have c0 := B0.cell 0
  have c1 := B0.cell 1
  simp at c0 c1
  go_wp2_with fail
  refine (big_any v _ hv).mono ?_
  rintro e w3 ⟨rfl, hb⟩
  have hB := hB.trans (hb.mono hB.size)
  clear hb c0 c1 B0
  go_wp2_with fail
  refine (pow63 _).mono ?_
  rintro e w4 ⟨rfl, hb⟩
  have hB := hB.trans (hb.mono hB.size)
  clear hb
  go_wp2_with fail
  refine (pow63 _).mono ?_
  rintro e w5 ⟨rfl, hb⟩
  have hB := hB.trans (hb.mono hB.size)
  clear hb
  go_wp2_with fail
  refine (of_any (-1) _ (by decide) (by decide)).mono ?_
  rintro e w6 ⟨rfl, hb⟩
  have hB := hB.trans (hb.mono hB.size)
  clear hb
  go_wp2_with fail
  refine (add_any 9223372036854775808 (-1) _ (HP.out _ (by decide)) (HP.out _ (by decide)) (HP.out _ (by decide))).mono ?_
  rintro e w7 ⟨rfl, hb⟩
  have hB := hB.trans (hb.mono hB.size)
  clear hb
  rw [show (9223372036854775808 : Int) + -1 = 9223372036854775807 from by decide]
  go_wp2_with fail
  refine (mul_any 9223372036854775808 9223372036854775807 _ (HP.out _ (by decide)) (HP.out _ (by decide))).mono ?_
  rintro e w8 ⟨rfl, hb⟩
  have hB := hB.trans (hb.mono hB.size)
  clear hb
  rw [show (9223372036854775808 : Int) * 9223372036854775807 = 85070591730234615856620279821087277056 from by decide]
  go_wp2_with fail
  refine (cmp_any v 85070591730234615856620279821087277056 _ hvB (HP.out _ (by decide)) (HP.out _ (by omega))).mono ?_
  rintro e w9 ⟨rfl, hb⟩
  have hB := hB.trans (hb.mono hB.size)
  clear hb
  rw [HC.out]
  go_wp2_with fail
  go_ret
  exact ⟨rfl, hB⟩
set_option maxRecDepth 100000 in
set_option maxHeartbeats 4000000 in
theorem walk_yes (v : Int) (w : World) (hv : InW v) (h0 : 0 < v) (h : v ≤ 85070591730234615856620279821087277056) :
    Calls Try.prog 6 #[Wv v] w fun e w' => e = .returned (.bool true) ∧ Below w.heap.size w w' := by
  have t1 : ¬ wh v < 0 := fun x => by have := (wh_neg v).1 x; omega
  have hvB := B8_in hv
  have hP : ∀ n : Nat, n ≤ 340282366920938463463374607431768211456 → n < B8 := fun n hn => by rw [B8_val]; omega
  have HP := Lib.hid hP
  clear hP
  have hrs := root_sides v.toNat _ rfl
  have hrl : ((rootN v.toNat : Nat) : Int) ≤ 9223372036854775807 := by
    have := isq_lt v.toNat (by omega)
    unfold rootN
    split
    · have := this.2 (by assumption); omega
    · have := this.1; omega
  have hrn : ((v.toNat : Nat) : Int) = v := by omega
  rw [hrn] at hrs
  have HW := Lib.hid (wroot_any v · (by omega) h)
  generalize hre : ((rootN v.toNat : Nat) : Int) = r at *
  have Hre := Lib.hid hre
  clear hre hrn
  obtain ⟨r0, r1, r2⟩ := hrs
  have hr0 : ¬ r < 0 := by omega
  have hr : r ≠ 0 := fun x => by subst x; omega
  have hq := bilin_abs (k := 9223372036854775807) (by omega) (a := r) (b := r) (by omega) hrl (by omega) hrl
  have hq0 := Int.mul_nonneg r0 r0
  generalize hqe : r * r = q at *
  have HQ := Lib.hid hqe
  have HN := Lib.hid (show r.natAbs * r.natAbs < B8 by have e : r.natAbs * r.natAbs = q.natAbs := by { rw [← hqe, Int.natAbs_mul] }; rw [e]; exact HP.out _ (by omega))
  clear hqe
  go_enter Try.func6, Try.ntmps6
  go_wp2_with fail
  generalize hW : World.alloc w _ = W
  have B0 : Blk W w.heap.size #[.int .i64 (wh v), .int .u64 (wl v)] 27 := by subst hW; exact Blk.made _ _ _ rfl
  have hB : Below w.heap.size w W := by subst hW; exact (Below.refl _ _).alloc (Nat.le_refl _) _
  clear hW
  refine (awake_any _).mono ?_
  rintro e w1 ⟨rfl, hb⟩
  have B0 := B0.call hb
  have hB := hB.trans (hb.mono hB.size)
  clear hb
  have c0 := B0.cell 0
  have c1 := B0.cell 1
  simp at c0 c1
  go_wp2_with fail
  refine (HW.out _).mono ?_
  rintro e w2 ⟨rfl, hb⟩
  have B0 := B0.call hb
  have hB := hB.trans (hb.mono hB.size)
  clear hb c0 c1
  have c0 := B0.cell 0
  have c1 := B0.cell 1
  simp at c0 c1
  go_wp2_with fail
  refine (of_any r _ (by omega) hrl).mono ?_
  rintro e w3 ⟨rfl, hb⟩
  have B0 := B0.call hb
  have hB := hB.trans (hb.mono hB.size)
  clear hb c0 c1
  go_upto_region 11 with (fail)
  generalize hX : World.alloc w3 _ = X
  have B1 : Blk X w3.heap.size (row9 (decide (r < 0)) (dg r.natAbs)) 38 := by subst hX; exact Blk.made _ _ _ rfl
  have B0 : Blk X w.heap.size #[.int .i64 (wh v), .int .u64 (wl v)] 27 := by subst hX; exact B0.alloc _
  have hB : Below w.heap.size w X := by subst hX; exact hB.alloc hB.size _
  clear hX
  obtain ⟨a0, a1, a2, a3, a4, a5, a6, a7, a8⟩ := Has9.cells B1
  go_wp2_with fail
  have hrB : r.natAbs < B8 := HP.out _ (by omega)
  have hqB : q.natAbs < B8 := HP.out _ (by omega)
  refine (mul_is r r q _ hrB HN.out HQ.out).mono ?_
  rintro e w4 ⟨rfl, hb⟩
  have B0 := B0.call hb
  have B1 := Blk.call B1 hb
  have hB := hB.trans (hb.mono hB.size)
  clear hb a0 a1 a2 a3 a4 a5 a6 a7 a8
  go_upto_region 12 with (fail)
  generalize hX : World.alloc w4 _ = Y
  have B2 : Blk Y w4.heap.size (row9 (decide (q < 0)) (dg q.natAbs)) 38 := by subst hX; exact Blk.made _ _ _ rfl
  have B0 : Blk Y w.heap.size #[.int .i64 (wh v), .int .u64 (wl v)] 27 := by subst hX; exact B0.alloc _
  have B1 : Blk Y w3.heap.size (row9 (decide (r < 0)) (dg r.natAbs)) 38 := by subst hX; exact B1.alloc _
  have hB : Below w.heap.size w Y := by subst hX; exact hB.alloc hB.size _
  clear hX
  obtain ⟨a0, a1, a2, a3, a4, a5, a6, a7, a8⟩ := Has9.cells B1
  obtain ⟨b0, b1, b2, b3, b4, b5, b6, b7, b8⟩ := Has9.cells B2
  have l0 := B0.lt
  have l1 := B1.lt
  have l2 := B2.lt
  have hnB : (-r).natAbs < B8 := HP.out _ (by omega)
  have hsB : q.natAbs + (-r).natAbs < B8 := HP.out _ (by omega)
  go_cut [7] (fun s7 wx => ∃ g : Nat, s7 = .pointer (some ⟨g, 0, none⟩) ∧ Blk wx g (row9 (decide (q + -r < 0)) (dg (q + -r).natAbs)) 38 ∧ Below Y.heap.size Y wx)
  case first =>
    go_region_held3 (fun w' => BExt Y w')
      ((show BExt Y _; first | (with_reducible exact BExt.start Y) | (with_reducible exact hJ) | ((iterate 9 ((with_reducible refine BExt.other ?_ (by first | exact Nat.le_refl _ | exact hJ.2.size | exact hz5) _))); with_reducible exact hJ) | (with_reducible refine BExt.alloc ?_ _; with_reducible first | exact hJ | exact BExt.start Y) | (with_reducible exact BExt.drew (BExt.alloc (BExt.start0 Y) _))))
      (first
        | (go_at_call 31; refine (neg_any r _ hrB).mono ?_; rintro e w5 ⟨rfl, hb5⟩; have hJ := BExt.call (by assumption) hb5; obtain ⟨hc5, hf5⟩ := bcell hb5; have hz5 := hb5.size; (try simp at hz5); first | (have hz52 : Y.heap.size < w5.heap.size := hz5) | skip)
        | (go_at_call 28; refine (add_any q (-r) _ hqB hnB hsB).mono ?_; rintro e w6 ⟨rfl, hb6⟩; have hJ := BExt.call (by assumption) hb6; obtain ⟨hc6, hf6⟩ := bcell hb6; have hz6 := hb6.size; (try simp at hz6); first | (have hz7 : Y.heap.size < w6.heap.size := Nat.lt_of_lt_of_le hz52 hz6) | skip))
    all_goals
      rename_i hI
      have hbY := hI.2
      clear hI
      go_wp2_with fail
      go_meet
      refine ⟨_, rfl, ?_, hbY⟩
      unfold row9
      first
        | (with_reducible exact Blk.made w6 _ _ rfl)
        | (with_reducible exact blk_set9 ((Blk.made w5 _ _ rfl).call hb6) _ _ _ _ _ _ _ _ _)
        | (with_reducible exact blk_set9 (((Blk.made Y _ _ rfl).drew.call hb5).call hb6) _ _ _ _ _ _ _ _ _)
  case rest =>
    obtain ⟨g, rfl, B3, hb⟩ := hcut
    have B0 := B0.call hb
    have B1 := B1.call hb
    have B2 := B2.call hb
    have hB := hB.trans (hb.mono hB.size)
    clear hb a0 a1 a2 a3 a4 a5 a6 a7 a8 b0 b1 b2 b3 b4 b5 b6 b7 b8 l0 l1 l2
    obtain ⟨a0, a1, a2, a3, a4, a5, a6, a7, a8⟩ := Has9.cells B1
    obtain ⟨b0, b1, b2, b3, b4, b5, b6, b7, b8⟩ := Has9.cells B2
    have hsB2 : q.natAbs + r.natAbs < B8 := HP.out _ (by omega)
    go_wp2_with fail
    refine (add_any q r _ hqB hrB hsB2).mono ?_
    rintro e w7 ⟨rfl, hb⟩
    have B0 := B0.call hb
    have B3 := B3.call hb
    have hB := hB.trans (hb.mono hB.size)
    clear hb a0 a1 a2 a3 a4 a5 a6 a7 a8 b0 b1 b2 b3 b4 b5 b6 b7 b8 B1 B2
    go_upto_region 14 with (fail)
    generalize hX : World.alloc w7 _ = Z
    have B4 : Blk Z w7.heap.size (row9 (decide (q + r < 0)) (dg (q + r).natAbs)) 38 := by subst hX; exact Blk.made _ _ _ rfl
    have B0 : Blk Z w.heap.size #[.int .i64 (wh v), .int .u64 (wl v)] 27 := by subst hX; exact B0.alloc _
    have B3 : Blk Z g (row9 (decide (q + -r < 0)) (dg (q + -r).natAbs)) 38 := by subst hX; exact B3.alloc _
    have hB : Below w.heap.size w Z := by subst hX; exact hB.alloc hB.size _
    clear hX
    have c0 := B0.cell 0
    have c1 := B0.cell 1
    simp at c0 c1
    obtain ⟨a0, a1, a2, a3, a4, a5, a6, a7, a8⟩ := Has9.cells B3
    obtain ⟨b0, b1, b2, b3, b4, b5, b6, b7, b8⟩ := Has9.cells B4
    have l0 := B0.lt
    have l3 := B3.lt
    have l4 := B4.lt
    have hloB : (q + -r).natAbs < B8 := HP.out _ (by omega)
    have hhiB : (q + r).natAbs < B8 := HP.out _ (by omega)
    have hs1 : (q + -r).natAbs + v.natAbs < B8 := HP.out _ (by have := hv.lo; have := hv.hi; omega)
    have hs2 : v.natAbs + (q + r).natAbs < B8 := HP.out _ (by have := hv.lo; have := hv.hi; omega)
    have hle : cmpI v (q + r) ≤ 0 := by unfold cmpI; split <;> (try split) <;> omega
    clear B0 B3 B4
    have t2 : (r == 0) = false := beq_eq_false_iff_ne.2 hr
    have hlt : cmpI (q + -r) v < 0 := by unfold cmpI; rw [if_neg (by omega), if_pos (by omega)]; omega
    clear hr
    go_region_held3 (fun w' => BExt Z w')
      ((show BExt Z _; first | (with_reducible exact BExt.start Z) | (with_reducible exact hJ)))
      (first
        | (go_at_call 29; refine (big_any v _ hv).mono ?_; rintro e w8 ⟨rfl, hb⟩; have hJ := BExt.call (by assumption) hb)
        | (go_at_call 33; ((first | (with_reducible refine (cmp_any v (q + r) _ hvB hhiB hs2).mono ?_) | (with_reducible refine (cmp_any (q + -r) v _ hloB hvB hs1).mono ?_)); rintro e w9 ⟨rfl, hb⟩; have hJ := BExt.call (by assumption) hb)))
    all_goals
      rename_i hI
      have hb := hI.2
      clear hI
      have hB := hB.trans (hb.mono hB.size)
      go_wp2_with fail
      go_ret
      exact ⟨rfl, hB⟩
abbrev Z9 : Value := .agg #[.bool false, .int .u64 0, .int .u64 0, .int .u64 0, .int .u64 0, .int .u64 0, .int .u64 0, .int .u64 0, .int .u64 0]
theorem dg0 (j : Nat) : dg 0 j = 0 := by unfold dg; simp
theorem z9 : Bg 0 = Z9 := by
  show BgR false 0 = Z9
  simp only [BgR, Z9, dg0]
theorem b0 : (0 : Int).natAbs < B8 := by rw [B8_val]; decide
theorem of0 (w : World) : Calls Try.prog 25 #[.int .i64 0] w fun e w' => e = .returned (.agg #[.bool false, .int .u64 0, .int .u64 0, .int .u64 0, .int .u64 0, .int .u64 0, .int .u64 0, .int .u64 0, .int .u64 0]) ∧ Below w.heap.size w w' := by
  have h := of_any 0 w (by decide) (by decide)
  rw [z9] at h
  exact h
theorem mul0 (w : World) : Calls Try.prog 27 #[Z9, Z9] w fun e w' => e = .returned Z9 ∧ Below w.heap.size w w' := by
  have h := mul_is 0 0 0 w b0 b0 rfl
  rw [z9] at h
  exact h
theorem add0 (w : World) : Calls Try.prog 28 #[Z9, Z9] w fun e w' => e = .returned Z9 ∧ Below w.heap.size w w' := by
  have h := add_any 0 0 w b0 b0 b0
  rw [show (0 : Int) + 0 = 0 from rfl, z9] at h
  exact h
theorem neg0 (w : World) : Calls Try.prog 31 #[Z9] w fun e w' => e = .returned Z9 ∧ Below w.heap.size w w' := by
  have h := neg_any 0 w b0
  rw [show -(0 : Int) = 0 from rfl, z9] at h
  exact h
theorem cmp0 (w : World) : Calls Try.prog 33 #[Z9, Z9] w fun e w' => e = .returned (.int .i64 0) ∧ Below w.heap.size w w' := by
  have h := cmp_is 0 0 0 w b0 b0 b0 rfl
  rw [z9] at h
  exact h
theorem big0 (w : World) : Calls Try.prog 29 #[.agg #[.int .i64 0, .int .u64 0]] w fun e w' => e = .returned Z9 ∧ Below w.heap.size w w' := by
  have h := big_any 0 w ⟨by decide, by decide⟩
  rw [z9] at h
  exact h
theorem root0 (w : World) : Calls Try.prog 18 #[.agg #[.int .i64 0, .int .u64 0]] w fun e w' => e = .returned (.tuple #[.int .i64 0, .bool true]) ∧ Below w.heap.size w w' := by
  refine (wroot_any 0 w (by decide) (by decide)).mono fun e w' ⟨he, hb⟩ => ⟨he.trans (tupleb ?_ rfl), hb⟩
  decide
set_option maxRecDepth 100000 in
set_option maxHeartbeats 4000000 in
theorem walk_zero (w : World) :
    Calls Try.prog 6 #[Wv 0] w fun e w' => e = .returned (.bool true) ∧ Below w.heap.size w w' := by
  show Calls Try.prog 6 #[.agg #[.int .i64 0, .int .u64 0]] w _
  go_enter Try.func6, Try.ntmps6
  go_wp2_with fail
  generalize hW : World.alloc w _ = W
  have B0 : Blk W w.heap.size #[.int .i64 0, .int .u64 0] 27 := by subst hW; exact Blk.made _ _ _ rfl
  have hB : Below w.heap.size w W := by subst hW; exact (Below.refl _ _).alloc (Nat.le_refl _) _
  clear hW
  refine (awake_any _).mono ?_
  rintro e w1 ⟨rfl, hb⟩
  have B0 := B0.call hb
  have hB := hB.trans (hb.mono hB.size)
  clear hb
  have c0 := B0.cell 0
  have c1 := B0.cell 1
  simp at c0 c1
  go_wp2_with fail
  refine (root0 _).mono ?_
  rintro e w2 ⟨rfl, hb⟩
  have B0 := B0.call hb
  have hB := hB.trans (hb.mono hB.size)
  clear hb c0 c1
  have c0 := B0.cell 0
  have c1 := B0.cell 1
  simp at c0 c1
  go_wp2_with fail
  refine (of0 _).mono ?_
  rintro e w3 ⟨rfl, hb⟩
  have B0 := B0.call hb
  have hB := hB.trans (hb.mono hB.size)
  clear hb c0 c1
  go_upto_region 11 with (fail)
  generalize hX : World.alloc w3 _ = X
  have B1 : Blk X w3.heap.size #[.bool false, .int .u64 0, .int .u64 0, .int .u64 0, .int .u64 0, .int .u64 0, .int .u64 0, .int .u64 0, .int .u64 0] 38 := by subst hX; exact Blk.made _ _ _ rfl
  have B0 : Blk X w.heap.size #[.int .i64 0, .int .u64 0] 27 := by subst hX; exact B0.alloc _
  have hB : Below w.heap.size w X := by subst hX; exact hB.alloc hB.size _
  clear hX
  have a0 := B1.cell 0
  have a1 := B1.cell 1
  have a2 := B1.cell 2
  have a3 := B1.cell 3
  have a4 := B1.cell 4
  have a5 := B1.cell 5
  have a6 := B1.cell 6
  have a7 := B1.cell 7
  have a8 := B1.cell 8
  simp at a0 a1 a2 a3 a4 a5 a6 a7 a8
  go_wp2_with fail
  refine (mul0 _).mono ?_
  rintro e w4 ⟨rfl, hb⟩
  have B0 := B0.call hb
  have B1 := B1.call hb
  have hB := hB.trans (hb.mono hB.size)
  clear hb a0 a1 a2 a3 a4 a5 a6 a7 a8
  go_upto_region 12 with (fail)
  generalize hX : World.alloc w4 _ = Y
  have B2 : Blk Y w4.heap.size #[.bool false, .int .u64 0, .int .u64 0, .int .u64 0, .int .u64 0, .int .u64 0, .int .u64 0, .int .u64 0, .int .u64 0] 38 := by subst hX; exact Blk.made _ _ _ rfl
  have B0 : Blk Y w.heap.size #[.int .i64 0, .int .u64 0] 27 := by subst hX; exact B0.alloc _
  have B1 : Blk Y w3.heap.size #[.bool false, .int .u64 0, .int .u64 0, .int .u64 0, .int .u64 0, .int .u64 0, .int .u64 0, .int .u64 0, .int .u64 0] 38 := by subst hX; exact B1.alloc _
  have hB : Below w.heap.size w Y := by subst hX; exact hB.alloc hB.size _
  clear hX
  have a0 := B1.cell 0
  have a1 := B1.cell 1
  have a2 := B1.cell 2
  have a3 := B1.cell 3
  have a4 := B1.cell 4
  have a5 := B1.cell 5
  have a6 := B1.cell 6
  have a7 := B1.cell 7
  have a8 := B1.cell 8
  have b0 := B2.cell 0
  have b1 := B2.cell 1
  have b2 := B2.cell 2
  have b3 := B2.cell 3
  have b4 := B2.cell 4
  have b5 := B2.cell 5
  have b6 := B2.cell 6
  have b7 := B2.cell 7
  have b8 := B2.cell 8
  simp at a0 a1 a2 a3 a4 a5 a6 a7 a8 b0 b1 b2 b3 b4 b5 b6 b7 b8
  have l0 := B0.lt
  have l1 := B1.lt
  have l2 := B2.lt
  go_cut [7] (fun s7 wx => ∃ g : Nat, s7 = .pointer (some ⟨g, 0, none⟩) ∧ Below Y.heap.size Y wx)
  case first =>
    go_region_held3 (fun w' => BExt Y w')
      ((show BExt Y _; first | (with_reducible exact BExt.start Y) | (with_reducible exact hJ) | ((iterate 9 ((with_reducible refine BExt.other ?_ (by first | exact Nat.le_refl _ | exact hJ.2.size | exact hz5) _))); with_reducible exact hJ) | (with_reducible refine BExt.alloc ?_ _; with_reducible first | exact hJ | exact BExt.start Y) | (with_reducible exact BExt.drew (BExt.alloc (BExt.start0 Y) _))))
      (first
        | (go_at_call 31; refine (neg0 _).mono ?_; rintro e w5 ⟨rfl, hb5⟩; have hJ := BExt.call (by assumption) hb5; obtain ⟨hc5, hf5⟩ := bcell hb5; have hz5 := hb5.size; (try simp at hz5); first | (have hz52 : Y.heap.size < w5.heap.size := hz5) | skip)
        | (go_at_call 28; refine (add0 _).mono ?_; rintro e w6 ⟨rfl, hb6⟩; have hJ := BExt.call (by assumption) hb6; obtain ⟨hc6, hf6⟩ := bcell hb6; have hz6 := hb6.size; (try simp at hz6); first | (have hz7 : Y.heap.size < w6.heap.size := Nat.lt_of_lt_of_le hz52 hz6) | skip))
    all_goals
      rename_i hI
      have hbY := hI.2
      clear hI
      go_wp2_with fail
      go_meet
      exact ⟨_, rfl, hbY⟩
  case rest =>
    obtain ⟨g, rfl, hb⟩ := hcut
    have B0 := B0.call hb
    have B1 := B1.call hb
    have B2 := B2.call hb
    have hB := hB.trans (hb.mono hB.size)
    clear hb a0 a1 a2 a3 a4 a5 a6 a7 a8 b0 b1 b2 b3 b4 b5 b6 b7 b8 l0 l1 l2
    have a0 := B1.cell 0
    have a1 := B1.cell 1
    have a2 := B1.cell 2
    have a3 := B1.cell 3
    have a4 := B1.cell 4
    have a5 := B1.cell 5
    have a6 := B1.cell 6
    have a7 := B1.cell 7
    have a8 := B1.cell 8
    have b0 := B2.cell 0
    have b1 := B2.cell 1
    have b2 := B2.cell 2
    have b3 := B2.cell 3
    have b4 := B2.cell 4
    have b5 := B2.cell 5
    have b6 := B2.cell 6
    have b7 := B2.cell 7
    have b8 := B2.cell 8
    simp at a0 a1 a2 a3 a4 a5 a6 a7 a8 b0 b1 b2 b3 b4 b5 b6 b7 b8
    go_wp2_with fail
    refine (add0 _).mono ?_
    rintro e w7 ⟨rfl, hb⟩
    have B0 := B0.call hb
    have hB := hB.trans (hb.mono hB.size)
    clear hb a0 a1 a2 a3 a4 a5 a6 a7 a8 b0 b1 b2 b3 b4 b5 b6 b7 b8 B1 B2
    go_upto_region 14 with (fail)
    generalize hX : World.alloc w7 _ = Z
    have B4 : Blk Z w7.heap.size #[.bool false, .int .u64 0, .int .u64 0, .int .u64 0, .int .u64 0, .int .u64 0, .int .u64 0, .int .u64 0, .int .u64 0] 38 := by subst hX; exact Blk.made _ _ _ rfl
    have B0 : Blk Z w.heap.size #[.int .i64 0, .int .u64 0] 27 := by subst hX; exact B0.alloc _
    have hB : Below w.heap.size w Z := by subst hX; exact hB.alloc hB.size _
    clear hX
    have c0 := B0.cell 0
    have c1 := B0.cell 1
    have b0 := B4.cell 0
    have b1 := B4.cell 1
    have b2 := B4.cell 2
    have b3 := B4.cell 3
    have b4 := B4.cell 4
    have b5 := B4.cell 5
    have b6 := B4.cell 6
    have b7 := B4.cell 7
    have b8 := B4.cell 8
    simp at c0 c1 b0 b1 b2 b3 b4 b5 b6 b7 b8
    have l0 := B0.lt
    have l4 := B4.lt
    clear B0 B4
    go_region_with (first
        | (go_at_call 29; refine (big0 _).mono ?_; rintro e w8 ⟨rfl, hb8⟩; have d0 := (cellAt (i := 0) hb8 l4).trans b0; have d1 := (cellAt (i := 1) hb8 l4).trans b1; have d2 := (cellAt (i := 2) hb8 l4).trans b2; have d3 := (cellAt (i := 3) hb8 l4).trans b3; have d4 := (cellAt (i := 4) hb8 l4).trans b4; have d5 := (cellAt (i := 5) hb8 l4).trans b5; have d6 := (cellAt (i := 6) hb8 l4).trans b6; have d7 := (cellAt (i := 7) hb8 l4).trans b7; have d8 := (cellAt (i := 8) hb8 l4).trans b8)
        | (go_at_call 33; refine (cmp0 _).mono ?_; rintro e w9 ⟨rfl, hb9⟩))
    all_goals
      have hb := hb8.trans (hb9.mono hb8.size)
      have hB := hB.trans (Below.mono (Below.undrew hb) hB.size)
      go_wp2_with fail
      go_ret
      exact ⟨rfl, hB⟩
theorem walk (a b : Int) (wa : (Lit.int .i64 a).wf = true) (wb : (Lit.int .u64 b).wf = true) (w : World) :
    Calls Try.prog 6 #[.agg #[.int .i64 a, .int .u64 b]] w fun e w' => e = .returned (.bool true) ∧ Below w.heap.size w w' := by
  obtain ⟨a1, a2⟩ := wf_i64 wa
  obtain ⟨b1, b2⟩ := wf_u64 wb
  rw [W_of a b b1 b2]
  have hI := W_in a b a1 a2 b1 b2
  generalize a * 18446744073709551616 + b = v at *
  by_cases h0 : v < 0
  · exact walk_neg v w hI h0
  by_cases hz : v = 0
  · subst hz; exact walk_zero w
  · by_cases h1 : v ≤ 85070591730234615856620279821087277056
    · exact walk_yes v w hI (by omega) h1
    · exact walk_big v w hI (by omega)
end Go.Proofs.Ytfofhambacmpbaa.wideRoots
