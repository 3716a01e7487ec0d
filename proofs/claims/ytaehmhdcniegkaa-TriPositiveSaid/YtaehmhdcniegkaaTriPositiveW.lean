/- The walk of TriPositive. -/
import Derived.Test.YtaehmhdcniegkaaTriAw
import Derived.Test.YtaehmhdcniegkaaTriP
namespace Go.Proofs.Ytaehmhdcniegkaa.triPositive
open Go.RowKit
theorem awake_any (w : World) : Calls Try.prog 14 #[] w fun e w' => e = .returned (.bool true) ∧ Below w.heap.size w w' :=
  SX.closed_true SX.namesOk SX.mixed SX.sumsTr_ok _ _ SX.aw9_ran w
abbrev Good (f : Nat → Int) (i j : Int) (w : World) : Prop :=
  Calls Try.prog 5 #[.agg (rowA 300 f), .int .i64 i, .int .i64 j] w fun e w' => e = .returned (.bool true) ∧ Below w.heap.size w w'
set_option maxRecDepth 10000 in
set_option maxHeartbeats 4000000 in
theorem walk_out (f : Nat → Int) (i j : Int) (w : World) (h : goodB f = false ∨ i < 0 ∨ 23 < i ∨ j < 0 ∨ 23 < j) : Good f i j w := by
  have hc : (goodB f = false) ∨ (goodB f = true ∧ i < 0) ∨ (goodB f = true ∧ ¬ i < 0 ∧ 23 < i) ∨ (goodB f = true ∧ ¬ i < 0 ∧ ¬ 23 < i ∧ j < 0) ∨ (goodB f = true ∧ ¬ i < 0 ∧ ¬ 23 < i ∧ ¬ j < 0 ∧ 23 < j) := by
    cases hg : goodB f
    · exact .inl rfl
    · rw [hg] at h
      simp only [Bool.true_eq_false, false_or] at h
      simp only [true_and, Bool.true_eq_false, false_or]
      omega
  clear h
  unfold Good
  rcases hc with h1 | ⟨h1, h2⟩ | ⟨h1, h2, h3⟩ | ⟨h1, h2, h3, h4⟩ | ⟨h1, h2, h3, h4, h5⟩
  all_goals
    have HG := Lib.hid (good_any f)
    rw [h1] at HG
    clear h1
    go_enter Try.func5, Try.ntmps5
    go_wp2_with fail
    generalize hW : World.alloc w _ = W
    have hb : Below w.heap.size w W := by subst hW; exact (Below.refl _ _).alloc (Nat.le_refl _) _
    have hB : Blk W w.heap.size (rowA 300 f) 29 := by subst hW; exact Blk.made _ _ _ rfl
    clear hW
    refine (awake_any W).mono ?_
    rintro e w1 ⟨rfl, hb1⟩
    have hB1 := hB.call hb1
    have hb2 := hb.trans (hb1.mono hb.size)
    clear hB hb hb1
    go_wp2_with ((with_reducible refine row_load 29 (.tmp 3) ?_ ?_ w.heap.size 300 f 29 ?_ hB1 _ Try.underlying29 ?_ covSize ?_); rfl; rfl; rfl; rfl)
    refine (HG.out _).mono ?_
    rintro e w2 ⟨rfl, hb3⟩
    have hb4 := hb2.trans (hb3.mono hb2.size)
    clear hb2 hb3
    go_wp2_with fail
    go_ret
    exact ⟨rfl, hb4⟩
set_option maxRecDepth 10000 in
set_option maxHeartbeats 8000000 in
theorem walk_in (f : Nat → Int) (i j : Int) (w : World) (hg : goodB f = true) (hi : 0 ≤ i ∧ i < 24) (hj : 0 ≤ j ∧ j < 24) : Good f i j w := by
  have HG := Lib.hid (good_any f)
  rw [hg] at HG
  have hnn := at_nn hg i
  have HD := Lib.hid (fun k (hk : k < 24) => good_D hg hk)
  have HT := Lib.hid (fun h : Small f => two_states h hi hj)
  have HS1 := Lib.hid (fun h : Small f => at_small h hi hi)
  have HS2 := Lib.hid (fun h : Small f => at_small h hi hj)
  have HS3 := Lib.hid (fun h : Small f => at_small h hj hi)
  have HS4 := Lib.hid (fun h : Small f => at_small h hj hj)
  obtain ⟨i0, i1⟩ := hi
  obtain ⟨j0, j1⟩ := hj
  have i2 : ¬ i < 0 := by omega
  have i3 : ¬ 23 < i := by omega
  have j2 : ¬ j < 0 := by omega
  have j3 : ¬ 23 < j := by omega
  have hnn' : ¬ atV f i i < 0 := by omega
  clear hg i0 i1 j0 j1 hnn
  unfold Good
  go_enter Try.func5, Try.ntmps5
  go_wp2_with fail
  generalize hW : World.alloc w _ = W
  have hb : Below w.heap.size w W := by subst hW; exact (Below.refl _ _).alloc (Nat.le_refl _) _
  have hB : Blk W w.heap.size (rowA 300 f) 29 := by subst hW; exact Blk.made _ _ _ rfl
  clear hW
  refine (awake_any W).mono ?_
  rintro e w1 ⟨rfl, hb1⟩
  have hB1 := hB.call hb1
  have hb2 := hb.trans (hb1.mono hb.size)
  clear hB hb hb1
  go_wp2_with ((with_reducible refine row_load 29 (.tmp 3) ?_ ?_ w.heap.size 300 f 29 ?_ hB1 _ Try.underlying29 ?_ covSize ?_); rfl; rfl; rfl; rfl)
  refine (HG.out _).mono ?_
  rintro e w2 ⟨rfl, hb3⟩
  have hB2 := (hB1.call hb3).alloc (.cells #[.bool false] 25)
  have hb4 := (hb2.trans (hb3.mono hb2.size)).alloc (Nat.le_trans hb2.size hb3.size) (.cells #[.bool false] 25)
  have fl := Fl.made w2 25 false
  have hq : w.heap.size ≤ w2.heap.size := Nat.le_trans hb2.size hb3.size
  have hne : w.heap.size ≠ w2.heap.size := by have := (hB1.call hb3).lt; omega
  have H := Lib.hid (And.intro hB2 (And.intro hb4 fl))
  clear hB1 hb2 hb3 hB2 hb4 fl
  go_upto_region 6 with (fail)
  obtain ⟨hB2, hb4, fl⟩ := H.out
  clear H
  generalize hW2 : World.alloc w2 _ = W2 at *
  generalize w2.heap.size = q at *
  clear hW2
  go_wp2_with ((with_reducible refine row_load 29 (.tmp 3) ?_ ?_ w.heap.size 300 f 29 ?_ hB2 _ Try.underlying29 ?_ covSize ?_); rfl; rfl; rfl; rfl)
  refine (at_any q 0 f i i false W2 fl).mono ?_
  rintro e w3 ⟨rfl, k3⟩
  have hB3 := hB2.flag hne k3
  have hb5 := hb4.trans (k3.below hb4.size hq)
  have fl3 := k3.fl fl
  rw [Bool.false_or] at fl3
  clear hB2 hb4 fl k3
  have HA := Lib.hid (show atV f i i = atV f i i from rfl)
  generalize hAv : atV f i i = a at *
  have HAV := Lib.hid hAv
  clear hAv HA
  generalize hGv : atH f i i = G at *
  have HGV := Lib.hid hGv
  clear hGv
  go_wp2_with fail
  go_loopw [9] (fun n wr => ∃ k : Nat, k ≤ 276 ∧ n = .int .i64 k ∧ Blk wr w.heap.size (rowA 300 f) 29 ∧ Fl q 0 G wr ∧ Below w.heap.size w wr ∧ Hid (∀ m, m < k → -8589934592 ≤ f m ∧ f m ≤ 8589934592)) (fun n _ => 276 - (intOf n).toNat)
  case atStart => exact ⟨0, by omega, rfl, hB3, fl3, hb5, Lib.hid (fun m hm => by omega)⟩
  case round =>
    obtain ⟨k, hk, rfl, hB, fl, hb, HM⟩ := hrel
    by_cases hlt : k < 276
    · have hltI : (k : Int) < 276 := by omega
      have hk0 : (0 : Int) ≤ (k : Int) := by omega
      have hc := hB.cell k
      rw [rowA_get _ (by omega)] at hc
      generalize hv : f k = v at *
      have HV := Lib.hid hv
      clear hv
      by_cases h1 : v < -8589934592
      · go_wp2_with fail
        go_ret
        exact ⟨rfl, hb⟩
      · by_cases h2 : 8589934592 < v
        · go_wp2_with fail
          go_ret
          exact ⟨rfl, hb⟩
        · go_wp2_with fail
          go_roundw
          case rel =>
            refine ⟨k + 1, by omega, by go_num, hB, fl, hb, Lib.hid (fun m hm => ?_)⟩
            by_cases e : m = k
            · subst e; rw [HV.out]; omega
            · exact HM.out m (by omega)
          case measure => simp [intOf]; omega
    · obtain rfl : k = 276 := by omega
      clear hlt hk
      rw [show ((276 : Nat) : Int) = 276 from rfl]
      go_wp2_with fail
      go_loopw [10] (fun n wr => ∃ k : Nat, k ≤ 24 ∧ n = .int .i64 k ∧ Blk wr w.heap.size (rowA 300 f) 29 ∧ Fl q 0 G wr ∧ Below w.heap.size w wr ∧ Hid (∀ m, m < k → f (276 + m) ≤ 17592186044416)) (fun n _ => 24 - (intOf n).toNat)
      case atStart => exact ⟨0, by omega, rfl, hB, fl, hb, Lib.hid (fun m hm => by omega)⟩
      case round =>
        obtain ⟨k, hk, rfl, hB, fl, hb, HN⟩ := hrel
        by_cases hlt : k < 24
        · have hltI : (k : Int) < 24 := by omega
          have hk0 : (0 : Int) ≤ (k : Int) := by omega
          have hc := hB.cell (276 + k)
          rw [rowA_get _ (by omega)] at hc
          generalize hv : f (276 + k) = v at *
          have HV := Lib.hid hv
          clear hv
          by_cases h2 : 17592186044416 < v
          · go_wp2_with fail
            go_ret
            exact ⟨rfl, hb⟩
          · go_wp2_with fail
            go_roundw
            case rel =>
              refine ⟨k + 1, by omega, by go_num, hB, fl, hb, Lib.hid (fun m hm => ?_)⟩
              by_cases e : m = k
              · subst e; rw [HV.out]; omega
              · exact HN.out m (by omega)
            case measure => simp [intOf]; omega
        · obtain rfl : k = 24 := by omega
          clear hlt hk
          rw [show ((24 : Nat) : Int) = 24 from rfl]
          have hS : Small f := ⟨fun k hk => HM.out k hk, fun k hk => ⟨(HD.out k hk).1, HN.out k hk⟩⟩
          obtain ⟨s1, _, _, s2, s3⟩ := HS1.out hS
          obtain ⟨s4, _, _, s5, s6⟩ := HS2.out hS
          obtain ⟨s7, _, _, s8, s9⟩ := HS3.out hS
          obtain ⟨t1, _, _, t2, t3⟩ := HS4.out hS
          obtain ⟨u1, u2, u3⟩ := HT.out hS
          subst s1
          have HX := Lib.hid (And.intro s4 (And.intro s7 t1))
          clear s4 s7 t1 HM HN HS1 HS2 HS3 HS4 HT HD hS HGV
          go_wp2_with ((with_reducible refine row_load 29 (.tmp 3) ?_ ?_ w.heap.size 300 f 29 ?_ hB _ Try.underlying29 ?_ covSize ?_); rfl; rfl; rfl; rfl)
          refine (at_any q 0 f i j false _ fl).mono ?_
          rintro e w4 ⟨rfl, k4⟩
          rw [HX.out.1, Bool.or_false] at k4
          have hB4 := hB.flag hne k4
          have hb6 := hb.trans (k4.below hb.size hq)
          have fl4 := k4.fl fl
          clear hB hb fl k4
          go_wp2_with ((with_reducible refine row_load 29 (.tmp 3) ?_ ?_ w.heap.size 300 f 29 ?_ hB4 _ Try.underlying29 ?_ covSize ?_); rfl; rfl; rfl; rfl)
          refine (at_any q 0 f j i false _ fl4).mono ?_
          rintro e w5 ⟨rfl, k5⟩
          rw [HX.out.2.1, Bool.or_false] at k5
          have hB5 := hB4.flag hne k5
          have hb7 := hb6.trans (k5.below hb6.size hq)
          have fl5 := k5.fl fl4
          clear hB4 hb6 fl4 k5
          go_wp2_with ((with_reducible refine row_load 29 (.tmp 3) ?_ ?_ w.heap.size 300 f 29 ?_ hB5 _ Try.underlying29 ?_ covSize ?_); rfl; rfl; rfl; rfl)
          refine (at_any q 0 f j j false _ fl5).mono ?_
          rintro e w6 ⟨rfl, k6⟩
          rw [HX.out.2.2, Bool.or_false] at k6
          have hb8 := hb7.trans (k6.below hb7.size hq)
          have fl6 := k6.fl fl5
          clear hB5 hb7 fl5 k6 HX
          have c6 := fl6.cell
          generalize atV f i j = x at *
          generalize atV f j i = y at *
          generalize atV f j j = d at *
          have e1 : IntKind.i64.wrap (x - y) = x - y := i64_id _ (by omega) (by omega)
          have ex : 0 ≤ absv x ∧ absv x ≤ 36028797018963968 := by unfold absv; (repeat' split) <;> omega
          go_wp2_with fail
          refine (abs_any x _).mono ?_
          rintro e w7 ⟨rfl, rfl⟩
          generalize absv x = z at *
          go_wp2_with fail
          go_ret
          exact ⟨rfl, hb8⟩
theorem walk (f : Nat → Int) (_ : ∀ k, -9223372036854775808 ≤ f k ∧ f k ≤ 9223372036854775807) (i : Int) (_ : -9223372036854775808 ≤ i ∧ i ≤ 9223372036854775807) (j : Int) (_ : -9223372036854775808 ≤ j ∧ j ≤ 9223372036854775807) (w : World) : Good f i j w := by
  by_cases h : goodB f = false ∨ i < 0 ∨ 23 < i ∨ j < 0 ∨ 23 < j
  · exact walk_out f i j w h
  · refine walk_in f i j w ?_ (by omega) (by omega)
    cases hg : goodB f
    · exact absurd (.inl hg) h
    · rfl
end Go.Proofs.Ytaehmhdcniegkaa.triPositive
