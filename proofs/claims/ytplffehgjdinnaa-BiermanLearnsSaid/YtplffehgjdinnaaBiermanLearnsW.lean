/- The walk of BiermanLearns. -/
import Derived.Test.YtplffehgjdinnaaBieQ
namespace Go.Proofs.Ytplffehgjdinnaa.biermanLearns
open Go.RowKit
abbrev Good (f h : Nat → Int) (r : Int) (w : World) : Prop :=
  Calls Try.prog 12 #[.agg (rowA 300 f), .agg (rowA 24 h), .int .i64 r] w fun e w' => e = .returned (.bool true) ∧ Below w.heap.size w w'
set_option maxRecDepth 10000 in
set_option maxHeartbeats 8000000 in
theorem walk (f : Nat → Int) (_ : ∀ k, -9223372036854775808 ≤ f k ∧ f k ≤ 9223372036854775807) (h : Nat → Int) (_ : ∀ k, -9223372036854775808 ≤ h k ∧ h k ≤ 9223372036854775807) (r : Int) (_ : -9223372036854775808 ≤ r ∧ r ≤ 9223372036854775807) (w : World) : Good f h r w := by
  unfold Good
  go_enter Try.func12, Try.ntmps12
  go_wp2_with fail
  generalize hW : World.alloc (World.alloc w _) _ = W0
  have hb : Below w.heap.size w W0 := by subst hW; exact ((Below.refl _ _).alloc (Nat.le_refl _) _).alloc (by simp) _
  have hP : Blk W0 w.heap.size (rowA 300 f) 79 := by subst hW; exact (Blk.made _ _ _ rfl).alloc _
  have hH : Blk W0 (w.heap.size + 1) (rowA 24 h) 100 := by subst hW; exact Blk.made _ _ _ (by simp)
  clear hW
  refine (awake11_any W0).mono ?_
  rintro e w1 ⟨rfl, hb1⟩
  replace hP := hP.call hb1
  replace hH := hH.call hb1
  replace hb := hb.trans (hb1.mono hb.size)
  clear hb1
  go_upto_region 4 with (fail)
  have hl := hH.lt
  have L0 : Lw w w1.heap.size false [(w.heap.size, 300, f, 79), (w.heap.size + 1, 24, h, 100)] (w1.alloc (.cells #[.bool false] 41)) :=
    ⟨Fl.made w1 41 false, hb.alloc hb.size _, hb.size, fun x hx => by
      simp only [List.mem_cons, List.not_mem_nil, or_false] at hx
      rcases hx with rfl | rfl
      · exact ⟨Nat.le_refl _, by dsimp only; omega, hP.alloc _⟩
      · exact ⟨Nat.le_succ _, by dsimp only; omega, hH.alloc _⟩⟩
  clear hP hH hb hl
  generalize World.alloc w1 _ = W2 at *
  generalize w1.heap.size = q at *
  have hP : Blk W2 w.heap.size (rowA 300 f) 79 := L0.get (.head _)
  go_wp2_with ((with_reducible refine row_load 79 (.tmp 3) ?_ ?_ w.heap.size 300 f 79 ?_ hP _ Try.underlying79 ?_ covSize ?_); rfl; rfl; rfl; rfl)
  refine (condition_any q 0 f _ _ L0.fl).mono ?_
  rintro e w3 ⟨rfl, k3⟩
  have L3 := L0.flag k3
  clear L0 k3 hP
  go_upto_region 5 with ((with_reducible refine row_store 79 (.tmp 8) (.tmp 22) ?_ ?_ w3.heap.size 300 (condF f) (fun _ => 0) 79 ?_ ?_ ?_ covSize ?_); rfl; rfl; rfl; rfl; (rw [zeroCov]; exact Blk.made _ _ _ rfl))
  rw [zeroCov]
  have L4 := (L3.made 300 (fun _ => 0) 79).lay L3.newer (condF f)
  clear L3
  generalize World.setRow _ _ _ = w4 at *
  generalize w3.heap.size = C at *
  have hP : Blk w4 w.heap.size (rowA 300 f) 79 := L4.get (.tail _ (.head _))
  have hH : Blk w4 (w.heap.size + 1) (rowA 24 h) 100 := L4.get (.tail _ (.tail _ (.head _)))
  go_wp2_with (first
    | ((with_reducible refine row_load 79 (.tmp 3) ?_ ?_ w.heap.size 300 f 79 ?_ hP _ Try.underlying79 ?_ covSize ?_); rfl; rfl; rfl; rfl)
    | ((with_reducible refine row_load 100 (.tmp 4) ?_ ?_ (w.heap.size + 1) 24 h 100 ?_ hH _ Try.underlying100 ?_ brSize ?_); rfl; rfl; rfl; rfl))
  refine (upd_any q 0 f h r _ _ L4.fl).mono ?_
  rintro e w5 ⟨rfl, k5⟩
  have L5 := L4.flag k5
  clear L4 k5 hP hH
  go_upto_region 6 with (first
    | ((with_reducible refine row_store 79 (.tmp 9) (.tmp 29) ?_ ?_ w5.heap.size 300 (updF f h r) (fun _ => 0) 79 ?_ ?_ ?_ covSize ?_); rfl; rfl; rfl; rfl; (rw [zeroCov]; exact (Blk.made _ _ _ rfl).alloc _))
    | ((with_reducible refine row_store 100 (.tmp 10) (.tmp 30) ?_ ?_ (w5.heap.size + 1) 24 (updK f h r) (fun _ => 0) 100 ?_ ?_ ?_ brSize ?_); rfl; rfl; rfl; rfl; exact (Blk.made _ _ _ (by simp)).otherRow (by omega)))
  rw [zeroCov, zero24]
  have L6 := L5.got (rowA 300 fun _ => 0) (rowA 24 fun _ => 0) 300 24 79 100 (updF f h r) (updK f h r) rfl rfl
  clear L5
  generalize World.setRow _ _ _ = w6 at *
  generalize w5.heap.size = D at *
  have hP : Blk w6 D (rowA 300 (updF f h r)) 79 := L6.get (.tail _ (.head _))
  have hH : Blk w6 (w.heap.size + 1) (rowA 24 h) 100 := L6.get (.tail _ (.tail _ (.tail _ (.tail _ (.head _)))))
  go_wp2_with (first
    | ((with_reducible refine row_load 79 (.tmp 9) ?_ ?_ D 300 (updF f h r) 79 ?_ hP _ Try.underlying79 ?_ covSize ?_); rfl; rfl; rfl; rfl)
    | ((with_reducible refine row_load 100 (.tmp 4) ?_ ?_ (w.heap.size + 1) 24 h 100 ?_ hH _ Try.underlying100 ?_ brSize ?_); rfl; rfl; rfl; rfl))
  refine (upd_any q 0 (updF f h r) h r _ _ L6.fl).mono ?_
  rintro e w7 ⟨rfl, k7⟩
  have L7 := L6.flag k7
  have HF := Lib.hid (fun j (hj : j < 24) => And.intro (updF_less f h r hj) (show updF (updF f h r) h r (276 + j) ≤ updF f h r (276 + j) by have := updF_less (updF f h r) h r hj; rwa [condF_upd f h r (show 276 + j < 300 by omega)] at this))
  have HG := Lib.hid (And.intro (good_any (updF f h r)) (good_any (updF (updF f h r) h r)))
  rw [updF_good f h r, updF_good (updF f h r) h r] at HG
  have s1 := updS_lo f h r
  have s2 := updS_up f h r
  have s3 := updS_lo (updF f h r) h r
  clear L6 k7 hP hH
  generalize updK (updF f h r) h r = K2 at *
  generalize updS (updF f h r) h r = S2 at *
  generalize updF (updF f h r) h r = y2 at *
  generalize updS f h r = S1 at *
  generalize updK f h r = K1 at *
  generalize updF f h r = y1 at *
  generalize condF f = c at *
  go_upto_region 7 with (first
    | ((with_reducible refine row_store 79 (.tmp 12) (.tmp 38) ?_ ?_ w7.heap.size 300 y2 (fun _ => 0) 79 ?_ ?_ ?_ covSize ?_); rfl; rfl; rfl; rfl; (rw [zeroCov]; exact (Blk.made _ _ _ rfl).alloc _))
    | ((with_reducible refine row_store 100 (.tmp 13) (.tmp 39) ?_ ?_ (w7.heap.size + 1) 24 K2 (fun _ => 0) 100 ?_ ?_ ?_ brSize ?_); rfl; rfl; rfl; rfl; exact (Blk.made _ _ _ (by simp)).otherRow (by omega)))
  rw [zeroCov, zero24]
  have L8 := L7.got (rowA 300 fun _ => 0) (rowA 24 fun _ => 0) 300 24 79 100 y2 K2 rfl rfl
  clear L7
  generalize World.setRow _ _ _ = w8 at *
  generalize w7.heap.size = E at *
  obtain ⟨T, NC, hO⟩ := opCov
  have l1 := hO.load w8 D y1 79 (L8.get (.tail _ (.tail _ (.tail _ (.head _)))))
  have hTa := hO.agg
  have hTs := hO.size
  have n1 : ¬ S1 < 1 := by omega
  have n3 : ¬ S2 < 1 := by omega
  have HT := Lib.hid hO
  rw [hO.is]
  clear hO s1 s3
  by_cases hr : r ≤ 72057594037927936
  all_goals
    by_cases hsr : S1 < r
    all_goals
      try (exact absurd hsr (by have := s2 hr; omega))
    all_goals
      go_wp2_with fail
      refine (HG.out.1 _).mono ?_
      rintro e w9 ⟨rfl, b9⟩
      have L9 := L8.call b9
      have l2 := HT.out.load w9 E y2 79 (L9.get (.tail _ (.head _)))
      clear l1 L8 b9
      go_wp2_with fail
      refine (HG.out.2 _).mono ?_
      rintro e w10 ⟨rfl, b10⟩
      have L10 := L9.call b10
      clear l2 L9 b10 hTa hTs s2 HT HG
      go_wp2_with fail
      clear n1 n3 hsr
      have hB := Lib.hid L10
      clear L10
      go_loopw [15] (fun i' wr => ∃ j : Nat, j ≤ 24 ∧ i' = .int .i64 j ∧ Lw w q (false || condH f || updH f h r || updH y1 h r) [(E + 1, 24, K2, 100), (E, 300, y2, 79), (D + 1, 24, K1, 100), (D, 300, y1, 79), (C, 300, c, 79), (w.heap.size, 300, f, 79), (w.heap.size + 1, 24, h, 100)] wr) (fun i' _ => 24 - (intOf i').toNat)
      case atStart => exact ⟨0, by omega, rfl, hB.out⟩
      case round =>
        clear hB
        obtain ⟨j, hj, rfl, L⟩ := hrel
        by_cases hlt : j < 24
        · have hltI : (j : Int) < 24 := by omega
          have hj0 : (0 : Int) ≤ (j : Int) := by omega
          have c1 := row_at (L.drew.get (b := D) (n := 300) (f := y1) (t := 79) (.tail _ (.tail _ (.tail _ (.head _))))) (k := 276 + j) (by omega) rfl
          have c2 := row_at (L.drew.get (b := C) (n := 300) (f := c) (t := 79) (.tail _ (.tail _ (.tail _ (.tail _ (.head _)))))) (k := 276 + j) (by omega) rfl
          have c3 := row_at (L.drew.get (b := E) (n := 300) (f := y2) (t := 79) (.tail _ (.head _))) (k := 276 + j) (by omega) rfl
          obtain ⟨d1, d2⟩ := HF.out j hlt
          have hL := Lib.hid L.drew
          clear L
          generalize y1 (276 + j) = a1 at *
          generalize c (276 + j) = a2 at *
          generalize y2 (276 + j) = a3 at *
          have d3 : ¬ a2 < a1 := by omega
          have d4 : ¬ a1 < a3 := by omega
          clear d1 d2
          go_upto_region 12 with (fail)
          go_region_held3 (fun w' => w'.cell? ⟨D, 276 + j, none⟩ = some (.int .i64 a1) ∧ w'.cell? ⟨C, 276 + j, none⟩ = some (.int .i64 a2) ∧ w'.cell? ⟨E, 276 + j, none⟩ = some (.int .i64 a3))
            ((exact ⟨c1, c2, c3⟩))
            (first | (go_at_call 35; skip))
          clear c1 c2 c3
          go_wp2_with fail
          go_roundw
          case rel => exact ⟨j + 1, by omega, by go_num, hL.out⟩
          case measure => simp [intOf]; omega
        · obtain rfl : j = 24 := by omega
          clear hlt hj
          have hl : ¬ ((24 : Nat) : Int) < 24 := by omega
          go_wp2_with fail
          go_ret
          exact ⟨rfl, L.be⟩
end Go.Proofs.Ytplffehgjdinnaa.biermanLearns
