/- The walk of BiermanSign. -/
import Derived.Test.YtplffehgjdinnaaBieT
namespace Go.Proofs.Ytplffehgjdinnaa.biermanSign
open Go.RowKit
abbrev Good (f h : Nat → Int) (r : Int) (w : World) : Prop :=
  Calls Try.prog 16 #[.agg (rowA 300 f), .agg (rowA 24 h), .int .i64 r] w fun e w' => e = .returned (.bool true) ∧ Below w.heap.size w w'
set_option maxRecDepth 10000 in
set_option maxHeartbeats 8000000 in
theorem walk (f : Nat → Int) (_ : ∀ k, -9223372036854775808 ≤ f k ∧ f k ≤ 9223372036854775807) (h : Nat → Int) (_ : ∀ k, -9223372036854775808 ≤ h k ∧ h k ≤ 9223372036854775807) (r : Int) (_ : -9223372036854775808 ≤ r ∧ r ≤ 9223372036854775807) (w : World) : Good f h r w := by
  unfold Good
  go_enter Try.func16, Try.ntmps16
  go_wp2_with fail
  generalize hW : World.alloc (World.alloc w _) _ = W0
  have hb : Below w.heap.size w W0 := by subst hW; exact ((Below.refl _ _).alloc (Nat.le_refl _) _).alloc (by simp) _
  have hP : Blk W0 w.heap.size (rowA 300 f) 79 := by subst hW; exact (Blk.made _ _ _ rfl).alloc _
  have hH : Blk W0 (w.heap.size + 1) (rowA 24 h) 100 := by subst hW; exact Blk.made _ _ _ (by simp)
  clear hW
  refine (awake11_any W0).mono ?_
  rintro e w1 ⟨rfl, hb1⟩
  replace hP := hP.call hb1
  replace hH := hH.call hb1
  replace hb := hb.trans (hb1.mono hb.size)
  clear hb1
  have hl := hH.lt
  go_upto_region 4 with ((with_reducible refine row_store 100 (.tmp 7) (.tmp 20) ?_ ?_ w1.heap.size 24 (fun _ => 0) (fun _ => 0) 100 ?_ ?_ ?_ brSize ?_); rfl; rfl; rfl; rfl; exact Blk.made _ _ _ rfl)
  rw [zero24]
  have hP2 := (hP.alloc (.cells (rowA 24 fun _ => 0) 100)).otherRow (b := w1.heap.size) (d := rowA 24 fun _ => 0) (by omega)
  have hH2 := (hH.alloc (.cells (rowA 24 fun _ => 0) 100)).otherRow (b := w1.heap.size) (d := rowA 24 fun _ => 0) (by omega)
  have hN2 : Blk ((w1.alloc (.cells (rowA 24 fun _ => 0) 100)).setRow w1.heap.size (rowA 24 fun _ => 0)) w1.heap.size (rowA 24 (upTo (fun k => -h k) 0)) 100 := by rw [upTo_zero]; exact (Blk.made w1 (rowA 24 fun _ => 0) 100 rfl).setRow
  have hb2 := below_setRow (b := w1.heap.size) (hb.alloc hb.size (.cells (rowA 24 fun _ => 0) 100)) hb.size (rowA 24 fun _ => 0)
  have hNw := hb.size
  clear hP hH hb
  generalize World.setRow _ _ _ = w2 at *
  generalize w1.heap.size = N at *
  go_wp2_with fail
  go_loopw [8] (fun i' wr => ∃ i : Nat, i ≤ 24 ∧ i' = .int .i64 i ∧ Below w.heap.size w wr ∧ Blk wr w.heap.size (rowA 300 f) 79 ∧ Blk wr (w.heap.size + 1) (rowA 24 h) 100 ∧ Blk wr N (rowA 24 (upTo (fun k => -h k) i)) 100) (fun i' _ => 24 - (intOf i').toNat)
  case atStart => exact ⟨0, by omega, rfl, hb2, hP2, hH2, hN2⟩
  case round =>
    clear hb2 hP2 hH2 hN2
    obtain ⟨i, hi, rfl, hb, hP, hH, hN⟩ := hrel
    by_cases hlt : i < 24
    · have hltI : (i : Int) < 24 := by omega
      have hi0 : (0 : Int) ≤ (i : Int) := by omega
      have c1 := row_at hH hlt rfl
      have HN := Lib.hid (show upd (upTo (fun k => -h k) i) i (-h i) = upTo (fun k => -h k) (i + 1) from upTo_next (fun k => -h k) i)
      generalize hv : h i = v at *
      have HV := Lib.hid hv
      clear hv
      by_cases h1 : v < -1152921504606846976
      · go_wp2_with fail
        go_ret
        exact ⟨rfl, hb⟩
      · by_cases h2 : 1152921504606846976 < v
        · go_wp2_with fail
          go_ret
          exact ⟨rfl, hb⟩
        · have hc := hN.cell i
          rw [rowA_get _ hlt] at hc
          have hf := hN.free i
          have e1 : wrap64 (-v) = -v := by unfold wrap64; omega
          have hN5 := hN.setI (k := i) hlt (-v)
          rw [HN.out] at hN5
          have H5 := Lib.hid (And.intro (hb.setCell (p := ⟨N, i, none⟩) hNw (.int .i64 (-v))) (And.intro (hP.other (b := N) (i := i) (by omega) (.int .i64 (-v))) (And.intro (hH.other (b := N) (i := i) (by omega) (.int .i64 (-v))) hN5)))
          clear hN5 hN hb hP hH
          go_wp2_with fail
          go_roundw
          case rel => exact ⟨i + 1, by omega, by go_num, H5.out.1, H5.out.2.1, H5.out.2.2.1, H5.out.2.2.2⟩
          case measure => simp [intOf]; omega
    · obtain rfl : i = 24 := by omega
      clear hlt hi
      have hN : Blk wr N (rowA 24 fun k => -h k) 100 := hN.congr fun k hk => upTo_all hk
      have hlN := hN.lt
      go_upto_region 12 with (fail)
      have hN0 : w.heap.size + 1 < N := by omega
      have hbs := hb.size
      have L0 : Lw w (wr.heap.size + 1) false [(N, 24, (fun k => -h k), 100), (w.heap.size, 300, f, 79), (w.heap.size + 1, 24, h, 100)] ((wr.alloc (.cells #[.bool false] 41)).alloc (.cells #[.bool false] 41)) :=
        ⟨by have := Fl.made (wr.alloc (.cells #[.bool false] 41)) 41 false; simpa using this, (hb.alloc hb.size _).alloc (by simp; omega) _, by omega, fun x hx => by
          simp only [List.mem_cons, List.not_mem_nil, or_false] at hx
          rcases hx with rfl | rfl | rfl
          · exact ⟨by dsimp only; omega, by dsimp only; omega, (hN.alloc _).alloc _⟩
          · exact ⟨Nat.le_refl _, by dsimp only; omega, (hP.alloc _).alloc _⟩
          · exact ⟨Nat.le_succ _, by dsimp only; omega, (hH.alloc _).alloc _⟩⟩
      have F0 : Fl wr.heap.size 0 false ((wr.alloc (.cells #[.bool false] 41)).alloc (.cells #[.bool false] 41)) := (Fl.made wr 41 false).alloc _
      have hq1 : w.heap.size ≤ wr.heap.size := hbs
      have hne : ∀ x ∈ [(N, 24, (fun k => -h k), 100), (w.heap.size, 300, f, 79), (w.heap.size + 1, 24, h, 100)], x.1 ≠ wr.heap.size := by
        intro x hx
        simp only [List.mem_cons, List.not_mem_nil, or_false] at hx
        rcases hx with rfl | rfl | rfl <;> (dsimp only; omega)
      clear hb hP hH hN hNw hl hbs
      generalize World.alloc (World.alloc wr _) _ = W2 at *
      generalize wr.heap.size = q at *
      have hP : Blk W2 w.heap.size (rowA 300 f) 79 := L0.get (.tail _ (.head _))
      have hH : Blk W2 (w.heap.size + 1) (rowA 24 h) 100 := L0.get (.tail _ (.tail _ (.head _)))
      go_wp2_with (first
        | ((with_reducible refine row_load 79 (.tmp 3) ?_ ?_ w.heap.size 300 f 79 ?_ hP _ Try.underlying79 ?_ covSize ?_); rfl; rfl; rfl; rfl)
        | ((with_reducible refine row_load 100 (.tmp 4) ?_ ?_ (w.heap.size + 1) 24 h 100 ?_ hH _ Try.underlying100 ?_ brSize ?_); rfl; rfl; rfl; rfl))
      refine (upd_any q 0 f h r _ _ F0).mono ?_
      rintro e w5 ⟨rfl, k5⟩
      have L5 := L0.far k5 hq1 (by omega) hne
      have F5 := k5.fl F0
      have hlt5 := F5.lt
      clear L0 k5 hP hH F0
      go_upto_region 13 with (first
        | ((with_reducible refine row_store 79 (.tmp 11) (.tmp 51) ?_ ?_ w5.heap.size 300 (updF f h r) (fun _ => 0) 79 ?_ ?_ ?_ covSize ?_); rfl; rfl; rfl; rfl; (rw [zeroCov]; exact (Blk.made _ _ _ rfl).alloc _))
        | ((with_reducible refine row_store 100 (.tmp 12) (.tmp 52) ?_ ?_ (w5.heap.size + 1) 24 (updK f h r) (fun _ => 0) 100 ?_ ?_ ?_ brSize ?_); rfl; rfl; rfl; rfl; exact (Blk.made _ _ _ (by simp)).otherRow (by omega)))
      rw [zeroCov, zero24]
      have L6 := L5.got (rowA 300 fun _ => 0) (rowA 24 fun _ => 0) 300 24 79 100 (updF f h r) (updK f h r) rfl rfl
      have F6 := (((F5.alloc (.cells (rowA 300 fun _ => 0) 79)).alloc (.cells (rowA 24 fun _ => 0) 100)).row (B := w5.heap.size) (by omega) (rowA 300 (updF f h r))).row (B := w5.heap.size + 1) (by omega) (rowA 24 (updK f h r))
      clear L5 F5
      generalize World.setRow _ _ _ = w6 at *
      generalize w5.heap.size = D at *
      have hP : Blk w6 w.heap.size (rowA 300 f) 79 := L6.get (.tail _ (.tail _ (.tail _ (.head _))))
      have hH : Blk w6 N (rowA 24 fun k => -h k) 100 := L6.get (.tail _ (.tail _ (.head _)))
      go_wp2_with (first
        | ((with_reducible refine row_load 79 (.tmp 3) ?_ ?_ w.heap.size 300 f 79 ?_ hP _ Try.underlying79 ?_ covSize ?_); rfl; rfl; rfl; rfl)
        | ((with_reducible refine row_load 100 (.tmp 7) ?_ ?_ N 24 (fun k => -h k) 100 ?_ hH _ Try.underlying100 ?_ brSize ?_); rfl; rfl; rfl; rfl))
      refine (upd_turn f h r (q + 1) 0 _ _ L6.fl).mono ?_
      rintro e w7 ⟨rfl, k7⟩
      have L7 := L6.flag k7
      have F7 := F6.far k7 (by omega)
      have hlt7 := F7.lt
      have hKb := Lib.hid (updK_bd f h r)
      clear L6 k7 hP hH F6
      generalize updF f h r = y at *
      generalize updK f h r = K at *
      generalize updS f h r = S at *
      generalize (false || updH f h r) = G at *
      go_upto_region 14 with (first
        | ((with_reducible refine row_store 79 (.tmp 14) (.tmp 60) ?_ ?_ w7.heap.size 300 y (fun _ => 0) 79 ?_ ?_ ?_ covSize ?_); rfl; rfl; rfl; rfl; (rw [zeroCov]; exact (Blk.made _ _ _ rfl).alloc _))
        | ((with_reducible refine row_store 100 (.tmp 15) (.tmp 61) ?_ ?_ (w7.heap.size + 1) 24 (fun k => -K k) (fun _ => 0) 100 ?_ ?_ ?_ brSize ?_); rfl; rfl; rfl; rfl; exact (Blk.made _ _ _ (by simp)).otherRow (by omega)))
      rw [zeroCov, zero24]
      have L8 := L7.got (rowA 300 fun _ => 0) (rowA 24 fun _ => 0) 300 24 79 100 y (fun k => -K k) rfl rfl
      have F8 := (((F7.alloc (.cells (rowA 300 fun _ => 0) 79)).alloc (.cells (rowA 24 fun _ => 0) 100)).row (B := w7.heap.size) (by omega) (rowA 300 y)).row (B := w7.heap.size + 1) (by omega) (rowA 24 fun k => -K k)
      clear L7 F7
      generalize World.setRow _ _ _ = w8 at *
      generalize w7.heap.size = E at *
      go_wp2_with fail
      have HB := Lib.hid (And.intro L8 F8)
      clear L8 F8
      go_loopw [17] (fun i' wr => ∃ j : Nat, j ≤ 24 ∧ i' = .int .i64 j ∧ Lw w (q + 1) G [(E + 1, 24, (fun k => -K k), 100), (E, 300, y, 79), (D + 1, 24, K, 100), (D, 300, y, 79), (N, 24, (fun k => -h k), 100), (w.heap.size, 300, f, 79), (w.heap.size + 1, 24, h, 100)] wr ∧ Fl q 0 G wr) (fun i' _ => 24 - (intOf i').toNat)
      case atStart => exact ⟨0, by omega, rfl, HB.out.1, HB.out.2⟩
      case round =>
        clear HB
        obtain ⟨j, hj, rfl, L, F⟩ := hrel
        by_cases hlt : j < 24
        · have hltI : (j : Int) < 24 := by omega
          have hj0 : (0 : Int) ≤ (j : Int) := by omega
          have c1 := row_at (L.drew.get (b := D + 1) (n := 24) (f := K) (t := 100) (.tail _ (.tail _ (.head _)))) hlt rfl
          have c2 := row_at (L.drew.get (b := E + 1) (n := 24) (f := fun k => -K k) (t := 100) (.head _)) hlt rfl
          have hk := hKb.out j
          have hL := Lib.hid (And.intro L.drew F.drew)
          clear L F
          generalize K j = v at *
          have e1 : IntKind.i64.wrap v = v := i64_id _ (by omega) (by omega)
          clear hk
          go_upto_region 17 with (fail)
          go_region_held3 (fun w' => w'.cell? ⟨D + 1, j, none⟩ = some (.int .i64 v) ∧ w'.cell? ⟨E + 1, j, none⟩ = some (.int .i64 (-v)))
            ((exact ⟨c1, c2⟩))
            (first | (go_at_call 35; skip))
          clear c1 c2
          go_wp2_with fail
          go_roundw
          case rel => exact ⟨j + 1, by omega, by go_num, hL.out.1, hL.out.2⟩
          case measure => simp [intOf]; omega
        · obtain rfl : j = 24 := by omega
          clear hlt hj
          have hl : ¬ ((24 : Nat) : Int) < 24 := by omega
          go_upto_region 19 with (fail)
          have hbe := L.drew.be
          have f1 := F.cell
          have f2 := L.fl.cell
          have hA := L.get (b := D) (n := 300) (f := y) (t := 79) (.tail _ (.tail _ (.tail _ (.head _))))
          have hE := L.get (b := E) (n := 300) (f := y) (t := 79) (.tail _ (.head _))
          refine rg_in (fun w' => Below w.heap.size w w' ∧ Blk w' D (rowA 300 y) 79 ∧ Blk w' E (rowA 300 y) 79 ∧ w'.cell? ⟨q, 0, none⟩ = some (.bool G) ∧ w'.cell? ⟨q + 1, 0, none⟩ = some (.bool G)) (by kernel_rfl) (by kernel_rfl) ⟨hbe, hA.drew, hE.drew, f1, f2⟩ ?_
          refine rs_row 79 (.tmp 11) D 300 y 79 _ (by kernel_rfl) rfl (by kernel_rfl) (fun _ h => h.2.1) Try.underlying79 rfl covSize ?_
          go_simp
          refine rs_row 79 (.tmp 14) E 300 y 79 _ (by kernel_rfl) rfl (by kernel_rfl) (fun _ h => h.2.2.1) Try.underlying79 rfl covSize ?_
          go_simp
          refine rs_eql 79 (.tmp 75) (.tmp 76) 79 300 y y covFlat2 (by kernel_rfl) rfl (by kernel_rfl) (by kernel_rfl) ?_
          rw [eqB_same]
          go_simp
          refine rs_pure (.bool true) (by kernel_rfl) (fun w => by first | kernel_rfl | go_simp) ?_
          go_simp
          refine rs_pure (.int .i64 S) (by kernel_rfl) (fun w => by first | kernel_rfl | go_simp) ?_
          go_simp
          refine rs_pure (.int .i64 S) (by kernel_rfl) (fun w => by first | kernel_rfl | go_simp) ?_
          go_simp
          refine rs_pure (.bool true) (by kernel_rfl) (fun w => by go_simp) ?_
          go_simp
          refine rs_pure (.bool true) (by kernel_rfl) (fun w => by first | kernel_rfl | go_simp) ?_
          go_simp
          refine rs_pure (.bool true) (by kernel_rfl) (fun w => by first | kernel_rfl | go_simp) ?_
          go_simp
          refine rs_pure (.pointer (some ⟨q, 0, none⟩)) (by kernel_rfl) (fun w => by first | kernel_rfl | go_simp) ?_
          go_simp
          refine rs_pure (.pointer (some ⟨q, 0, none⟩)) (by kernel_rfl) (fun w => by first | kernel_rfl | go_simp) ?_
          go_simp
          refine rs_pure (.pointer (some ⟨q, 0, none⟩)) (by kernel_rfl) (fun w => by first | kernel_rfl | go_simp) ?_
          go_simp
          refine rs_in (.bool G) (by kernel_rfl) (fun w h => by have hc := h.2.2.2.1; go_simp) ?_
          go_simp
          refine rs_pure (.pointer (some ⟨q + 1, 0, none⟩)) (by kernel_rfl) (fun w => by first | kernel_rfl | go_simp) ?_
          go_simp
          refine rs_pure (.pointer (some ⟨q + 1, 0, none⟩)) (by kernel_rfl) (fun w => by first | kernel_rfl | go_simp) ?_
          go_simp
          refine rs_pure (.pointer (some ⟨q + 1, 0, none⟩)) (by kernel_rfl) (fun w => by first | kernel_rfl | go_simp) ?_
          go_simp
          refine rs_in (.bool G) (by kernel_rfl) (fun w h => by have hc := h.2.2.2.2; go_simp) ?_
          go_simp
          refine rs_pure (.bool true) (by kernel_rfl) (fun w => by go_simp) ?_
          go_simp
          refine rs_pure (.bool true) (by kernel_rfl) (fun w => by go_simp) ?_
          go_simp
          refine rs_pure (.bool true) (by kernel_rfl) (fun w => by first | kernel_rfl | go_simp) ?_
          go_simp
          intro w' hb' _ _ _ _
          go_wp2_with fail
          go_ret
          exact ⟨rfl, hb'⟩
end Go.Proofs.Ytplffehgjdinnaa.biermanSign
