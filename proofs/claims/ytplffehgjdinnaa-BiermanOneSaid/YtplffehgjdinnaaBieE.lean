/- Package bierman: a number is learnt. -/
import Derived.Test.YtplffehgjdinnaaBieD
namespace Go.Proofs.Ytplffehgjdinnaa
open Go.RowKit
set_option maxRecDepth 100000 in
set_option maxHeartbeats 16000000 in
theorem upd_any (p o : Nat) (f h : Nat → Int) (r : Int) (g : Bool) (w : World) (fl : Fl p o g w) :
    Calls Try.prog 88 #[.pointer (some ⟨p, o, none⟩), .agg (rowA 300 f), .agg (rowA 24 h), .int .i64 r] w fun e w' => e = .returned (.tuple #[.agg (rowA 300 (updF f h r)), .agg (rowA 24 (updK f h r)), .int .i64 (updS f h r)]) ∧ FlW p o (g || updH f h r) w w' := by
  have hpw := fl.lt
  go_enter Try.func88, Try.ntmps88
  go_upto_region 1 with (fail)
  rw [zeroCov, zero24]
  generalize hW : World.alloc (World.alloc (World.alloc (World.alloc w _) _) _) _ = X
  have hF : FlW p o g w X := by subst hW; exact ((((FlW.refl fl).alloc _).alloc _).alloc _).alloc _
  have hP : Blk X w.heap.size (rowA 300 f) 79 := by subst hW; exact (((Blk.made _ _ _ rfl).alloc _).alloc _).alloc _
  have hH : Blk X (w.heap.size + 1) (rowA 24 h) 100 := by subst hW; exact ((Blk.made _ _ _ (by simp)).alloc _).alloc _
  have hR : Blk X (w.heap.size + 2) (rowA 300 fun _ => 0) 79 := by subst hW; exact (Blk.made _ _ _ (by simp)).alloc _
  have hR2 : Blk X (w.heap.size + 3) (rowA 24 fun _ => 0) 100 := by subst hW; exact Blk.made _ _ _ (by simp)
  clear hW
  go_wp2_with ((with_reducible refine row_load 79 (.tmp 5) ?_ ?_ w.heap.size 300 f 79 ?_ hP _ Try.underlying79 ?_ covSize ?_); rfl; rfl; rfl; rfl)
  refine (condition_any p o f _ _ (hF.fl fl)).mono ?_
  rintro e w1 ⟨rfl, k1⟩
  replace hF := hF.trans k1
  replace hP := hP.flag (by omega) k1
  replace hH := hH.flag (by omega) k1
  replace hR := hR.flag (by omega) k1
  replace hR2 := hR2.flag (by omega) k1
  clear k1
  go_upto_region 2 with ((with_reducible refine row_store 79 (.tmp 5) (.tmp 23) ?_ ?_ w.heap.size 300 (condF f) f 79 ?_ ?_ hP covSize ?_); rfl; rfl; rfl; rfl)
  replace hF := hF.row (Nat.le_refl _) (rowA 300 (condF f))
  replace hP := hP.setRow (d := rowA 300 (condF f))
  replace hH := hH.otherRow (b := w.heap.size) (d := rowA 300 (condF f)) (by omega)
  replace hR := hR.otherRow (b := w.heap.size) (d := rowA 300 (condF f)) (by omega)
  replace hR2 := hR2.otherRow (b := w.heap.size) (d := rowA 300 (condF f)) (by omega)
  generalize World.setRow _ _ _ = w2 at *
  go_wp2_with (first
    | ((with_reducible refine row_load 79 (.tmp 5) ?_ ?_ w.heap.size 300 (condF f) 79 ?_ hP _ Try.underlying79 ?_ covSize ?_); rfl; rfl; rfl; rfl)
    | ((with_reducible refine row_load 100 (.tmp 6) ?_ ?_ (w.heap.size + 1) 24 h 100 ?_ hH _ Try.underlying100 ?_ brSize ?_); rfl; rfl; rfl; rfl))
  refine (look_any p o (condF f) h r _ _ (hF.fl fl)).mono ?_
  rintro e w3 ⟨rfl, k3⟩
  replace hF := hF.trans k3
  replace hP := hP.flag (by omega) k3
  replace hR := hR.flag (by omega) k3
  replace hR2 := hR2.flag (by omega) k3
  have hS0 : Blk (w3.alloc (.cells Try.zeroCells165 165)) w3.heap.size (rowA 73 fun _ => 0) 165 := by rw [zeroSight]; exact Blk.made _ _ _ rfl
  have gS := hR2.lt
  clear k3 hH
  go_upto_region 3 with ((with_reducible refine row_store 165 (.tmp 11) (.tmp 28) ?_ ?_ w3.heap.size 73 (lookR (condF f) h r) (fun _ => 0) 165 ?_ ?_ hS0 bsSize ?_); rfl; rfl; rfl; rfl)
  have hF4 := (hF.alloc (.cells Try.zeroCells165 165)).row (b := w3.heap.size) hF.size (rowA 73 (lookR (condF f) h r))
  have hP4 := (hP.alloc (.cells Try.zeroCells165 165)).otherRow (b := w3.heap.size) (d := rowA 73 (lookR (condF f) h r)) (by omega)
  have hR4 := (hR.alloc (.cells Try.zeroCells165 165)).otherRow (b := w3.heap.size) (d := rowA 73 (lookR (condF f) h r)) (by omega)
  have hQ4 := (hR2.alloc (.cells Try.zeroCells165 165)).otherRow (b := w3.heap.size) (d := rowA 73 (lookR (condF f) h r)) (by omega)
  have hS4 := hS0.setRow (d := rowA 73 (lookR (condF f) h r))
  clear hF hP hR hR2 hS0
  generalize World.setRow _ _ _ = w4 at *
  generalize w3.heap.size = S at *
  have gN := hS4.lt
  have hN0 : Blk (w4.alloc (.cells Try.zeroCells79 79)) w4.heap.size (rowA 300 fun _ => 0) 79 := by rw [zeroCov]; exact Blk.made _ _ _ rfl
  go_upto_region 4 with (first
    | ((with_reducible refine row_load 79 (.tmp 5) ?_ ?_ w.heap.size 300 (condF f) 79 ?_ hP4 _ Try.underlying79 ?_ covSize ?_); rfl; rfl; rfl; rfl)
    | ((with_reducible refine row_store 79 (.tmp 12) (.tmp 29) ?_ ?_ w4.heap.size 300 (condF f) (fun _ => 0) 79 ?_ ?_ hN0 covSize ?_); rfl; rfl; rfl; rfl))
  have hF5 := (hF4.alloc (.cells Try.zeroCells79 79)).row (b := w4.heap.size) hF4.size (rowA 300 (condF f))
  have hP5 := (hP4.alloc (.cells Try.zeroCells79 79)).otherRow (b := w4.heap.size) (d := rowA 300 (condF f)) (by omega)
  have hR5 := (hR4.alloc (.cells Try.zeroCells79 79)).otherRow (b := w4.heap.size) (d := rowA 300 (condF f)) (by omega)
  have hQ5 := (hQ4.alloc (.cells Try.zeroCells79 79)).otherRow (b := w4.heap.size) (d := rowA 300 (condF f)) (by omega)
  have hS5 := (hS4.alloc (.cells Try.zeroCells79 79)).otherRow (b := w4.heap.size) (d := rowA 300 (condF f)) (by omega)
  have hN5 := hN0.setRow (d := rowA 300 (condF f))
  clear hF4 hP4 hR4 hQ4 hS4 hN0
  generalize World.setRow _ _ _ = w5 at *
  generalize w4.heap.size = N at *
  have gK := hN5.lt
  go_upto_region 5 with (fail)
  rw [zero24]
  have hU0 : Upd w p o (g || condH f || lookH (condF f) h r) (condF f) (lookR (condF f) h r) S N w5.heap.size (condF f) (fun _ => 0) (w5.alloc (.cells (rowA 24 fun _ => 0) 100)) :=
    ⟨hF5.alloc _, hP5.alloc _, hR5.alloc _, hQ5.alloc _, hS5.alloc _, hN5.alloc _, Blk.made _ _ _ rfl, gS, gN, gK⟩
  clear hF5 hP5 hR5 hQ5 hS5 hN5 gS gN gK
  generalize World.alloc w5 _ = w6 at *
  generalize w5.heap.size = K at *
  have HC := Lib.hid (show updF f h r = lrO (condF f) (bF (condF f) (satH h)) (bV (condF f) (satH h)) (bA (condF f) (satH h) (rV r)) 24 ∧ updB f h = lrB (condF f) (bV (condF f) (satH h)) 24 ∧ updS f h r = bA (condF f) (satH h) (rV r) 24 ∧
    (g || updH f h r) = (g || condH f || lookH (condF f) h r || anyN (lrH1 (condF f) (bF (condF f) (satH h)) (bV (condF f) (satH h)) (bA (condF f) (satH h) (rV r))) 24 || anyN (fun k => quoh (updB f h k) (updS f h r)) 24) from
    ⟨rfl, rfl, rfl, by unfold updH innH; simp only [Bool.or_assoc]⟩)
  have HLF := Lib.hid (fun j hj => lookR_f (condF f) h r (j := j) hj)
  have HLV := Lib.hid (fun j hj => lookR_v (condF f) h r (j := j) hj)
  have HLA := Lib.hid (fun j => lookR_a (condF f) h r j)
  have HC1 := Lib.hid (fun n => show lrO (condF f) (bF (condF f) (satH h)) (bV (condF f) (satH h)) (bA (condF f) (satH h) (rV r)) (n + 1) = nexO (condF f) (upd (lrB (condF f) (bV (condF f) (satH h)) n) n (bV (condF f) (satH h) n)) (upd (lrO (condF f) (bF (condF f) (satH h)) (bV (condF f) (satH h)) (bA (condF f) (satH h) (rV r)) n) (276 + n) (bD (condF f) (bA (condF f) (satH h) (rV r)) n)) (bX (bF (condF f) (satH h)) (bA (condF f) (satH h) (rV r)) n) n n from rfl)
  generalize (g || condH f || lookH (condF f) h r) = g0 at *
  generalize lookR (condF f) h r = s at *
  generalize bA (condF f) (satH h) (rV r) = A at *
  generalize bV (condF f) (satH h) = V at *
  generalize bF (condF f) (satH h) = F at *
  generalize condF f = c at *
  go_wp2_with fail
  go_loopw [30] (fun i' wr => ∃ j : Nat, j ≤ 24 ∧ i' = .int .i64 j ∧ Upd w p o (g0 || anyN (lrH1 c F V A) j) c s S N K (lrO c F V A j) (lrB c V j) wr) (fun i' _ => 24 - (intOf i').toNat)
  case atStart => exact ⟨0, by omega, rfl, hU0.hit (by show _ = (_ || false); rw [Bool.or_false])⟩
  case round =>
    clear hU0
    obtain ⟨j, hj, rfl, L⟩ := hrel
    by_cases hlt : j < 24
    · have hltI : (j : Int) < 24 := by omega
      have hj0 : (0 : Int) ≤ (j : Int) := by omega
      have hj25 : (j : Int) < 25 := by omega
      have HX := Lib.hid (show (g0 || anyN (lrH1 c F V A) (j + 1)) = (g0 || anyN (lrH1 c F V A) j || mdh (c (276 + j)) (A j) (A (j + 1)) || clamph (mdv (c (276 + j)) (A j) (A (j + 1))) 1 72057594037927936 || quo4h (F j) (A j) || anyN (nexL c V (upd (lrB c V j) j (V j)) (bX F A j) j) j) by
        rw [show anyN (lrH1 c F V A) (j + 1) = (anyN (lrH1 c F V A) j || ((mdh (c (276 + j)) (A j) (A (j + 1)) || clamph (mdv (c (276 + j)) (A j) (A (j + 1))) 1 72057594037927936) || quo4h (F j) (A j) || anyN (nexL c V (upd (lrB c V j) j (V j)) (bX F A j) j) j)) from rfl]
        simp only [Bool.or_assoc])
      have HY := Lib.hid (HC1.out j)
      have HB := Lib.hid (show lrB c V (j + 1) = nexB c V (upd (lrB c V j) j (V j)) j j from rfl)
      generalize (g0 || anyN (lrH1 c F V A) j) = g1 at *
      generalize lrO c F V A j = y at *
      generalize lrB c V j = b at *
      go_upto_region 8 with (fail)
      have c1 := L.drew.seen (k := 48 + j) (by omega) (HLA.out j)
      have e1 : IntKind.i64.wrap ((j : Int) + 1) = (j : Int) + 1 := i64_id _ (by omega) (by omega)
      have q0 : (0 : Int) ≤ IntKind.i64.wrap ((j : Int) + 1) := by omega
      have hq25 : IntKind.i64.wrap ((j : Int) + 1) < 25 := by omega
      have HQ := Lib.hid (show 48 + (IntKind.i64.wrap ((j : Int) + 1)).toNat = 48 + (j + 1) by omega)
      have c2 : wr.drew.cell? ⟨S, 48 + (IntKind.i64.wrap ((j : Int) + 1)).toNat, none⟩ = some (.int .i64 (A (j + 1))) := by rw [HQ.out]; exact L.drew.seen (k := 48 + (j + 1)) (by omega) (HLA.out (j + 1))
      have HL := Lib.hid L.drew
      clear e1 L
      go_region_held3 (fun w' => w'.cell? ⟨S, 48 + j, none⟩ = some (.int .i64 (A j)) ∧ w'.cell? ⟨S, 48 + (IntKind.i64.wrap ((j : Int) + 1)).toNat, none⟩ = some (.int .i64 (A (j + 1))))
        ((exact ⟨c1, c2⟩))
        (first
          | (go_at_call 35; skip))
      clear c1 c2 q0 hq25 HQ
      have c3 := HL.out.atP (k := 276 + j) (by omega) rfl
      generalize World.drew wr = w7 at *
      go_wp2_with fail
      refine (bmuldiv_mdv p o (c (276 + j)) (A j) (A (j + 1)) _ _ (HL.out.F.fl fl)).mono ?_
      rintro e w8 ⟨rfl, k8⟩
      have L8 := HL.out.flag hpw k8
      clear HL c3 k8
      go_wp2_with fail
      refine (clamp_any p o (mdv (c (276 + j)) (A j) (A (j + 1))) 1 72057594037927936 _ _ (L8.F.fl fl)).mono ?_
      rintro e w9 ⟨rfl, k9⟩
      have L9 := L8.flag hpw k9
      have hc := L9.bN.cell (276 + j)
      rw [rowA_get _ (by omega)] at hc
      have hf := L9.bN.free (276 + j)
      have HL := Lib.hid (L9.setN (k := 276 + j) (by omega) (bD c A j))
      rw [show clampv (mdv (c (276 + j)) (A j) (A (j + 1))) 1 72057594037927936 = bD c A j from rfl]
      clear L8 L9 k9
      go_upto_region 10 with (fail)
      clear hc hf
      generalize World.setCell _ _ _ = w10 at *
      have c4 := HL.out.seen (k := j) (by omega) (HLF.out j hlt)
      go_wp2_with fail
      refine (bdiv_quo4 p o (F j) (A j) _ _ (HL.out.F.fl fl)).mono ?_
      rintro e w11 ⟨rfl, k11⟩
      have HL2 := Lib.hid (HL.out.flag hpw k11)
      clear HL k11 c4
      go_upto_region 11 with (fail)
      rw [show wrap64 (-quo4v (F j) (A j)) = bX F A j from bX_wrap F A j]
      have c5 := HL2.out.seen (k := 24 + j) (by omega) (HLV.out j hlt)
      have hc := HL2.out.bK.cell j
      rw [rowA_get _ hlt] at hc
      have hf := HL2.out.bK.free j
      have HL := Lib.hid (HL2.out.setK (k := j) hlt (V j))
      clear HL2
      go_upto_region 12 with (fail)
      clear hc hf c5
      generalize World.setCell _ _ _ = w12 at *
      generalize bX F A j = x at *
      generalize upd b j (V j) = b1 at *
      generalize upd y (276 + j) (bD c A j) = y1 at *
      have hP12 := HL.out.bP
      go_wp2_with ((with_reducible refine row_load 79 (.tmp 5) ?_ ?_ w.heap.size 300 c 79 ?_ hP12 _ Try.underlying79 ?_ covSize ?_); rfl; rfl; rfl; rfl)
      refine (bcol_any c j hlt _).mono ?_
      rintro e w13 ⟨B, rfl, hB0, hB1, hI, hb13⟩
      have HL2 := Lib.hid (HL.out.call hb13)
      have hsz := HL.out.bK.lt
      clear HL hb13 hP12
      have j1 : (j : Int) ≤ (j : Int) + 1 := by omega
      have j2 : j ≤ j + 1 := by omega
      go_wp2_with fail
      have gK := HL2.out.gK
      have hKB : K < B := Nat.lt_of_lt_of_le hsz hB0
      have hSw := HL2.out.F.size
      have hBw : w.heap.size ≤ B := by
        have := HL2.out.gS
        have := HL2.out.gN
        omega
      generalize hg2 : (g1 || mdh (c (276 + j)) (A j) (A (j + 1)) || clamph (mdv (c (276 + j)) (A j) (A (j + 1))) 1 72057594037927936 || quo4h (F j) (A j)) = g2 at *
      have hL2 : Upd w p o (g2 || anyN (nexL c V b1 x j) 0) c s S N K (nexO c b1 y1 x j 0) (nexB c V b1 j 0) w13 := by
        rw [nexB_zero]
        exact HL2.out.hit (by show _ = (_ || false); rw [Bool.or_false])
      clear HL2 hSw hB0 hsz
      go_loopw [75] (fun i' wr => ∃ t : Nat, t ≤ j ∧ i' = .int .i64 t ∧ Upd w p o (g2 || anyN (nexL c V b1 x j) t) c s S N K (nexO c b1 y1 x j t) (nexB c V b1 j t) wr ∧ B < wr.heap.size ∧ Ints wr B 0 (j + 1) (colU c j)) (fun i' _ => j - (intOf i').toNat)
      case atStart => exact ⟨0, by omega, rfl, hL2, hB1, hI⟩
      case round =>
        clear hL2 hB1 hI
        obtain ⟨t, ht, rfl, L, hB1, hI⟩ := hrel
        by_cases hlj : t < j
        · have hljI : (t : Int) < (j : Int) := by omega
          have ht0 : (0 : Int) ≤ (t : Int) := by omega
          have ht24 : (t : Int) < 24 := by omega
          have HN := Lib.hid (nexB_next c V b1 j t)
          have HO := Lib.hid (show upd (nexO c b1 y1 x j t) (plc (t : Int) (j : Int)).toNat (addv (colU c j t) (mul4v (b1 t) x)) = nexO c b1 y1 x j (t + 1) from rfl)
          have HA := Lib.hid (show (g2 || anyN (nexL c V b1 x j) (t + 1)) = (g2 || anyN (nexL c V b1 x j) t || mul4h (b1 t) x || addh (colU c j t) (mul4v (b1 t) x) || mulh (colU c j t) (V j) || addh (b1 t) (mulv (colU c j t) (V j))) by
            rw [show anyN (nexL c V b1 x j) (t + 1) = (anyN (nexL c V b1 x j) t || (mul4h (b1 t) x || addh (colU c j t) (mul4v (b1 t) x) || (mulh (colU c j t) (V j) || addh (b1 t) (mulv (colU c j t) (V j))))) from rfl]
            simp only [Bool.or_assoc])
          have HS := Lib.hid (nexB_self c V b1 j t)
          generalize (g2 || anyN (nexL c V b1 x j) t) = g3 at *
          generalize nexO c b1 y1 x j t = y2 at *
          generalize nexB c V b1 j t = b2 at *
          have hc := hI.at_ t (by omega)
          rw [Nat.zero_add] at hc
          go_upto_region 15 with (fail)
          clear hc
          generalize hu : colU c j t = u at *
          have HU := Lib.hid hu
          clear hu
          have c1 := L.drew.atK (k := t) (by omega) HS.out
          have f1 := L.drew.F.fl fl
          have L1 := Lib.hid L.drew
          have HI := Lib.hid hI
          clear L hI
          have hBp : B ≠ p := by omega
          have hBN : B ≠ N := by omega
          go_cut [93] (fun s93 wx => s93 = .agg (rowA 300 (upd y2 (plc (t : Int) (j : Int)).toNat (addv u (mul4v (b1 t) x)))) ∧ Upd w p o (g3 || mul4h (b1 t) x || addh u (mul4v (b1 t) x)) c s S N K (upd y2 (plc (t : Int) (j : Int)).toNat (addv u (mul4v (b1 t) x))) b2 wx ∧ Ints wx B 0 (j + 1) (colU c j))
          case first =>
            obtain ⟨T, NC, hO⟩ := opCov
            have l1 := hO.load _ _ _ _ L1.out.bN
            have hTa := hO.agg
            have hTs := hO.size
            have hTl := hO.len
            have HT := Lib.hid hO
            rw [hO.is]
            clear hO
            go_region_with (first
              | (go_at_call 35; go_loud (refine (bmul_mul4 p o (b1 t) x _ _ f1).mono ?_; rintro e w6 ⟨rfl, k6⟩; have L6 := L1.out.flag hpw k6; have l6 := HT.out.load _ _ _ _ L6.bN; have l7 := HT.out.load _ _ _ _ (L6.alloc (.cells #[.int .i64 u, .int .i64 (mul4v (b1 t) x)] 2)).bN; have hBu := Blk.made w6 #[.int .i64 u, .int .i64 (mul4v (b1 t) x)] 2 rfl))
              | (go_at_call 31; go_loud (refine (add_addv p o u (mul4v (b1 t) x) w6.heap.size 2 2 _ _ ((L6.alloc (.cells #[.int .i64 u, .int .i64 (mul4v (b1 t) x)] 2)).F.fl fl) hBu.lt (by have := L6.F.size; omega) hBu.ints2 rfl).mono ?_; rintro e w8 ⟨rfl, k8⟩; have L8 := (L6.alloc (.cells #[.int .i64 u, .int .i64 (mul4v (b1 t) x)] 2)).flag hpw k8; have l8 := HT.out.load _ _ _ _ L8.bN))
              | (go_at_call 80; go_loud (refine (set_in y2 t j (addv u (mul4v (b1 t) x)) _ ht0 hljI hltI).mono ?_; rintro e w9 ⟨rfl, b9⟩; have L9 := L8.call b9; have hst := lay_row Try.prog (upd y2 (plc (t : Int) (j : Int)).toNat (addv u (mul4v (b1 t) x))) L9.bN)))
            all_goals
              go_wp2_with fail
              go_meet
              exact ⟨rfl, L9.rowN _, ⟨fun i hi => keep_row _ hBN (keep_call b9 (keep_flag k8 hBp (keep_alloc _ (keep_flag k6 hBp (HI.out.drew.at_ i hi)))))⟩⟩
          case rest =>
            obtain ⟨rfl, L2, hI2⟩ := hcut
            rw [HO.out] at L2
            have f2 := L2.drew.F.fl fl
            have L3 := Lib.hid L2.drew
            have HI2 := Lib.hid hI2
            have c6 := L3.out.atK (k := t) (by omega) HS.out
            have c7 := L3.out.seen (k := 24 + j) (by omega) (HLV.out j hlt)
            clear L1 f1 c1 HI L2 hI2
            go_upto_region 16 with (fail)
            have hKp : K ≠ p := by
              have h1 := L3.out.gS
              have h2 := L3.out.gN
              have h3 := L3.out.gK
              omega
            have hBK : B ≠ K := by omega
            go_region_with (first
              | (go_at_call 35; go_loud (refine (mul_mulv p o u (V j) _ _ f2).mono ?_; rintro e w6 ⟨rfl, k6⟩; have L6 := L3.out.flag hpw k6; have i6 := keep_flag k6 hKp c6; have hBu := Blk.made w6 #[.int .i64 (b1 t), .int .i64 (mulv u (V j))] 2 rfl))
              | (go_at_call 31; go_loud (refine (add_addv p o (b1 t) (mulv u (V j)) w6.heap.size 2 2 _ _ ((L6.alloc (.cells #[.int .i64 (b1 t), .int .i64 (mulv u (V j))] 2)).F.fl fl) hBu.lt (by have := L6.F.size; omega) hBu.ints2 rfl).mono ?_; rintro e w8 ⟨rfl, k8⟩; have L8 := (L6.alloc (.cells #[.int .i64 (b1 t), .int .i64 (mulv u (V j))] 2)).flag hpw k8; have hc := L8.bK.cell t; rw [rowA_get _ (by omega)] at hc; have hf := L8.bK.free t)))
            all_goals
              have L9 := L8.setK (k := t) (by omega) (addv (b1 t) (mulv u (V j)))
              rw [HN.out] at L9
              have H9 := Lib.hid (L9.hit HA.out.symm)
              have HI9 := Lib.hid (show Ints (w8.setCell ⟨K, t, none⟩ (.int .i64 (addv (b1 t) (mulv u (V j))))) B 0 (j + 1) (colU c j) from ⟨fun i hi => keep_set _ (keep_flag k8 hBp (keep_alloc _ (keep_flag k6 hBp (HI2.out.drew.at_ i hi)))) (.inl hBK)⟩)
              clear L6 L8 L9 hc hf hBu k6 k8 i6 c6 c7 f2
              go_wp2_with fail
              go_roundw
              case rel => exact ⟨t + 1, by omega, by go_num, H9.out, cell_lt (HI9.out.at_ 0 (by omega)), HI9.out⟩
              case measure => simp [intOf]; omega
        · obtain rfl : t = j := by omega
          clear hlj ht
          have HLL := Lib.hid ((L.hit HX.out.symm).new HY.out.symm)
          go_wp2_with fail
          go_roundw
          case rel => exact ⟨t + 1, by omega, by go_num, HLL.out.gai HB.out.symm⟩
          case measure => simp [intOf]; omega
    · obtain rfl : j = 24 := by omega
      clear hlt hj
      have c72 := L.seen (k := 72) (by omega) (show s 72 = A 24 from HLA.out 24)
      go_upto_region 20 with (fail)
      clear c72
      have f1 := L.drew.F.fl fl
      have L1 := Lib.hid L.drew
      clear L
      generalize hy : lrO c F V A 24 = y at *
      generalize hb : lrB c V 24 = b at *
      generalize hA24 : A 24 = a at *
      have HE := Lib.hid (And.intro hy (And.intro hb hA24))
      clear hy hb hA24
      have hR12 : w.heap.size + 3 ≠ w.heap.size + 2 := by omega
      obtain ⟨TC, NC, hC⟩ := opCov
      obtain ⟨TR, NR, hR⟩ := opRow
      have l1 := hC.load _ _ _ _ L1.out.bN
      have m1 := hR.load _ _ _ _ L1.out.bK
      have hTa := hC.agg
      have hTs := hC.size
      have hTl := hC.len
      have hRa := hR.agg
      have hRs := hR.size
      have hRl := hR.len
      have HTC := Lib.hid hC
      have HTR := Lib.hid hR
      rw [hC.is, hR.is]
      clear hC hR
      go_region_with (first
        | (go_at_call 156; go_loud (refine (shares_any p o b a _ _ f1).mono ?_; rintro e w8 ⟨rfl, k8⟩; have L8 := L1.out.flag hpw k8; have l8 := HTC.out.load _ _ _ _ L8.bN; have hst1 := lay_row Try.prog y L8.bR; have hst2 := lay_row Try.prog (fun k => quov (b k) a) (L8.bR2.otherRow (b := w.heap.size + 2) (d := rowA 300 y) hR12))))
      all_goals
        have hF := (L8.F.row (b := w.heap.size + 2) (by omega) (rowA 300 y)).row (b := w.heap.size + 3) (by omega) (rowA 24 fun k => quov (b k) a)
        have hA := (L8.bR.setRow (d := rowA 300 y)).otherRow (b := w.heap.size + 3) (d := rowA 24 fun k => quov (b k) a) (by omega)
        have hB := (L8.bR2.otherRow (b := w.heap.size + 2) (d := rowA 300 y) hR12).setRow (d := rowA 24 fun k => quov (b k) a)
        clear L8 k8 l8 hst1 hst2
        go_wp2_with fail
        refine bodyPost_ret (v := .tuple #[.agg (rowA 300 y), .agg (rowA 24 fun k => quov (b k) a), .int .i64 a]) (results_row2 rfl _ _ (w.heap.size + 2) 300 _ _ _ (w.heap.size + 3) 24 _ _ _ rfl hA Try.underlying79 rfl covSize rfl hB Try.underlying100 rfl brSize rfl) rfl ⟨?_, ?_⟩
        · rw [HC.out.1, show updK f h r = fun k => quov (updB f h k) (updS f h r) from rfl, HC.out.2.1, HC.out.2.2.1]
        · refine flag_is ?_ hF
          rw [HC.out.2.2.2, HC.out.2.1, HC.out.2.2.1]
end Go.Proofs.Ytplffehgjdinnaa
