/- Two vectors are added. -/
import Derived.Test.YtdndomknjefgkaaDnC
import Derived.LoopN
import Derived.Laws.MakeOwn
namespace Go.Proofs.Ytdndomknjefgkaa.Rg
open Go.RowKit
theorem i64Info : (Try.prog.info? 2).map (fun i => (i.zero, i.size, i.bytes)) = some (some (.int .i64 0), 1, 8) := by kernel_rfl
theorem vecSize : (Try.prog.info? 88).map (·.size) = some 3 := by kernel_rfl
theorem make2 (w : World) : Sem.run Try.prog (Instr.makeSlice 80 (.int .i64 2) (.int .i64 2)) w = .ok (.slice (some ⟨w.heap.size, 0, none⟩) 2 2) (w.alloc (.cells #[.int .i64 0, .int .i64 0] 2)) := by
  obtain ⟨i, h1, h2, h3, h4⟩ := info_parts i64Info
  have hr := run_make (P := Try.prog) w 80 2 i (.int .i64 0) Try.underlying80 h1 h2 .i64 .i64 2 2 (by omega) (Int.le_refl _) (by rw [h4]; omega) (by omega)
  rw [h3] at hr
  exact hr.trans (by kernel_rfl)
set_option maxRecDepth 100000 in
set_option maxHeartbeats 8000000 in
theorem vadd_any (p o : Nat) (b c : Nat) (x0 x1 x2 y0 y1 y2 : Int) (h : Bool) (w : World) (f : Fl p o h w) (hb : b < w.heap.size) (hbp : b ≠ p)
    (c0 : w.cell? ⟨b, 0, none⟩ = some (.int .i64 x0)) (c1 : w.cell? ⟨b, 1, none⟩ = some (.int .i64 x1)) (c2 : w.cell? ⟨b, 2, none⟩ = some (.int .i64 x2))
    (c3 : w.cell? ⟨b, 3, none⟩ = some (.int .i64 y0)) (c4 : w.cell? ⟨b, 4, none⟩ = some (.int .i64 y1)) (c5 : w.cell? ⟨b, 5, none⟩ = some (.int .i64 y2))
    (hx0 : -288230376151711744 ≤ x0 ∧ x0 ≤ 288230376151711744) (hy0 : -288230376151711744 ≤ y0 ∧ y0 ≤ 288230376151711744)
    (hx1 : -288230376151711744 ≤ x1 ∧ x1 ≤ 288230376151711744) (hy1 : -288230376151711744 ≤ y1 ∧ y1 ≤ 288230376151711744)
    (hx2 : -288230376151711744 ≤ x2 ∧ x2 ≤ 288230376151711744) (hy2 : -288230376151711744 ≤ y2 ∧ y2 ≤ 288230376151711744) :
    Calls Try.prog 38 #[.pointer (some ⟨p, o, none⟩), .slice (some ⟨b, 0, none⟩) 2 c] w fun e w' => e = .returned (.agg #[.int .i64 (x0 + y0), .int .i64 (x1 + y1), .int .i64 (x2 + y2)]) ∧ FlW p o h w w' := by
  have H0 := Lib.hid (And.intro hx0 hy0)
  have H1 := Lib.hid (And.intro hx1 hy1)
  have H2 := Lib.hid (And.intro hx2 hy2)
  clear hx0 hy0 hx1 hy1 hx2 hy2
  go_enter Try.func38, Try.ntmps38
  have hmk := make2
  go_wp2_with fail
  clear hmk
  generalize hs : w.heap.size = s at *
  go_loopw [13] (fun i wr => ∃ (k : Nat) (u v g0 g1 g2 : Int), i = .int .i64 k ∧ k ≤ 3 ∧ Hid (FlW p o h w wr) ∧ Hid (s + 2 < wr.heap.size) ∧ Hid (Blk wr (s + 1) #[.int .i64 u, .int .i64 v] 2) ∧ Hid (Blk wr (s + 2) #[.int .i64 g0, .int .i64 g1, .int .i64 g2] 88) ∧ Hid (Blk wr s #[.int .i64 0, .int .i64 0, .int .i64 0] 88) ∧ Hid ((0 < k → g0 = x0 + y0) ∧ (1 < k → g1 = x1 + y1) ∧ (2 < k → g2 = x2 + y2))) (fun i _ => 3 - (intOf i).toNat)
  case atStart =>
    refine ⟨0, 0, 0, 0, 0, 0, rfl, by omega, Lib.hid ((((FlW.refl f).alloc _).alloc _).alloc _), Lib.hid (by simp; omega), Lib.hid ((Blk.made _ _ _ (by simp; omega)).alloc _), Lib.hid (Blk.made _ _ _ (by simp; omega)), Lib.hid (((Blk.made _ _ _ hs).alloc _).alloc _), Lib.hid ⟨by omega, by omega, by omega⟩⟩
  case round =>
    obtain ⟨k, u, v, g0, g1, g2, rfl, hk, hF, hz, hP, hS, hR, hG⟩ := hrel
    have d0 := (hF.out.cell (hs ▸ hb) (.inl hbp) (i := 0)).trans c0
    have d1 := (hF.out.cell (hs ▸ hb) (.inl hbp) (i := 1)).trans c1
    have d2 := (hF.out.cell (hs ▸ hb) (.inl hbp) (i := 2)).trans c2
    have d3 := (hF.out.cell (hs ▸ hb) (.inl hbp) (i := 3)).trans c3
    have d4 := (hF.out.cell (hs ▸ hb) (.inl hbp) (i := 4)).trans c4
    have d5 := (hF.out.cell (hs ▸ hb) (.inl hbp) (i := 5)).trans c5
    have hbw : b < wr.heap.size := by have := hz.out; omega
    have e0 : wr.cell? ⟨s + 1, 0, none⟩ = some (.int .i64 u) := hP.out.cell 0
    have e1 : wr.cell? ⟨s + 1, 1, none⟩ = some (.int .i64 v) := hP.out.cell 1
    have f0 : wr.frozen? ⟨s + 1, 0, none⟩ = false := hP.out.free 0
    have f1 : wr.frozen? ⟨s + 1, 1, none⟩ = false := hP.out.free 1
    have z1 : s + 1 < wr.heap.size := by have := hz.out; omega
    have z2 : s + 1 + 1 < wr.heap.size := by have := hz.out; omega
    have n1 : ¬ (s + 1 = wr.heap.size) := by omega
    have n2 : ¬ (wr.heap.size = s + 1) := by omega
    have n3 : ¬ (s = wr.heap.size) := by omega
    have n4 : ¬ (wr.heap.size = s) := by omega
    have z3 : s + 1 < wr.heap.size + 1 := by omega
    have z4 : s < wr.heap.size := by omega
    clear c0 c1 c2 c3 c4 c5
    have hps : p < s := by have := f.lt; omega
    have hss : w.heap.size ≤ s := by omega
    have F0 := Lib.hid f
    have HH := Lib.hid (And.intro hps hss)
    clear hps hss f
    obtain rfl | rfl | rfl | rfl : k = 0 ∨ k = 1 ∨ k = 2 ∨ k = 3 := by omega
    · go_wp2_with fail
      refine wp_loop_rounds 3 ?_
      rw [rounds_succ]
      go_wp2_with fail
      rw [rounds_succ]
      go_wp2_with fail
      rw [rounds_succ]
      go_wp2_with fail
      generalize hX : World.alloc (World.alloc _ _) _ = X
      have kX : FlW p o h w X := by rw [← hX]; exact (((hF.out.other (by have := HH.out.2; omega) _).other (by have := HH.out.2; omega) _).alloc _).alloc _
      have BP : Blk X (s + 1) #[.int .i64 x0, .int .i64 y0] 2 := by rw [← hX]; exact ((((hP.out.set (i := 0) (.int .i64 x0)).set (i := 1) (.int .i64 y0)).alloc _).alloc _)
      have BS : Blk X (s + 2) #[.int .i64 g0, .int .i64 g1, .int .i64 g2] 88 := by rw [← hX]; exact (((hS.out.other (by omega) _).other (by omega) _).alloc _).alloc _
      have BR : Blk X s #[.int .i64 0, .int .i64 0, .int .i64 0] 88 := by rw [← hX]; exact (((hR.out.other (by omega) _).other (by omega) _).alloc _).alloc _
      clear hX e0 e1 f0 f1 d0 d1 d2 d3 d4 d5 z1 z2 z3 z4 n1 n2 n3 n4 hbw
      have HG := Lib.hid hG
      refine (add2_fx p o (s + 1) 2 x0 y0 h X (kX.fl F0.out) BP.lt (by have := HH.out.1; omega) (BP.cell 0) (BP.cell 1) H0.out.1 H0.out.2).mono ?_
      rintro e w7 ⟨rfl, k7⟩
      have hp1 := HH.out.1
      have BP7 := BP.flag (by omega) k7
      have BS7 := BS.flag (by omega) k7
      have BR7 := BR.flag (by omega) k7
      have q0 : w7.cell? ⟨s + 2, 0, none⟩ = some (.int .i64 g0) := BS7.cell 0
      have q1 : w7.frozen? ⟨s + 2, 0, none⟩ = false := BS7.free 0
      have K7 := Lib.hid (kX.trans k7)
      clear k7 kX BP BS BR hF hz hP hS hR
      have BP7 := Lib.hid BP7
      have BS7 := Lib.hid BS7
      have BR7 := Lib.hid BR7
      go_wp2_with fail
      go_roundw
      case rel =>
        have e1 := HG.out
        refine ⟨1, x0, y0, (x0 + y0), g1, g2, by go_num, by omega, Lib.hid (K7.out.other (by have := HH.out.2; omega) _), Lib.hid ?_, Lib.hid (BP7.out.other (by omega) _), Lib.hid (BS7.out.set (i := 0) (.int .i64 (x0 + y0))), Lib.hid (BR7.out.other (by omega) _), Lib.hid ⟨?_, ?_, ?_⟩⟩
        · rw [size_set]; exact BS7.out.lt
        all_goals (intro _; first | rfl | (exact e1.out.1 (by omega)) | (exact e1.out.2.1 (by omega)) | omega)
      case measure => simp [intOf]
    · go_wp2_with fail
      refine wp_loop_rounds 3 ?_
      rw [rounds_succ]
      go_wp2_with fail
      rw [rounds_succ]
      go_wp2_with fail
      rw [rounds_succ]
      go_wp2_with fail
      generalize hX : World.alloc (World.alloc _ _) _ = X
      have kX : FlW p o h w X := by rw [← hX]; exact (((hF.out.other (by have := HH.out.2; omega) _).other (by have := HH.out.2; omega) _).alloc _).alloc _
      have BP : Blk X (s + 1) #[.int .i64 x1, .int .i64 y1] 2 := by rw [← hX]; exact ((((hP.out.set (i := 0) (.int .i64 x1)).set (i := 1) (.int .i64 y1)).alloc _).alloc _)
      have BS : Blk X (s + 2) #[.int .i64 g0, .int .i64 g1, .int .i64 g2] 88 := by rw [← hX]; exact (((hS.out.other (by omega) _).other (by omega) _).alloc _).alloc _
      have BR : Blk X s #[.int .i64 0, .int .i64 0, .int .i64 0] 88 := by rw [← hX]; exact (((hR.out.other (by omega) _).other (by omega) _).alloc _).alloc _
      clear hX e0 e1 f0 f1 d0 d1 d2 d3 d4 d5 z1 z2 z3 z4 n1 n2 n3 n4 hbw
      have HG := Lib.hid hG
      refine (add2_fx p o (s + 1) 2 x1 y1 h X (kX.fl F0.out) BP.lt (by have := HH.out.1; omega) (BP.cell 0) (BP.cell 1) H1.out.1 H1.out.2).mono ?_
      rintro e w7 ⟨rfl, k7⟩
      have hp1 := HH.out.1
      have BP7 := BP.flag (by omega) k7
      have BS7 := BS.flag (by omega) k7
      have BR7 := BR.flag (by omega) k7
      have q0 : w7.cell? ⟨s + 2, 1, none⟩ = some (.int .i64 g1) := BS7.cell 1
      have q1 : w7.frozen? ⟨s + 2, 1, none⟩ = false := BS7.free 1
      have K7 := Lib.hid (kX.trans k7)
      clear k7 kX BP BS BR hF hz hP hS hR
      have BP7 := Lib.hid BP7
      have BS7 := Lib.hid BS7
      have BR7 := Lib.hid BR7
      go_wp2_with fail
      go_roundw
      case rel =>
        have e1 := HG.out
        refine ⟨2, x1, y1, g0, (x1 + y1), g2, by go_num, by omega, Lib.hid (K7.out.other (by have := HH.out.2; omega) _), Lib.hid ?_, Lib.hid (BP7.out.other (by omega) _), Lib.hid (BS7.out.set (i := 1) (.int .i64 (x1 + y1))), Lib.hid (BR7.out.other (by omega) _), Lib.hid ⟨?_, ?_, ?_⟩⟩
        · rw [size_set]; exact BS7.out.lt
        all_goals (intro _; first | rfl | (exact e1.out.1 (by omega)) | (exact e1.out.2.1 (by omega)) | omega)
      case measure => simp [intOf]
    · go_wp2_with fail
      refine wp_loop_rounds 3 ?_
      rw [rounds_succ]
      go_wp2_with fail
      rw [rounds_succ]
      go_wp2_with fail
      rw [rounds_succ]
      go_wp2_with fail
      generalize hX : World.alloc (World.alloc _ _) _ = X
      have kX : FlW p o h w X := by rw [← hX]; exact (((hF.out.other (by have := HH.out.2; omega) _).other (by have := HH.out.2; omega) _).alloc _).alloc _
      have BP : Blk X (s + 1) #[.int .i64 x2, .int .i64 y2] 2 := by rw [← hX]; exact ((((hP.out.set (i := 0) (.int .i64 x2)).set (i := 1) (.int .i64 y2)).alloc _).alloc _)
      have BS : Blk X (s + 2) #[.int .i64 g0, .int .i64 g1, .int .i64 g2] 88 := by rw [← hX]; exact (((hS.out.other (by omega) _).other (by omega) _).alloc _).alloc _
      have BR : Blk X s #[.int .i64 0, .int .i64 0, .int .i64 0] 88 := by rw [← hX]; exact (((hR.out.other (by omega) _).other (by omega) _).alloc _).alloc _
      clear hX e0 e1 f0 f1 d0 d1 d2 d3 d4 d5 z1 z2 z3 z4 n1 n2 n3 n4 hbw
      have HG := Lib.hid hG
      refine (add2_fx p o (s + 1) 2 x2 y2 h X (kX.fl F0.out) BP.lt (by have := HH.out.1; omega) (BP.cell 0) (BP.cell 1) H2.out.1 H2.out.2).mono ?_
      rintro e w7 ⟨rfl, k7⟩
      have hp1 := HH.out.1
      have BP7 := BP.flag (by omega) k7
      have BS7 := BS.flag (by omega) k7
      have BR7 := BR.flag (by omega) k7
      have q0 : w7.cell? ⟨s + 2, 2, none⟩ = some (.int .i64 g2) := BS7.cell 2
      have q1 : w7.frozen? ⟨s + 2, 2, none⟩ = false := BS7.free 2
      have K7 := Lib.hid (kX.trans k7)
      clear k7 kX BP BS BR hF hz hP hS hR
      have BP7 := Lib.hid BP7
      have BS7 := Lib.hid BS7
      have BR7 := Lib.hid BR7
      go_wp2_with fail
      go_roundw
      case rel =>
        have e1 := HG.out
        refine ⟨3, x2, y2, g0, g1, (x2 + y2), by go_num, by omega, Lib.hid (K7.out.other (by have := HH.out.2; omega) _), Lib.hid ?_, Lib.hid (BP7.out.other (by omega) _), Lib.hid (BS7.out.set (i := 2) (.int .i64 (x2 + y2))), Lib.hid (BR7.out.other (by omega) _), Lib.hid ⟨?_, ?_, ?_⟩⟩
        · rw [size_set]; exact BS7.out.lt
        all_goals (intro _; first | rfl | (exact e1.out.1 (by omega)) | (exact e1.out.2.1 (by omega)) | omega)
      case measure => simp [intOf]
    · have d0 : wr.cell? ⟨s + 2, 0, none⟩ = some (.int .i64 g0) := hS.out.cell 0
      have d1 : wr.cell? ⟨s + 2, 1, none⟩ = some (.int .i64 g1) := hS.out.cell 1
      have d2 : wr.cell? ⟨s + 2, 2, none⟩ = some (.int .i64 g2) := hS.out.cell 2
      obtain ⟨G0, G1, G2⟩ := hG.out
      obtain rfl := G0 (by omega)
      obtain rfl := G1 (by omega)
      obtain rfl := G2 (by omega)
      have r0 : wr.cell? ⟨s, 0, none⟩ = some (.int .i64 0) := hR.out.cell 0
      have r1 : wr.cell? ⟨s, 1, none⟩ = some (.int .i64 0) := hR.out.cell 1
      have r2 : wr.cell? ⟨s, 2, none⟩ = some (.int .i64 0) := hR.out.cell 2
      have t0 := hR.out.free 0
      have t1 := hR.out.free 1
      have t2 := hR.out.free 2
      clear e0 e1 f0 f1 d3 d4 d5
      go_wp2_with fail
      have BR : Blk (((wr.setCell ⟨s, 0, none⟩ (.int .i64 (x0 + y0))).setCell ⟨s, 1, none⟩ (.int .i64 (x1 + y1))).setCell ⟨s, 2, none⟩ (.int .i64 (x2 + y2))) s #[.int .i64 (x0 + y0), .int .i64 (x1 + y1), .int .i64 (x2 + y2)] 88 := ((hR.out.set (i := 0) _).set (i := 1) _).set (i := 2) _
      refine bodyPost_ret (v := .agg #[.int .i64 (x0 + y0), .int .i64 (x1 + y1), .int .i64 (x2 + y2)]) (results_cell_row rfl _ _ s 88 _ (0, 0) _ rfl BR Try.underlying88 rfl vecSize) rfl ?_
      exact ⟨rfl, (((hF.out.other (by have := HH.out.2; omega) _).other (by have := HH.out.2; omega) _).other (by have := HH.out.2; omega) _)⟩
end Go.Proofs.Ytdndomknjefgkaa.Rg
