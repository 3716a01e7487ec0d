/- A sample cut in two comes to the same. -/
import Derived.Test.YtdndomknjefgkaaDownsSplitsN
import Derived.Test.YtdndomknjefgkaaDownsPlaysW
namespace Go.Proofs.Ytdndomknjefgkaa.Rg
open Go.RowKit
theorem cells8 {w : World} {b : Nat} {g : Nat → Int} {t : TypeId} (h : Blk w b (rowA 8 g) t) : w.cell? ⟨b, 0, none⟩ = some (.int .i64 (g 0)) ∧ w.cell? ⟨b, 1, none⟩ = some (.int .i64 (g 1)) ∧ w.cell? ⟨b, 2, none⟩ = some (.int .i64 (g 2)) ∧ w.cell? ⟨b, 3, none⟩ = some (.int .i64 (g 3)) ∧ w.cell? ⟨b, 4, none⟩ = some (.int .i64 (g 4)) ∧ w.cell? ⟨b, 5, none⟩ = some (.int .i64 (g 5)) ∧ w.cell? ⟨b, 6, none⟩ = some (.int .i64 (g 6)) ∧ w.cell? ⟨b, 7, none⟩ = some (.int .i64 (g 7)) :=
  ⟨h.cell 0, h.cell 1, h.cell 2, h.cell 3, h.cell 4, h.cell 5, h.cell 6, h.cell 7⟩
/-- What lies there while a sample is cut. -/
structure Sp (w : World) (s ba bb : Nat) (f q A B : Nat → Int) (W : World) : Prop where
  f : Blk W s (rowA 8 f) 32
  q : Blk W (s + 1) (rowA 3 q) 30
  a : Blk W ba (rowA 8 A) 32
  b : Blk W bb (rowA 8 B) 32
  K : Below w.heap.size w W
  d : ba ≠ s ∧ ba ≠ s + 1 ∧ bb ≠ s ∧ bb ≠ s + 1 ∧ ba ≠ bb ∧ w.heap.size ≤ ba ∧ w.heap.size ≤ bb
section
variable {w W : World} {s ba bb : Nat} {f q A B : Nat → Int}
theorem Sp.call {W2 : World} (m : Sp w s ba bb f q A B W) (k : Below W.heap.size W W2) : Sp w s ba bb f q A B W2 := ⟨m.f.call k, m.q.call k, m.a.call k, m.b.call k, m.K.trans (k.mono m.K.size), m.d⟩
theorem Sp.drew (m : Sp w s ba bb f q A B W) : Sp w s ba bb f q A B W.drew := m.call (Below.refl _ _).drew
theorem Sp.seta (m : Sp w s ba bb f q A B W) (k : Nat) (hk : k < 8) (v : Int) : Sp w s ba bb f q (upd A k v) B (W.setCell ⟨ba, k, none⟩ (.int .i64 v)) :=
  ⟨m.f.other (by have := m.d; omega) _, m.q.other (by have := m.d; omega) _, by have := m.a.set (i := k) (.int .i64 v); rwa [rowA_set A hk] at this, m.b.other (by have := m.d; omega) _, m.K.setCell (by have := m.d; simp; omega) _, m.d⟩
theorem Sp.setb (m : Sp w s ba bb f q A B W) (k : Nat) (hk : k < 8) (v : Int) : Sp w s ba bb f q A (upd B k v) (W.setCell ⟨bb, k, none⟩ (.int .i64 v)) :=
  ⟨m.f.other (by have := m.d; omega) _, m.q.other (by have := m.d; omega) _, m.a.other (by have := m.d; omega) _, by have := m.b.set (i := k) (.int .i64 v); rwa [rowA_set B hk] at this, m.K.setCell (by have := m.d; simp; omega) _, m.d⟩
theorem Sp.congr {A' B' : Nat → Int} (m : Sp w s ba bb f q A B W) (ha : ∀ j, j < 8 → A j = A' j) (hb : ∀ j, j < 8 → B j = B' j) : Sp w s ba bb f q A' B' W := ⟨m.f, m.q, m.a.congr ha, m.b.congr hb, m.K, m.d⟩
end
set_option maxRecDepth 100000 in
set_option maxHeartbeats 32000000 in
theorem dsplits_walk (a : Int) (f : Nat → Int) (cu : Int) (q : Nat → Int) (w : World) (_hq : ∀ k, -9223372036854775808 ≤ q k ∧ q k ≤ 9223372036854775807) : Calls Try.prog 6 #[.int .i64 a, .agg (rowA 8 f), .int .i64 cu, .agg (rowA 3 q)] w fun e w' => e = .returned (.bool true) ∧ Below w.heap.size w w' := by
  have bf : Blk ((w.alloc (.cells (rowA 8 f) 32)).alloc (.cells (rowA 3 q) 30)) w.heap.size (rowA 8 f) 32 := (Blk.made _ _ _ rfl).alloc _
  have bq : Blk ((w.alloc (.cells (rowA 8 f) 32)).alloc (.cells (rowA 3 q) 30)) (w.heap.size + 1) (rowA 3 q) 30 := Blk.made _ _ _ (by simp)
  have hK : Below w.heap.size w ((w.alloc (.cells (rowA 8 f) 32)).alloc (.cells (rowA 3 q) 30)) := ((Below.refl _ _).alloc (Nat.le_refl _) _).alloc (by simp) _
  go_enter Try.func6, Try.ntmps6
  go_wp2_with fail
  refine (dawake_any _).mono ?_
  rintro e w0 ⟨rfl, k0⟩
  have bf := bf.call k0
  have bq := bq.call k0
  have hK := Lib.hid (hK.trans (k0.mono hK.size))
  clear k0
  generalize hsz : w.heap.size = s at *
  go_upto_region 3 with (fail)
  have c0 := Lib.hid (show w0.cell? ⟨s, 0, none⟩ = some (.int .i64 (f 0)) from bf.cell 0)
  have c1 := Lib.hid (show w0.cell? ⟨s, 1, none⟩ = some (.int .i64 (f 1)) from bf.cell 1)
  have FIN := Lib.hid (show ∀ w', Below w0.heap.size w0 w' → Below w.heap.size w w' ∧ Below s w w' from fun w' k => by
    have h2 : Below s w w' := hK.out.trans (k.mono (by have := hK.out.size; omega))
    exact ⟨by rw [hsz]; exact h2, h2⟩)
  cases hok : okI f
  · go_wp2_with (first
      | ((with_reducible refine row_load 32 (.tmp 5) ?_ ?_ s 8 f 32 ?_ bf _ Try.underlying32 ?_ imuSize ?_); rfl; rfl; rfl; rfl)
      | (go_at_call 12; refine (goodr f _ _ hok).mono ?_; rintro e w1 ⟨rfl, k1⟩; have d0 := (cellAt k1 bf.lt (i := 0)).trans c0.out; have d1 := (cellAt k1 bf.lt (i := 1)).trans c1.out))
    go_ret
    exact ⟨rfl, by first | exact (FIN.out _ k1).1 | exact (FIN.out _ k1).2⟩
  by_cases h2 : a < 1000
  · go_wp2_with (first
      | ((with_reducible refine row_load 32 (.tmp 5) ?_ ?_ s 8 f 32 ?_ bf _ Try.underlying32 ?_ imuSize ?_); rfl; rfl; rfl; rfl)
      | (go_at_call 12; refine (goodr f _ _ hok).mono ?_; rintro e w1 ⟨rfl, k1⟩; have d0 := (cellAt k1 bf.lt (i := 0)).trans c0.out; have d1 := (cellAt k1 bf.lt (i := 1)).trans c1.out))
    go_ret
    exact ⟨rfl, by first | exact (FIN.out _ k1).1 | exact (FIN.out _ k1).2⟩
  by_cases h4 : 100000 < a
  · go_wp2_with (first
      | ((with_reducible refine row_load 32 (.tmp 5) ?_ ?_ s 8 f 32 ?_ bf _ Try.underlying32 ?_ imuSize ?_); rfl; rfl; rfl; rfl)
      | (go_at_call 12; refine (goodr f _ _ hok).mono ?_; rintro e w1 ⟨rfl, k1⟩; have d0 := (cellAt k1 bf.lt (i := 0)).trans c0.out; have d1 := (cellAt k1 bf.lt (i := 1)).trans c1.out))
    go_ret
    exact ⟨rfl, by first | exact (FIN.out _ k1).1 | exact (FIN.out _ k1).2⟩
  by_cases h6 : cu < 1
  · go_wp2_with (first
      | ((with_reducible refine row_load 32 (.tmp 5) ?_ ?_ s 8 f 32 ?_ bf _ Try.underlying32 ?_ imuSize ?_); rfl; rfl; rfl; rfl)
      | (go_at_call 12; refine (goodr f _ _ hok).mono ?_; rintro e w1 ⟨rfl, k1⟩; have d0 := (cellAt k1 bf.lt (i := 0)).trans c0.out; have d1 := (cellAt k1 bf.lt (i := 1)).trans c1.out))
    go_ret
    exact ⟨rfl, by first | exact (FIN.out _ k1).1 | exact (FIN.out _ k1).2⟩
  by_cases h8 : f 1 ≤ cu
  · go_wp2_with (first
      | ((with_reducible refine row_load 32 (.tmp 5) ?_ ?_ s 8 f 32 ?_ bf _ Try.underlying32 ?_ imuSize ?_); rfl; rfl; rfl; rfl)
      | (go_at_call 12; refine (goodr f _ _ hok).mono ?_; rintro e w1 ⟨rfl, k1⟩; have d0 := (cellAt k1 bf.lt (i := 0)).trans c0.out; have d1 := (cellAt k1 bf.lt (i := 1)).trans c1.out))
    go_ret
    exact ⟨rfl, by first | exact (FIN.out _ k1).1 | exact (FIN.out _ k1).2⟩
  by_cases h10 : a ≤ cu
  · go_wp2_with (first
      | ((with_reducible refine row_load 32 (.tmp 5) ?_ ?_ s 8 f 32 ?_ bf _ Try.underlying32 ?_ imuSize ?_); rfl; rfl; rfl; rfl)
      | (go_at_call 12; refine (goodr f _ _ hok).mono ?_; rintro e w1 ⟨rfl, k1⟩; have d0 := (cellAt k1 bf.lt (i := 0)).trans c0.out; have d1 := (cellAt k1 bf.lt (i := 1)).trans c1.out))
    go_ret
    exact ⟨rfl, by first | exact (FIN.out _ k1).1 | exact (FIN.out _ k1).2⟩
  by_cases h12 : f 0 < f 1
  · go_wp2_with (first
      | ((with_reducible refine row_load 32 (.tmp 5) ?_ ?_ s 8 f 32 ?_ bf _ Try.underlying32 ?_ imuSize ?_); rfl; rfl; rfl; rfl)
      | (go_at_call 12; refine (goodr f _ _ hok).mono ?_; rintro e w1 ⟨rfl, k1⟩; have d0 := (cellAt k1 bf.lt (i := 0)).trans c0.out; have d1 := (cellAt k1 bf.lt (i := 1)).trans c1.out))
    go_ret
    exact ⟨rfl, by first | exact (FIN.out _ k1).1 | exact (FIN.out _ k1).2⟩
  go_upto_region 5 with (first
    | ((with_reducible refine row_load 32 (.tmp 5) ?_ ?_ s 8 f 32 ?_ bf _ Try.underlying32 ?_ imuSize ?_); rfl; rfl; rfl; rfl)
    | (go_at_call 12; refine (goodr f _ _ hok).mono ?_; rintro e w1 ⟨rfl, k1⟩; have d0 := (cellAt k1 bf.lt (i := 0)).trans c0.out; have d1 := (cellAt k1 bf.lt (i := 1)).trans c1.out))
  have FB := Lib.hid (okI_bd hok)
  have HC := Lib.hid (And.intro (And.intro h2 (And.intro h6 h8)) (And.intro h10 h12))
  have OK := Lib.hid hok
  have HX := Lib.hid h4
  have f1 := bf.call k1
  have q1 := bq.call k1
  have K1 := Lib.hid (FIN.out _ k1).1
  have hsX : s + 1 < w1.heap.size := q1.lt
  clear bf bq hK k1 d0 d1 c0 c1 FIN hok h2 h4 h6 h8 h10 h12
  have hZ : Blk (w1.alloc (.cells #[.int .i64 0, .int .i64 0, .int .i64 0, .int .i64 0, .int .i64 0, .int .i64 0, .int .i64 0, .int .i64 0] 32)) w1.heap.size (rowA 8 fun _ => 0) 32 := Blk.made _ _ _ rfl
  go_upto_region 6 with (first
    | ((with_reducible refine row_load 32 (.tmp 5) ?_ ?_ s 8 f 32 ?_ f1 _ Try.underlying32 ?_ imuSize ?_); rfl; rfl; rfl; rfl)
    | ((with_reducible refine row_store 32 (.tmp 9) (.tmp 61) ?_ ?_ w1.heap.size 8 f (fun _ => 0) 32 ?_ ?_ hZ imuSize ?_); rfl; rfl; rfl; rfl))
  have f2 := (f1.alloc (.cells #[.int .i64 0, .int .i64 0, .int .i64 0, .int .i64 0, .int .i64 0, .int .i64 0, .int .i64 0, .int .i64 0] 32)).otherRow (b := w1.heap.size) (d := rowA 8 f) (by omega)
  have q2 := (q1.alloc (.cells #[.int .i64 0, .int .i64 0, .int .i64 0, .int .i64 0, .int .i64 0, .int .i64 0, .int .i64 0, .int .i64 0] 32)).otherRow (b := w1.heap.size) (d := rowA 8 f) (by omega)
  have a2 := hZ.setRow (d := rowA 8 f)
  have K2 := below_setRow (K1.out.alloc K1.out.size (.cells #[.int .i64 0, .int .i64 0, .int .i64 0, .int .i64 0, .int .i64 0, .int .i64 0, .int .i64 0, .int .i64 0] 32)) K1.out.size (rowA 8 f)
  have hba : w.heap.size ≤ w1.heap.size := K1.out.size
  clear hZ f1 q1 K1
  generalize World.setRow _ w1.heap.size _ = w2 at *
  generalize w1.heap.size = ba at *
  have hZ : Blk (w2.alloc (.cells #[.int .i64 0, .int .i64 0, .int .i64 0, .int .i64 0, .int .i64 0, .int .i64 0, .int .i64 0, .int .i64 0] 32)) w2.heap.size (rowA 8 fun _ => 0) 32 := Blk.made _ _ _ rfl
  go_upto_region 7 with (first
    | ((with_reducible refine row_load 32 (.tmp 5) ?_ ?_ s 8 f 32 ?_ f2 _ Try.underlying32 ?_ imuSize ?_); rfl; rfl; rfl; rfl)
    | ((with_reducible refine row_store 32 (.tmp 10) (.tmp 62) ?_ ?_ w2.heap.size 8 f (fun _ => 0) 32 ?_ ?_ hZ imuSize ?_); rfl; rfl; rfl; rfl))
  have la := a2.lt
  have m3 : Sp w s ba w2.heap.size f q f f ((w2.alloc (.cells #[.int .i64 0, .int .i64 0, .int .i64 0, .int .i64 0, .int .i64 0, .int .i64 0, .int .i64 0, .int .i64 0] 32)).setRow w2.heap.size (rowA 8 f)) :=
    ⟨(f2.alloc _).otherRow (by omega), (q2.alloc _).otherRow (by omega), (a2.alloc _).otherRow (by omega), hZ.setRow, below_setRow (K2.alloc K2.size _) K2.size _, by omega⟩
  clear hZ f2 q2 a2 K2
  generalize World.setRow _ w2.heap.size _ = w3 at *
  generalize w2.heap.size = bb at *
  have hd := m3.d
  have n1 : ¬ (ba = s) := by omega
  have n2 : ¬ (s = ba) := by omega
  have n3 : ¬ (bb = s) := by omega
  have n4 : ¬ (s = bb) := by omega
  have n5 : ¬ (ba = bb) := by omega
  have n6 : ¬ (bb = ba) := by omega
  have g0 : w3.cell? ⟨s, 0, none⟩ = some (.int .i64 (f 0)) := m3.f.cell 0
  have g1 : w3.cell? ⟨s, 1, none⟩ = some (.int .i64 (f 1)) := m3.f.cell 1
  have a0 : w3.cell? ⟨ba, 0, none⟩ = some (.int .i64 (f 0)) := m3.a.cell 0
  have a1 : w3.cell? ⟨ba, 1, none⟩ = some (.int .i64 (f 1)) := m3.a.cell 1
  have b1 : w3.cell? ⟨bb, 1, none⟩ = some (.int .i64 (f 1)) := m3.b.cell 1
  have r0 := m3.a.free 0
  have r1 := m3.a.free 1
  have r2 := m3.b.free 1
  have w1' : IntKind.i64.wrap (f 0 - cu) = f 0 - cu := by have := FB.out; have := HC.out; rw [IntKind.wrap_i64]; omega
  have w2' : IntKind.i64.wrap (f 1 - cu) = f 1 - cu := by have := FB.out; have := HC.out; rw [IntKind.wrap_i64]; omega
  have m4 := Lib.hid ((((m3.seta 0 (by omega) (f 0 - cu)).seta 1 (by omega) cu).setb 1 (by omega) (f 1 - cu)).congr (fa0 f q cu) (fb0 f q cu))
  clear m3 hd
  go_upto_region 10 with (fail)
  generalize World.setCell _ _ _ = w4 at *
  clear g0 g1 a0 a1 b1 r0 r1 r2 w1' w2'
  go_wp2_with fail
  go_loopw [11] (fun i wr => ∃ k : Nat, k ≤ 3 ∧ i = .int .i64 k ∧ Hid (Sp w s ba bb f q (fa f q cu k) (fb f q cu k) wr)) (fun i _ => 3 - (intOf i).toNat)
  case atStart => exact ⟨0, by omega, rfl, m4⟩
  case round =>
    clear m4
    obtain ⟨k, hk, rfl, m⟩ := hrel
    have hk0 : (0 : Int) ≤ (k : Int) := by omega
    by_cases hlt : k < 3
    · have hltI : (k : Int) < 3 := by omega
      have hv := FB.out.2.2 (5 + k) (by omega) (by omega)
      have hv2 := FB.out.2.2 (2 + k) (by omega) (by omega)
      have hr1 : -17179869184 < (q k).tmod 17179869184 := by have := Int.lt_tmod_of_pos (q k) (show (0 : Int) < 17179869184 by omega); omega
      have hr2 : (q k).tmod 17179869184 < 17179869184 := Int.tmod_lt_of_pos (q k) (by omega)
      have W5 := Lib.hid (show IntKind.i64.wrap (f (5 + k) - (q k).tmod 17179869184) = f (5 + k) - (q k).tmod 17179869184 by rw [IntKind.wrap_i64]; omega)
      have W2 := Lib.hid (show IntKind.i64.wrap (f (2 + k) - (f (2 + k)).tdiv 2) = f (2 + k) - (f (2 + k)).tdiv 2 by
        have h3 := Int.natAbs_tdiv (f (2 + k)) 2
        have h4 : (f (2 + k)).tdiv 2 = (f (2 + k)).tdiv 2 := rfl
        have h5 : ((f (2 + k)).tdiv 2).natAbs ≤ (f (2 + k)).natAbs := by rw [h3]; exact Nat.div_le_self _ _
        rw [IntKind.wrap_i64]; omega)
      have WD := Lib.hid (show IntKind.i64.wrap ((f (2 + k)).tdiv 2) = (f (2 + k)).tdiv 2 by
        have h3 := Int.natAbs_tdiv (f (2 + k)) 2
        have h5 : ((f (2 + k)).tdiv 2).natAbs ≤ (f (2 + k)).natAbs := by rw [h3]; exact Nat.div_le_self _ _
        rw [IntKind.wrap_i64]; omega)
      have WR := Lib.hid (show IntKind.i64.wrap ((q k).tmod 17179869184) = (q k).tmod 17179869184 by rw [IntKind.wrap_i64]; omega)
      clear hv hv2 hr1 hr2
      have hd := m.out.d
      have e1 : wr.cell? ⟨s + 1, k, none⟩ = some (.int .i64 (q k)) := by rw [m.out.q.cell, rowA_get _ (by omega)]
      have e2 : wr.cell? ⟨ba, 5 + k, none⟩ = some (.int .i64 (fa f q cu k (5 + k))) := by rw [m.out.a.cell, rowA_get _ (by omega)]
      have e3 : wr.frozen? ⟨ba, 5 + k, none⟩ = false := m.out.a.free _
      have hwr := WR.out
      go_upto_region 14 with (fail)
      have m5 := Lib.hid (m.out.seta (5 + k) (by omega) ((q k).tmod 17179869184))
      clear e1 e2 e3 hwr m
      generalize World.setCell _ _ _ = w5 at *
      have e1 : w5.cell? ⟨s, 5 + k, none⟩ = some (.int .i64 (f (5 + k))) := by rw [m5.out.f.cell, rowA_get _ (by omega)]
      have e2 : w5.cell? ⟨ba, 5 + k, none⟩ = some (.int .i64 ((q k).tmod 17179869184)) := by
        rw [m5.out.a.cell, rowA_get _ (by omega)]
        unfold upd; rw [if_pos rfl]
      have e3 : w5.cell? ⟨bb, 5 + k, none⟩ = some (.int .i64 (fb f q cu k (5 + k))) := by rw [m5.out.b.cell, rowA_get _ (by omega)]
      have e4 : w5.frozen? ⟨bb, 5 + k, none⟩ = false := m5.out.b.free _
      have w5' := W5.out
      go_cut [] (fun wx => Hid (Sp w s ba bb f q (upd (fa f q cu k) (5 + k) ((q k).tmod 17179869184)) (upd (fb f q cu k) (5 + k) (f (5 + k) - (q k).tmod 17179869184)) wx))
      case first =>
        go_region_law (fail)
        all_goals
          go_wp2_with fail
          go_meet
          refine Lib.hid ?_
          first
            | exact (m5.out.setb (5 + k) (by omega) (f (5 + k) - (q k).tmod 17179869184)).drew
            | exact m5.out.drew.setb (5 + k) (by omega) (f (5 + k) - (q k).tmod 17179869184)
            | exact m5.out.setb (5 + k) (by omega) (f (5 + k) - (q k).tmod 17179869184)
      case rest =>
        clear m5 e1 e2 e3 e4 w5'
        have m6 := hcut
        clear hcut
        have e1 : wc.cell? ⟨s, 2 + k, none⟩ = some (.int .i64 (f (2 + k))) := by rw [m6.out.f.cell, rowA_get _ (by omega)]
        have e2 : wc.cell? ⟨ba, 2 + k, none⟩ = some (.int .i64 (upd (fa f q cu k) (5 + k) ((q k).tmod 17179869184) (2 + k))) := by rw [m6.out.a.cell, rowA_get _ (by omega)]
        have e3 : wc.frozen? ⟨ba, 2 + k, none⟩ = false := m6.out.a.free _
        have wd := WD.out
        go_upto_region 16 with (fail)
        have m7 := Lib.hid (m6.out.seta (2 + k) (by omega) ((f (2 + k)).tdiv 2))
        clear e1 e2 e3 wd m6
        generalize World.setCell _ _ _ = w7 at *
        have e1 : w7.cell? ⟨s, 2 + k, none⟩ = some (.int .i64 (f (2 + k))) := by rw [m7.out.f.cell, rowA_get _ (by omega)]
        have e2 : w7.cell? ⟨ba, 2 + k, none⟩ = some (.int .i64 ((f (2 + k)).tdiv 2)) := by
          rw [m7.out.a.cell, rowA_get _ (by omega)]
          unfold upd; rw [if_pos rfl]
        have e3 : w7.cell? ⟨bb, 2 + k, none⟩ = some (.int .i64 (upd (fb f q cu k) (5 + k) (f (5 + k) - (q k).tmod 17179869184) (2 + k))) := by rw [m7.out.b.cell, rowA_get _ (by omega)]
        have e4 : w7.frozen? ⟨bb, 2 + k, none⟩ = false := m7.out.b.free _
        have w2' := W2.out
        go_region_law (fail)
        all_goals
          clear w2' e1 e2 e3 e4
          go_wp2_with fail
          go_roundw
          case rel =>
            refine ⟨k + 1, by omega, by go_num, Lib.hid ?_⟩
            first
              | exact (m7.out.setb (2 + k) (by omega) (f (2 + k) - (f (2 + k)).tdiv 2)).drew.congr (fa_next f q cu hlt) (fb_next f q cu hlt)
              | exact (m7.out.drew.setb (2 + k) (by omega) (f (2 + k) - (f (2 + k)).tdiv 2)).congr (fa_next f q cu hlt) (fb_next f q cu hlt)
              | exact (m7.out.setb (2 + k) (by omega) (f (2 + k) - (f (2 + k)).tdiv 2)).congr (fa_next f q cu hlt) (fb_next f q cu hlt)
          case measure => simp [intOf]; omega
    · obtain rfl : k = 3 := by omega
      go_upto_region 17 with (fail)
      have hAa := m.out.a
      have hBb0 := Lib.hid m.out.b
      cases hka : okI (fa f q cu 3)
      · go_wp2_with (first
        | ((with_reducible refine row_load 32 (.tmp 9) ?_ ?_ ba 8 (fa f q cu 3) 32 ?_ hAa _ Try.underlying32 ?_ imuSize ?_); rfl; rfl; rfl; rfl)
        | (go_at_call 12; with_reducible refine (goodr (fa f q cu 3) _ _ hka).mono ?_; rintro e w6 ⟨rfl, kA⟩; have hBb := hBb0.out.below kA hBb0.out.lt; obtain ⟨j0, j1, j2, j3, j4, j5, j6, j7⟩ := cells8 hBb; have kA := Lib.hid kA)
        | (go_at_call 12; refine (good_lit _ (fb f q cu 3) rfl _ hkb _).mono ?_; rintro e w7 ⟨rfl, kB⟩; have kB := Lib.hid kB))
        go_ret
        exact ⟨rfl, m.out.K.trans (kA.out.mono m.out.K.size)⟩
      · cases hkb : okI (fb f q cu 3)
        · go_wp2_with (first
        | ((with_reducible refine row_load 32 (.tmp 9) ?_ ?_ ba 8 (fa f q cu 3) 32 ?_ hAa _ Try.underlying32 ?_ imuSize ?_); rfl; rfl; rfl; rfl)
        | (go_at_call 12; with_reducible refine (goodr (fa f q cu 3) _ _ hka).mono ?_; rintro e w6 ⟨rfl, kA⟩; have hBb := hBb0.out.below kA hBb0.out.lt; obtain ⟨j0, j1, j2, j3, j4, j5, j6, j7⟩ := cells8 hBb; have kA := Lib.hid kA)
        | (go_at_call 12; refine (good_lit _ (fb f q cu 3) rfl _ hkb _).mono ?_; rintro e w7 ⟨rfl, kB⟩; have kB := Lib.hid kB))
          go_ret
          exact ⟨rfl, m.out.K.trans ((kA.out.trans (kB.out.mono kA.out.size)).mono m.out.K.size)⟩
        · go_upto_region 19 with (first
        | ((with_reducible refine row_load 32 (.tmp 9) ?_ ?_ ba 8 (fa f q cu 3) 32 ?_ hAa _ Try.underlying32 ?_ imuSize ?_); rfl; rfl; rfl; rfl)
        | (go_at_call 12; with_reducible refine (goodr (fa f q cu 3) _ _ hka).mono ?_; rintro e w6 ⟨rfl, kA⟩; have hBb := hBb0.out.below kA hBb0.out.lt; obtain ⟨j0, j1, j2, j3, j4, j5, j6, j7⟩ := cells8 hBb; have kA := Lib.hid kA)
        | (go_at_call 12; refine (good_lit _ (fb f q cu 3) rfl _ hkb _).mono ?_; rintro e w7 ⟨rfl, kB⟩; have kB := Lib.hid kB))
          have hb := kA.out.trans (kB.out.mono kA.out.size)
          clear kA kB hAa hBb hBb0
          have m7 := Lib.hid (m.out.call hb)
          have HT := Lib.hid (show Cut2 a f q cu from by
            have := HC.out
            exact ⟨OK.out, by omega, by omega, by omega, by omega, by omega, hka, hkb⟩)
          have HA1 := HC.out.1.1
          clear hb m hka hkb
          go_wp2_with fail
          refine (dnew_any a _ (by omega) (by have := HX.out; omega)).mono ?_
          rintro e w8 ⟨rfl, hb8, k8⟩
          have k8 := Lib.hid k8
          have hb8 := Lib.hid hb8
          go_wp2_with fail
          refine (dnew_any a _ (by omega) (by have := HX.out; omega)).mono ?_
          rintro e w9 ⟨rfl, hb9, k9⟩
          have hp8 : w7.heap.size < (w7.alloc (.cells #[.bool false] 29)).heap.size := by simp
          have hs8 := k8.out.size
          have hs9 := k9.size
          have hb8s := hb8.out.lt
          have hwa := m7.out.K.size
          have m9 : M3 w w7.heap.size (w7.alloc (.cells #[.bool false] 29)).heap.size w8.heap.size (newS a) (newS a) 77 77 w9 :=
            ⟨(((Fl.made w7 29 false).below k8.out).below k9), hb8.out.below k9 hb8.out.lt, hb9, ((m7.out.K.alloc m7.out.K.size _).trans (k8.out.mono (by omega))).trans (k9.mono (by omega)), by omega, by omega, .inl (by omega), by omega, by omega, by omega⟩
          have c7 := (((m7.out.call ((Below.refl _ _).alloc (Nat.le_refl _) (.cells #[.bool false] 29))).call k8.out).call k9)
          have fs := c7.f
          have as_ := c7.a
          have bs := c7.b
          have lf := m7.out.f.lt
          have la := m7.out.a.lt
          have lb := m7.out.b.lt
          have hAB : (w7.alloc (.cells #[.bool false] 29)).heap.size ≠ w8.heap.size := by omega
          have hfar : s < w7.heap.size ∧ ba < w7.heap.size ∧ bb < w7.heap.size ∧ w7.heap.size < (w7.alloc (.cells #[.bool false] 29)).heap.size ∧ (w7.alloc (.cells #[.bool false] 29)).heap.size < w8.heap.size := ⟨lf, la, lb, hp8, by omega⟩
          have HF := Lib.hid hfar
          clear c7 m7 k9 hb9 k8 hb8 hfar lf la lb hp8 hs8 hs9 hb8s hwa
          have hAe : (w7.alloc (.cells #[.bool false] 29)).heap.size = w7.heap.size + 1 := by simp
          rw [hAe] at m9 hAB
          have HF := Lib.hid (hAe ▸ HF.out)
          clear hAe
          generalize w8.heap.size = B at *
          generalize w7.heap.size = p at *
          have m9 := Lib.hid m9
          have hT := HT
          generalize hR0 : toldR (newS a) f = R0 at *
          generalize htb : told (newS a) f = tb at *
          have hrows : rowA 8 (toldR (nextF (newS a) (fa f q cu 3)) (fb f q cu 3)) = rowA 8 R0 := by rw [HT.out.rows, hR0]
          have htoB : told (nextF (newS a) (fa f q cu 3)) (fb f q cu 3) = tb := by rw [HT.out.toldB, htb]
          have HR := Lib.hid (And.intro hrows htoB)
          clear hrows htoB hT
          have hR0 := Lib.hid hR0
          have htb := Lib.hid htb
          go_upto_region 25 with (first
            | ((with_reducible refine row_load 32 (.tmp 5) ?_ ?_ s 8 (f) 32 ?_ fs _ Try.underlying32 ?_ imuSize ?_); rfl; rfl; rfl; rfl)
            | (go_at_call 10; refine (m9.out.put hAB (Bd.new a) (by omega) f _ rfl (rowA 8 R0) tb _ (by rw [hR0.out]) htb.out rfl).mono ?_; rintro e w10 ⟨rfl, m10, t10⟩; have hZ10 : Blk (w10.alloc (.cells #[.int .i64 0, .int .i64 0, .int .i64 0, .int .i64 0, .int .i64 0, .int .i64 0, .int .i64 0, .int .i64 0] 32)) w10.heap.size (rowA 8 fun _ => 0) 32 := Blk.made _ _ _ rfl)
            | ((with_reducible refine row_store 32 (.tmp 17) (.tmp 149) ?_ ?_ w10.heap.size 8 (R0) (fun _ => 0) 32 ?_ ?_ hZ10 imuSize ?_); rfl; rfl; rfl; rfl))
          have hfar := HF.out
          have a10 := t10.blk as_ (by simp; omega)
          have b10 := t10.blk bs (by simp; omega)
          have l10 := a10.lt
          have k10 := b10.lt
          have m11 := Lib.hid (m10.box (.cells #[.int .i64 0, .int .i64 0, .int .i64 0, .int .i64 0, .int .i64 0, .int .i64 0, .int .i64 0, .int .i64 0] 32) (rowA 8 R0))
          have a11 := (a10.alloc (.cells #[.int .i64 0, .int .i64 0, .int .i64 0, .int .i64 0, .int .i64 0, .int .i64 0, .int .i64 0, .int .i64 0] 32)).otherRow (b := w10.heap.size) (d := rowA 8 R0) (by omega)
          have b11 := (b10.alloc (.cells #[.int .i64 0, .int .i64 0, .int .i64 0, .int .i64 0, .int .i64 0, .int .i64 0, .int .i64 0, .int .i64 0] 32)).otherRow (b := w10.heap.size) (d := rowA 8 R0) (by omega)
          have z11 := hZ10.setRow (d := rowA 8 R0)
          have hz : p < w10.heap.size ∧ p + 1 < w10.heap.size ∧ B < w10.heap.size := ⟨m10.f.lt, m10.a.lt, m10.b.lt⟩
          clear hZ10 t10 m10 a10 b10 l10 k10 m9 fs as_ bs
          generalize World.setRow _ w10.heap.size _ = w11 at *
          generalize w10.heap.size = z at *
          go_upto_region 26 with (first
            | ((with_reducible refine row_load 32 (.tmp 9) ?_ ?_ ba 8 (fa f q cu 3) 32 ?_ a11 _ Try.underlying32 ?_ imuSize ?_); rfl; rfl; rfl; rfl)
            | (go_at_call 10; refine (m11.out.swap.put (Ne.symm hAB) (Bd.new a) (by omega) (fa f q cu 3) _ rfl _ false _ rfl HT.out.toldA rfl).mono ?_; rintro e w12 ⟨rfl, m12, t12⟩; have hZ12 : Blk (w12.alloc (.cells #[.int .i64 0, .int .i64 0, .int .i64 0, .int .i64 0, .int .i64 0, .int .i64 0, .int .i64 0, .int .i64 0] 32)) w12.heap.size (rowA 8 fun _ => 0) 32 := Blk.made _ _ _ rfl)
            | ((with_reducible refine row_store 32 (.tmp 20) (.tmp 157) ?_ ?_ w12.heap.size 8 (toldR (newS a) (fa f q cu 3)) (fun _ => 0) 32 ?_ ?_ hZ12 imuSize ?_); rfl; rfl; rfl; rfl))
          have b12 := t12.blk b11 (by simp; omega)
          have z12 := t12.blk z11 (by simp; omega)
          have k12 := b12.lt
          have l12 := z12.lt
          have m13 := Lib.hid (m12.box (.cells #[.int .i64 0, .int .i64 0, .int .i64 0, .int .i64 0, .int .i64 0, .int .i64 0, .int .i64 0, .int .i64 0] 32) (rowA 8 (toldR (newS a) (fa f q cu 3))))
          have b13 := (b12.alloc (.cells #[.int .i64 0, .int .i64 0, .int .i64 0, .int .i64 0, .int .i64 0, .int .i64 0, .int .i64 0, .int .i64 0] 32)).otherRow (b := w12.heap.size) (d := rowA 8 (toldR (newS a) (fa f q cu 3))) (by omega)
          have z13 := (z12.alloc (.cells #[.int .i64 0, .int .i64 0, .int .i64 0, .int .i64 0, .int .i64 0, .int .i64 0, .int .i64 0, .int .i64 0] 32)).otherRow (b := w12.heap.size) (d := rowA 8 (toldR (newS a) (fa f q cu 3))) (by omega)
          clear hZ12 t12 m12 a11 b11 b12 k12 l12 z12 m11 z11
          generalize World.setRow _ w12.heap.size _ = w13 at *
          generalize w12.heap.size = z2 at *
          have B1 := Lib.hid ((Bd.new a).next (i := fa f q cu 3) (by omega))
          go_upto_region 27 with (first
            | ((with_reducible refine row_load 32 (.tmp 10) ?_ ?_ bb 8 (fb f q cu 3) 32 ?_ b13 _ Try.underlying32 ?_ imuSize ?_); rfl; rfl; rfl; rfl)
            | (go_at_call 10; refine (m13.out.put (Ne.symm hAB) B1.out (by omega) (fb f q cu 3) _ rfl (rowA 8 R0) tb _ HR.out.1 HR.out.2 rfl).mono ?_; rintro e w14 ⟨rfl, m14, t14⟩; have hZ14 : Blk (w14.alloc (.cells #[.int .i64 0, .int .i64 0, .int .i64 0, .int .i64 0, .int .i64 0, .int .i64 0, .int .i64 0, .int .i64 0] 32)) w14.heap.size (rowA 8 fun _ => 0) 32 := Blk.made _ _ _ rfl)
            | ((with_reducible refine row_store 32 (.tmp 23) (.tmp 165) ?_ ?_ w14.heap.size 8 (R0) (fun _ => 0) 32 ?_ ?_ hZ14 imuSize ?_); rfl; rfl; rfl; rfl))
          have z14 := t14.blk z13 (by simp; omega)
          have l14 := z14.lt
          have m15 := Lib.hid (m14.box (.cells #[.int .i64 0, .int .i64 0, .int .i64 0, .int .i64 0, .int .i64 0, .int .i64 0, .int .i64 0, .int .i64 0] 32) (rowA 8 R0))
          have z15 := (z14.alloc (.cells #[.int .i64 0, .int .i64 0, .int .i64 0, .int .i64 0, .int .i64 0, .int .i64 0, .int .i64 0, .int .i64 0] 32)).otherRow (b := w14.heap.size) (d := rowA 8 R0) (by omega)
          have y15 := hZ14.setRow (d := rowA 8 R0)
          clear hZ14 t14 m14 b13 z13 z14 l14 m13
          generalize World.setRow _ w14.heap.size _ = w15 at *
          generalize w14.heap.size = z3 at *
          obtain ⟨c0, c1, c2, c3, c4, c5, c6, c7⟩ := cells8 z15
          obtain ⟨d0, d1, d2, d3, d4, d5, d6, d7⟩ := cells8 y15
          have hEq : ∀ W, Sem.run Try.prog (binOp .eql 32 (.agg (L8 R0)) (.agg (L8 R0))) W = .ok (.bool true) W := fun W => by
            have := eql_row imuFlat R0 R0 W
            rw [eqB_same] at this
            exact this
          have hGd : ∀ op x y W, Sem.run Try.prog (eqGuard op 32 x y (.agg (L8 R0)) (.agg (L8 R0))) W = .ok () W := fun op x y W => guard_row imuFlat R0 R0 W op x y
          have htt : (tb == tb) = true := by simp
          clear z15 y15 hz hfar HF
          go_wp2_with fail
          refine (m15.out.swap.pending (nextF (newS a) f 3) rfl).mono ?_
          rintro e w16 ⟨rfl, rfl⟩
          go_wp2_with fail
          refine (m15.out.pending (nextF (newS a) f 3) HT.out.pends).mono ?_
          rintro e w17 ⟨rfl, rfl⟩
          go_wp2_with fail
          go_ret
          exact ⟨rfl, m15.out.K⟩
end Go.Proofs.Ytdndomknjefgkaa.Rg
