/- Package tri: whole covariances: taken, kept within their bounds, told. -/
import Derived.Test.YtaehmhdcniegkaaTriB
namespace Go.Proofs.Ytaehmhdcniegkaa
open Go.RowKit

theorem zeroCov : Try.zeroCells29 = rowA 300 (fun _ => 0) := by kernel_rfl
theorem covSize : (Try.prog.info? 29).map (·.size) = some 300 := by kernel_rfl
set_option maxHeartbeats 1000000 in
theorem triU_any (f : Nat → Int) (i j : Int) (w : World) :
    Calls Try.prog 17 #[.agg (rowA 300 f), .int .i64 i, .int .i64 j] w fun e w' => e = .returned (.int .i64 (uF f i j)) ∧ Below w.heap.size w w' := by
  go_enter Try.func17, Try.ntmps17
  go_wp2_with fail
  generalize hW : World.alloc w _ = W
  have hb : Below w.heap.size w W := by subst hW; exact (Below.refl _ _).alloc (Nat.le_refl _) _
  have hB : Blk W w.heap.size (rowA 300 f) 29 := by subst hW; exact Blk.made _ _ _ rfl
  clear hW
  refine (upper_any w.heap.size f i j W hB.ints).mono ?_
  rintro e w' ⟨rfl, hb2⟩
  go_wp2_with fail
  go_ret
  exact ⟨rfl, hb.trans (hb2.mono hb.size)⟩
set_option maxHeartbeats 1000000 in
theorem set_in (f : Nat → Int) (i j v : Int) (w : World) (h0 : 0 ≤ i) (h1 : i < j) (h2 : j < 24) :
    Calls Try.prog 18 #[.agg (rowA 300 f), .int .i64 i, .int .i64 j, .int .i64 v] w fun e w' => e = .returned (.agg (rowA 300 (upd f (plc i j).toNat v))) ∧ Below w.heap.size w w' := by
  have HA := Lib.hid (above_is i j true ((aboveB_iff i j).2 ⟨h0, h1, h2⟩))
  have HP := Lib.hid (fun w => place_is i j w h0 h1 h2)
  obtain ⟨k0, k1, k2, k3⟩ := plc_bd h0 h1 h2
  generalize plc i j = q at *
  obtain ⟨n, rfl⟩ := Int.eq_ofNat_of_zero_le k2
  have hn : n < 276 := by omega
  simp only [Int.toNat_natCast]
  clear k0 k1 k2 k3
  go_enter Try.func18, Try.ntmps18
  go_wp2_with fail
  rw [zeroCov]
  generalize hW : World.alloc (World.alloc w _) _ = W
  have hb : Below w.heap.size w W := by subst hW; exact ((Below.refl _ _).alloc (Nat.le_refl _) _).alloc (by simp) _
  have hB : Blk W w.heap.size (rowA 300 f) 29 := by subst hW; exact (Blk.made _ _ _ rfl).alloc _
  have hR : Blk W (w.heap.size + 1) (rowA 300 fun _ => 0) 29 := by subst hW; exact Blk.made _ _ _ (by simp)
  clear hW
  refine (HA.out _).mono ?_
  rintro e w' ⟨rfl, rfl⟩
  have hc := hB.cell n
  rw [rowA_get _ (by omega)] at hc
  have hf := hB.free n
  go_wp2_with fail
  refine (HP.out _).mono ?_
  rintro e w' ⟨rfl, rfl⟩
  go_upto_region 3 with (fail)
  have hB2 := hB.setI (k := n) (by omega) v
  have hR2 := hR.other (b := w.heap.size) (i := n) (by omega) (.int .i64 v)
  have hb2 := hb.setCell (p := ⟨w.heap.size, n, none⟩) (Nat.le_refl _) (.int .i64 v)
  generalize World.setCell _ _ _ = W2 at *
  go_wp2_with (first
    | (refine row_load 29 _ rfl rfl w.heap.size 300 _ _ rfl hB2 _ Try.underlying29 rfl covSize ?_)
    | (refine row_store 29 _ _ rfl rfl (w.heap.size + 1) 300 _ _ _ rfl rfl hR2 covSize ?_))
  exact bodyPost_ret (v := .agg (rowA 300 (upd f n v))) (results_row rfl _ _ (w.heap.size + 1) 300 _ _ _ rfl hR2.setRow Try.underlying29 rfl covSize) rfl ⟨rfl, below_setRow hb2 (by omega) _⟩
set_option maxHeartbeats 1000000 in
theorem set_out (f : Nat → Int) (i j v : Int) (w : World) (h : aboveB i j = false) :
    Calls Try.prog 18 #[.agg (rowA 300 f), .int .i64 i, .int .i64 j, .int .i64 v] w fun e w' => e = .returned (.agg (rowA 300 f)) ∧ Below w.heap.size w w' := by
  have HA := Lib.hid (above_is i j false h)
  clear h
  go_enter Try.func18, Try.ntmps18
  go_wp2_with fail
  rw [zeroCov]
  generalize hW : World.alloc (World.alloc w _) _ = W
  have hb : Below w.heap.size w W := by subst hW; exact ((Below.refl _ _).alloc (Nat.le_refl _) _).alloc (by simp) _
  have hB : Blk W w.heap.size (rowA 300 f) 29 := by subst hW; exact (Blk.made _ _ _ rfl).alloc _
  have hR : Blk W (w.heap.size + 1) (rowA 300 fun _ => 0) 29 := by subst hW; exact Blk.made _ _ _ (by simp)
  clear hW
  refine (HA.out _).mono ?_
  rintro e w' ⟨rfl, rfl⟩
  go_wp2_with (first
    | (refine row_load 29 _ rfl rfl w.heap.size 300 _ _ rfl hB _ Try.underlying29 rfl covSize ?_)
    | (refine row_store 29 _ _ rfl rfl (w.heap.size + 1) 300 _ _ _ rfl rfl hR covSize ?_))
  exact bodyPost_ret (v := .agg (rowA 300 f)) (results_row rfl _ _ (w.heap.size + 1) 300 _ _ _ rfl hR.setRow Try.underlying29 rfl covSize) rfl ⟨rfl, below_setRow hb (by omega) _⟩
theorem variance_any (p o : Nat) (a : Int) (h : Bool) (w : World) (fl : Fl p o h w) :
    Calls Try.prog 110 #[.pointer (some ⟨p, o, none⟩), .int .i64 a] w fun e w' => e = .returned (.int .i64 (clampv a 1 72057594037927936)) ∧ FlW p o (h || clamph a 1 72057594037927936) w w' := by
  go_enter Try.func110, Try.ntmps110
  go_wp2_with fail
  refine (clamp_any p o a _ _ h _ fl).mono ?_
  rintro e w1 ⟨rfl, k⟩
  go_wp2_with fail
  go_ret
  exact ⟨rfl, k⟩
theorem numSize : (Try.prog.info? 2).map (·.size) = some 1 := by kernel_rfl
theorem rowDSize : (Try.prog.info? 27).map (·.size) = some 24 := by kernel_rfl
theorem rowUSize : (Try.prog.info? 26).map (·.size) = some 276 := by kernel_rfl
set_option maxHeartbeats 2000000 in
theorem condition_any (p o : Nat) (f : Nat → Int) (h : Bool) (w : World) (fl : Fl p o h w) :
    Calls Try.prog 23 #[.pointer (some ⟨p, o, none⟩), .agg (rowA 300 f)] w fun e w' => e = .returned (.agg (rowA 300 (condF f))) ∧ FlW p o (h || condH f) w w' := by
  have hpw := fl.lt
  go_enter Try.func23, Try.ntmps23
  go_upto_region 1 with (fail)
  rw [zeroCov]
  generalize hW : World.alloc (World.alloc w _) _ = W
  have hF : FlW p o (h || hitD f 0) w W := by subst hW; exact flag_is (by simp [hitD]) (((FlW.refl fl).alloc _).alloc _)
  have hB : Blk W w.heap.size (rowA 300 (partD f 0)) 29 := by subst hW; rw [partD_zero]; exact (Blk.made _ _ _ rfl).alloc _
  have hR : Blk W (w.heap.size + 1) (rowA 300 fun _ => 0) 29 := by subst hW; exact Blk.made _ _ _ (by simp)
  have hz : w.heap.size + 1 < W.heap.size := by subst hW; simp
  clear hW
  have hI := hB.ints.part 276 24 (by omega)
  rw [partD_zero] at hI
  go_wp2_with (refine mid_load 27 _ rfl rfl w.heap.size (0 + 276) 24 _ rfl hI _ Try.underlying27 rfl rowDSize ?_)
  clear hI
  go_loopw [11] (fun i wr => ∃ k : Nat, k ≤ 24 ∧ i = .int .i64 k ∧ FlW p o (h || hitD f k) w wr ∧ w.heap.size + 1 < wr.heap.size ∧ Blk wr w.heap.size (rowA 300 (partD f k)) 29 ∧ Blk wr (w.heap.size + 1) (rowA 300 fun _ => 0) 29) (fun i _ => 24 - (intOf i).toNat)
  case atStart => exact ⟨0, by omega, rfl, hF, hz, hB, hR⟩
  case round =>
    obtain ⟨k, hk, rfl, hF, hz, hB, hR⟩ := hrel
    have fr := hF.fl fl
    by_cases hlt : k < 24
    · have hltI : (k : Int) < 24 := by omega
      have hk0 : (0 : Int) ≤ (k : Int) := by omega
      go_wp2_with (refine index_row 27 _ _ rfl rfl (n := 24) (j := k) _ rfl rfl Try.underlying27 Try.underlying2 numSize hlt ?_)
      refine (variance_any p o (f (276 + k)) _ _ fr).mono ?_
      rintro e w4 ⟨rfl, kk⟩
      have hB4 := hB.flag (by omega) kk
      have hR4 := hR.flag (by omega) kk
      have hc := hB4.cell (276 + k)
      rw [rowA_get _ (by omega)] at hc
      have hf := hB4.free (276 + k)
      have hz4 := kk.size
      have hB5 := hB4.setI (k := 276 + k) (by omega) (clampv (f (276 + k)) 1 72057594037927936)
      rw [partD_next] at hB5
      have hF5 := (hF.trans kk).other (b := w.heap.size) (i := 276 + k) (Nat.le_refl _) (.int .i64 (clampv (f (276 + k)) 1 72057594037927936))
      have hR5 := hR4.other (b := w.heap.size) (i := 276 + k) (by omega) (.int .i64 (clampv (f (276 + k)) 1 72057594037927936))
      have H := Lib.hid (And.intro hB5 (And.intro hF5 hR5))
      clear hB5 hF5 hR5 hB hR hF hB4 hR4
      go_wp2_with fail
      go_roundw
      case rel =>
        obtain ⟨hB5, hF5, hR5⟩ := H.out
        exact ⟨k + 1, by omega, by go_num, flag_is (by simp [hitD, Bool.or_assoc]) hF5, by rw [size_set]; omega, hB5, hR5⟩
      case measure => simp [intOf]; omega
    · obtain rfl : k = 24 := by omega
      clear hlt hk
      have hB1 := hB.congr (fun j hj => partU_zero hj)
      have hI : Ints wr w.heap.size (0 + 0) 276 (partD f 24) := (hB.ints.part 0 276 (by omega)).congr (fun j hj => by rw [Nat.zero_add])
      have hF1 : FlW p o (h || hitD f 24 || hitU f 0) w wr := flag_is (by simp [hitU]) hF
      have H := Lib.hid (And.intro hF1 hB1)
      clear hF hB hF1 hB1 fr
      go_wp2_with (refine mid_load 26 _ rfl rfl w.heap.size 0 276 _ rfl hI _ Try.underlying26 rfl rowUSize ?_)
      clear hI
      obtain ⟨hF, hB⟩ := H.out
      clear H
      go_loopw [24] (fun i wr => ∃ k : Nat, k ≤ 276 ∧ i = .int .i64 k ∧ FlW p o (h || hitD f 24 || hitU f k) w wr ∧ w.heap.size + 1 < wr.heap.size ∧ Blk wr w.heap.size (rowA 300 (partU f k)) 29 ∧ Blk wr (w.heap.size + 1) (rowA 300 fun _ => 0) 29) (fun i _ => 276 - (intOf i).toNat)
      case atStart => exact ⟨0, by omega, rfl, hF, hz, hB, hR⟩
      case round =>
        obtain ⟨k, hk, rfl, hF, hz, hB, hR⟩ := hrel
        have fr := hF.fl fl
        by_cases hlt : k < 276
        · have hltI : (k : Int) < 276 := by omega
          have hk0 : (0 : Int) ≤ (k : Int) := by omega
          go_wp2_with (refine index_row 26 _ _ rfl rfl (n := 276) (j := k) _ rfl rfl Try.underlying26 Try.underlying2 numSize hlt ?_)
          rw [partU_low f hlt]
          refine (clamp_max p o (f k) _ _ fr).mono ?_
          rintro e w4 ⟨rfl, kk⟩
          have hB4 := hB.flag (by omega) kk
          have hR4 := hR.flag (by omega) kk
          have hc := hB4.cell k
          rw [rowA_get _ (by omega)] at hc
          have hf := hB4.free k
          have hz4 := kk.size
          have hB5 := hB4.setI (k := k) (by omega) (satv (f k))
          rw [partU_next f hlt] at hB5
          have hF5 := (hF.trans kk).other (b := w.heap.size) (i := k) (Nat.le_refl _) (.int .i64 (satv (f k)))
          have hR5 := hR4.other (b := w.heap.size) (i := k) (by omega) (.int .i64 (satv (f k)))
          have H := Lib.hid (And.intro hB5 (And.intro hF5 hR5))
          clear hB5 hF5 hR5 hB hR hF hB4 hR4
          go_wp2_with fail
          go_roundw
          case rel =>
            obtain ⟨hB5, hF5, hR5⟩ := H.out
            exact ⟨k + 1, by omega, by go_num, flag_is (by simp [hitU, Bool.or_assoc]) hF5, by rw [size_set]; omega, hB5, hR5⟩
          case measure => simp [intOf]; omega
        · obtain rfl : k = 276 := by omega
          have hB := hB.congr (fun j _ => partU_all j)
          clear hlt hk
          go_wp2_with (first
            | (refine row_load 29 _ rfl rfl w.heap.size 300 _ _ rfl hB _ Try.underlying29 rfl covSize ?_)
            | (refine row_store 29 _ _ rfl rfl (w.heap.size + 1) 300 _ _ _ rfl rfl hR covSize ?_))
          exact bodyPost_ret (v := .agg (rowA 300 (condF f))) (results_row rfl _ _ (w.heap.size + 1) 300 _ _ _ rfl hR.setRow Try.underlying29 rfl covSize) rfl ⟨rfl, flag_is (by simp [condH, Bool.or_assoc]) (hF.row (by omega) _)⟩
end Go.Proofs.Ytaehmhdcniegkaa
