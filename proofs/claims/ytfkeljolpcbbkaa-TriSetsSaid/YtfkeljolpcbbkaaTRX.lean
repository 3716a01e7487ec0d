/- Package tri. -/
import Derived.Test.YtfkeljolpcbbkaaPE
import Derived.Test.YtfkeljolpcbbkaaRN
import Derived.BigQuiet
import Derived.Deep.QuietTactic

/- TriA -/
namespace Go.Proofs.Ytfkeljolpcbbkaa
open Go.RowKit

theorem exists_any (i : Int) (w : World) : Calls Try.prog 188 #[.int .i64 i] w fun e w' => e = .returned (.bool (inN i)) ∧ w = w' := by
  by_cases h1 : 0 ≤ i
  · by_cases h2 : i < 24
    · have HV := Lib.hid ((inN_iff i).2 ⟨h1, h2⟩)
      go_enter Try.func188, Try.ntmps188
      go_wp2
      go_ret
      exact ⟨ret_bool HV.out.symm, rfl⟩
    · have HV := Lib.hid ((inN_no i).2 (by omega))
      go_enter Try.func188, Try.ntmps188
      go_wp2
      go_ret
      exact ⟨ret_bool HV.out.symm, rfl⟩
  · have HV := Lib.hid ((inN_no i).2 (by omega))
    go_enter Try.func188, Try.ntmps188
    go_wp2
    go_ret
    exact ⟨ret_bool HV.out.symm, rfl⟩
theorem exists_is (i : Int) (b : Bool) (hb : inN i = b) (w : World) : Calls Try.prog 188 #[.int .i64 i] w fun e w' => e = .returned (.bool b) ∧ w = w' := by
  subst hb; exact exists_any i w
theorem above_is (i j : Int) (b : Bool) (hb : aboveB i j = b) (w : World) : Calls Try.prog 158 #[.int .i64 i, .int .i64 j] w fun e w' => e = .returned (.bool b) ∧ w = w' := by
  cases hi : inN i
  · have HV := Lib.hid (show aboveB i j = false by unfold aboveB; rw [hi]; rfl)
    have HI := Lib.hid (exists_is i false hi)
    have HB := Lib.hid hb
    clear hi hb
    go_enter Try.func158, Try.ntmps158
    go_wp2_with (refine (HI.out _).mono ?_; rintro e w' ⟨rfl, rfl⟩)
    go_ret
    exact ⟨ret_bool (HV.out.symm.trans HB.out), rfl⟩
  · cases hj : inN j
    · have HV := Lib.hid (show aboveB i j = false by unfold aboveB; rw [hi, hj]; rfl)
      have HI := Lib.hid (exists_is i true hi)
      have HJ := Lib.hid (exists_is j false hj)
      have HB := Lib.hid hb
      clear hi hj hb
      go_enter Try.func158, Try.ntmps158
      go_wp2_with fail
      refine (HI.out _).mono ?_
      rintro e w' ⟨rfl, rfl⟩
      go_wp2_with fail
      refine (HJ.out _).mono ?_
      rintro e w' ⟨rfl, rfl⟩
      go_wp2_with fail
      go_ret
      exact ⟨ret_bool (HV.out.symm.trans HB.out), rfl⟩
    · have HI := Lib.hid (exists_is i true hi)
      have HJ := Lib.hid (exists_is j true hj)
      have HB := Lib.hid hb
      have HV := Lib.hid (show aboveB i j = decide (i < j) by unfold aboveB; rw [hi, hj]; rfl)
      clear hi hj hb
      by_cases hlt : i < j
      · go_enter Try.func158, Try.ntmps158
        go_wp2_with fail
        refine (HI.out _).mono ?_
        rintro e w' ⟨rfl, rfl⟩
        go_wp2_with fail
        refine (HJ.out _).mono ?_
        rintro e w' ⟨rfl, rfl⟩
        go_wp2_with fail
        go_ret
        exact ⟨ret_bool ((HV.out.trans (decide_eq_true hlt)).symm.trans HB.out), rfl⟩
      · go_enter Try.func158, Try.ntmps158
        go_wp2_with fail
        refine (HI.out _).mono ?_
        rintro e w' ⟨rfl, rfl⟩
        go_wp2_with fail
        refine (HJ.out _).mono ?_
        rintro e w' ⟨rfl, rfl⟩
        go_wp2_with fail
        go_ret
        exact ⟨ret_bool (HV.out.symm.trans HB.out), rfl⟩
theorem place_is (i j : Int) (w : World) (h0 : 0 ≤ i) (h1 : i < j) (h2 : j < 24) : Calls Try.prog 159 #[.int .i64 i, .int .i64 j] w fun e w' => e = .returned (.int .i64 (plc i j)) ∧ w = w' := by
  obtain ⟨k0, k1, k2, k3⟩ := plc_bd h0 h1 h2
  have HP := Lib.hid (show plc i j = j * (j - 1) / 2 + i from rfl)
  have e1 : IntKind.i64.wrap (j * (j - 1)) = j * (j - 1) := i64_id _ (by omega) (by omega)
  have e2 : (j * (j - 1)).tdiv 2 = j * (j - 1) / 2 := Int.tdiv_eq_ediv_of_nonneg k0
  go_enter Try.func159, Try.ntmps159
  go_wp2
  go_ret
  exact ⟨ret_int (by rw [HP.out]), rfl⟩
end Go.Proofs.Ytfkeljolpcbbkaa

/- TriB -/
namespace Go.Proofs.Ytfkeljolpcbbkaa
open Go.RowKit

theorem below_drewN {w : World} (n N : Nat) : Below N w (w.drewN n) := ⟨rfl, rfl, rfl, Nat.le_refl _, fun _ _ => rfl⟩
theorem same_turned {P : Program} {k : FuncId} {args : Array Value} {v : Value} (h : ∀ w, Calls P k args w fun e w' => e = .returned v ∧ w = w') (w : World) : Calls P k args w fun e w' => e = .returned v ∧ w' = w :=
  (h w).mono fun _ _ ⟨h1, h2⟩ => ⟨h1, h2.symm⟩
theorem uF_in {f : Nat → Int} {i j : Int} (h0 : 0 ≤ i) (h1 : i < j) (h2 : j < 24) : uF f i j = f (plc i j).toNat := by
  unfold uF; rw [(aboveB_iff i j).2 ⟨h0, h1, h2⟩]; rfl
theorem uF_one {f : Nat → Int} {i j : Int} (h0 : 0 ≤ i) (h1 : i < 24) (h2 : i = j) : uF f i j = 1073741824 := by
  subst h2
  unfold uF
  rw [(aboveB_no i i).2 (by omega), (inN_iff i).2 ⟨h0, h1⟩, decide_eq_true rfl]; rfl
theorem uF_no {f : Nat → Int} {i j : Int} (h : i < 0 ∨ j < i ∨ 23 < j) : uF f i j = 0 := by
  unfold uF
  by_cases e : i = j
  · rw [(aboveB_no i j).2 (by omega), (inN_no i).2 (by omega), decide_eq_true e]; rfl
  · rw [(aboveB_no i j).2 (by omega), decide_eq_false e]; rfl
set_option maxHeartbeats 1000000 in
theorem upper_any (b : Nat) (f : Nat → Int) (i j : Int) (w : World) (hx : Ints w b 0 300 f) :
    Calls Try.prog 154 #[.pointer (some ⟨b, 0, none⟩), .int .i64 i, .int .i64 j] w fun e w' => e = .returned (.int .i64 (uF f i j)) ∧ Below w.heap.size w w' := by
  by_cases h : 0 ≤ i ∧ i < j ∧ j < 24
  · obtain ⟨h0, h1, h2⟩ := h
    obtain ⟨k0, k1, k2, k3⟩ := plc_bd h0 h1 h2
    have HU := Lib.hid (uF_in (f := f) h0 h1 h2)
    have HA := Lib.hid (above_is i j true ((aboveB_iff i j).2 ⟨h0, h1, h2⟩))
    have HP := Lib.hid (fun w => place_is i j w h0 h1 h2)
    have hc := hx.at_ (plc i j).toNat (by omega)
    clear k0 k1
    generalize hq : plc i j = q at *
    clear hq
    obtain ⟨n, rfl⟩ := Int.eq_ofNat_of_zero_le k2
    simp only [Int.toNat_natCast, Nat.zero_add] at hc
    have hn : n < 276 := by omega
    go_enter Try.func154, Try.ntmps154
    go_wp2_with fail
    refine (HA.out _).mono ?_
    rintro e w' ⟨rfl, rfl⟩
    go_wp2_with fail
    go_quiet ((go_at_call 159; exact Calls.quiet_of_same (same_turned HP.out _)))
    go_wp2_with fail
    go_ret
    exact ⟨ret_int HU.out.symm, below_drewN _ _⟩
  · have HA := Lib.hid (above_is i j false ((aboveB_no i j).2 (by omega)))
    by_cases h1 : i = j
    · subst h1
      by_cases h2 : 0 ≤ i ∧ i < 24
      · have HU := Lib.hid (uF_one (f := f) h2.1 h2.2 rfl)
        have HI := Lib.hid (exists_is i true ((inN_iff i).2 h2))
        clear h h2
        go_enter Try.func154, Try.ntmps154
        go_wp2_with fail
        refine (HA.out _).mono ?_
        rintro e w' ⟨rfl, rfl⟩
        go_wp2_with fail
        refine (HI.out _).mono ?_
        rintro e w' ⟨rfl, rfl⟩
        go_wp2_with fail
        go_ret
        exact ⟨ret_int HU.out.symm, Below.refl _ _⟩
      · have HU := Lib.hid (uF_no (f := f) (show i < 0 ∨ i < i ∨ 23 < i by omega))
        have HI := Lib.hid (exists_is i false ((inN_no i).2 (by omega)))
        clear h h2
        go_enter Try.func154, Try.ntmps154
        go_wp2_with fail
        refine (HA.out _).mono ?_
        rintro e w' ⟨rfl, rfl⟩
        go_wp2_with fail
        refine (HI.out _).mono ?_
        rintro e w' ⟨rfl, rfl⟩
        go_wp2_with fail
        go_ret
        exact ⟨ret_int HU.out.symm, Below.refl _ _⟩
    · have HU := Lib.hid (uF_no (f := f) (show i < 0 ∨ j < i ∨ 23 < j by omega))
      have hne : (i == j) = false := by simpa using h1
      clear h
      go_enter Try.func154, Try.ntmps154
      go_wp2_with fail
      refine (HA.out _).mono ?_
      rintro e w' ⟨rfl, rfl⟩
      go_wp2_with fail
      go_ret
      exact ⟨ret_int HU.out.symm, Below.refl _ _⟩
end Go.Proofs.Ytfkeljolpcbbkaa

/- TriD -/
namespace Go.Proofs.Ytfkeljolpcbbkaa
open Go.RowKit

theorem zeroCov : Try.zeroCells93 = rowA 300 (fun _ => 0) := by kernel_rfl
theorem covSize : (Try.prog.info? 93).map (·.size) = some 300 := by kernel_rfl
set_option maxHeartbeats 1000000 in
theorem triU_any (f : Nat → Int) (i j : Int) (w : World) :
    Calls Try.prog 85 #[.agg (rowA 300 f), .int .i64 i, .int .i64 j] w fun e w' => e = .returned (.int .i64 (uF f i j)) ∧ Below w.heap.size w w' := by
  go_enter Try.func85, Try.ntmps85
  go_wp2_with fail
  generalize hW : World.alloc w _ = W
  have hb : Below w.heap.size w W := by subst hW; exact (Below.refl _ _).alloc (Nat.le_refl _) _
  have hB : Blk W w.heap.size (rowA 300 f) 93 := by subst hW; exact Blk.made _ _ _ rfl
  clear hW
  refine (upper_any w.heap.size f i j W hB.ints).mono ?_
  rintro e w' ⟨rfl, hb2⟩
  go_wp2_with fail
  go_ret
  exact ⟨rfl, hb.trans (hb2.mono hb.size)⟩
set_option maxHeartbeats 1000000 in
theorem set_in (f : Nat → Int) (i j v : Int) (w : World) (h0 : 0 ≤ i) (h1 : i < j) (h2 : j < 24) :
    Calls Try.prog 92 #[.agg (rowA 300 f), .int .i64 i, .int .i64 j, .int .i64 v] w fun e w' => e = .returned (.agg (rowA 300 (upd f (plc i j).toNat v))) ∧ Below w.heap.size w w' := by
  have HA := Lib.hid (above_is i j true ((aboveB_iff i j).2 ⟨h0, h1, h2⟩))
  have HP := Lib.hid (fun w => place_is i j w h0 h1 h2)
  obtain ⟨k0, k1, k2, k3⟩ := plc_bd h0 h1 h2
  generalize plc i j = q at *
  obtain ⟨n, rfl⟩ := Int.eq_ofNat_of_zero_le k2
  have hn : n < 276 := by omega
  simp only [Int.toNat_natCast]
  clear k0 k1 k2 k3
  go_enter Try.func92, Try.ntmps92
  go_wp2_with fail
  rw [zeroCov]
  generalize hW : World.alloc (World.alloc w _) _ = W
  have hb : Below w.heap.size w W := by subst hW; exact ((Below.refl _ _).alloc (Nat.le_refl _) _).alloc (by simp) _
  have hB : Blk W w.heap.size (rowA 300 f) 93 := by subst hW; exact (Blk.made _ _ _ rfl).alloc _
  have hR : Blk W (w.heap.size + 1) (rowA 300 fun _ => 0) 93 := by subst hW; exact Blk.made _ _ _ (by simp)
  clear hW
  refine (HA.out _).mono ?_
  rintro e w' ⟨rfl, rfl⟩
  have hc := hB.cell n
  rw [rowA_get _ (by omega)] at hc
  have hf := hB.free n
  go_wp2_with fail
  refine (HP.out _).mono ?_
  rintro e w' ⟨rfl, rfl⟩
  go_upto_region 3 with (fail)
  have hB2 := hB.setI (k := n) (by omega) v
  have hR2 := hR.other (b := w.heap.size) (i := n) (by omega) (.int .i64 v)
  have hb2 := hb.setCell (p := ⟨w.heap.size, n, none⟩) (Nat.le_refl _) (.int .i64 v)
  generalize World.setCell _ _ _ = W2 at *
  go_wp2_with (first
    | (refine row_load 93 _ rfl rfl w.heap.size 300 _ _ rfl hB2 _ Try.underlying93 rfl covSize ?_)
    | (refine row_store 93 _ _ rfl rfl (w.heap.size + 1) 300 _ _ _ rfl rfl hR2 covSize ?_))
  exact bodyPost_ret (v := .agg (rowA 300 (upd f n v))) (results_row rfl _ _ (w.heap.size + 1) 300 _ _ _ rfl hR2.setRow Try.underlying93 rfl covSize) rfl ⟨rfl, below_setRow hb2 (by omega) _⟩
set_option maxHeartbeats 1000000 in
theorem set_out (f : Nat → Int) (i j v : Int) (w : World) (h : aboveB i j = false) :
    Calls Try.prog 92 #[.agg (rowA 300 f), .int .i64 i, .int .i64 j, .int .i64 v] w fun e w' => e = .returned (.agg (rowA 300 f)) ∧ Below w.heap.size w w' := by
  have HA := Lib.hid (above_is i j false h)
  clear h
  go_enter Try.func92, Try.ntmps92
  go_wp2_with fail
  rw [zeroCov]
  generalize hW : World.alloc (World.alloc w _) _ = W
  have hb : Below w.heap.size w W := by subst hW; exact ((Below.refl _ _).alloc (Nat.le_refl _) _).alloc (by simp) _
  have hB : Blk W w.heap.size (rowA 300 f) 93 := by subst hW; exact (Blk.made _ _ _ rfl).alloc _
  have hR : Blk W (w.heap.size + 1) (rowA 300 fun _ => 0) 93 := by subst hW; exact Blk.made _ _ _ (by simp)
  clear hW
  refine (HA.out _).mono ?_
  rintro e w' ⟨rfl, rfl⟩
  go_wp2_with (first
    | (refine row_load 93 _ rfl rfl w.heap.size 300 _ _ rfl hB _ Try.underlying93 rfl covSize ?_)
    | (refine row_store 93 _ _ rfl rfl (w.heap.size + 1) 300 _ _ _ rfl rfl hR covSize ?_))
  exact bodyPost_ret (v := .agg (rowA 300 f)) (results_row rfl _ _ (w.heap.size + 1) 300 _ _ _ rfl hR.setRow Try.underlying93 rfl covSize) rfl ⟨rfl, below_setRow hb (by omega) _⟩
theorem variance_any (p o : Nat) (a : Int) (h : Bool) (w : World) (fl : Fl p o h w) :
    Calls Try.prog 157 #[.pointer (some ⟨p, o, none⟩), .int .i64 a] w fun e w' => e = .returned (.int .i64 (clampv a 1 72057594037927936)) ∧ FlW p o (h || clamph a 1 72057594037927936) w w' := by
  go_enter Try.func157, Try.ntmps157
  go_wp2_with fail
  refine (clamp_any p o a _ _ h _ fl).mono ?_
  rintro e w1 ⟨rfl, k⟩
  go_wp2_with fail
  go_ret
  exact ⟨rfl, k⟩
theorem numSize : (Try.prog.info? 2).map (·.size) = some 1 := by kernel_rfl
theorem rowDSize : (Try.prog.info? 91).map (·.size) = some 24 := by kernel_rfl
theorem rowUSize : (Try.prog.info? 90).map (·.size) = some 276 := by kernel_rfl
set_option maxHeartbeats 2000000 in
theorem condition_any (p o : Nat) (f : Nat → Int) (h : Bool) (w : World) (fl : Fl p o h w) :
    Calls Try.prog 89 #[.pointer (some ⟨p, o, none⟩), .agg (rowA 300 f)] w fun e w' => e = .returned (.agg (rowA 300 (condF f))) ∧ FlW p o (h || condH f) w w' := by
  have hpw := fl.lt
  go_enter Try.func89, Try.ntmps89
  go_upto_region 1 with (fail)
  rw [zeroCov]
  generalize hW : World.alloc (World.alloc w _) _ = W
  have hF : FlW p o (h || hitD f 0) w W := by subst hW; exact flag_is (by simp [hitD]) (((FlW.refl fl).alloc _).alloc _)
  have hB : Blk W w.heap.size (rowA 300 (partD f 0)) 93 := by subst hW; rw [partD_zero]; exact (Blk.made _ _ _ rfl).alloc _
  have hR : Blk W (w.heap.size + 1) (rowA 300 fun _ => 0) 93 := by subst hW; exact Blk.made _ _ _ (by simp)
  have hz : w.heap.size + 1 < W.heap.size := by subst hW; simp
  clear hW
  have hI := hB.ints.part 276 24 (by omega)
  rw [partD_zero] at hI
  go_wp2_with (refine mid_load 91 _ rfl rfl w.heap.size (0 + 276) 24 _ rfl hI _ Try.underlying91 rfl rowDSize ?_)
  clear hI
  go_loopw [11] (fun i wr => ∃ k : Nat, k ≤ 24 ∧ i = .int .i64 k ∧ FlW p o (h || hitD f k) w wr ∧ w.heap.size + 1 < wr.heap.size ∧ Blk wr w.heap.size (rowA 300 (partD f k)) 93 ∧ Blk wr (w.heap.size + 1) (rowA 300 fun _ => 0) 93) (fun i _ => 24 - (intOf i).toNat)
  case atStart => exact ⟨0, by omega, rfl, hF, hz, hB, hR⟩
  case round =>
    obtain ⟨k, hk, rfl, hF, hz, hB, hR⟩ := hrel
    have fr := hF.fl fl
    by_cases hlt : k < 24
    · have hltI : (k : Int) < 24 := by omega
      have hk0 : (0 : Int) ≤ (k : Int) := by omega
      go_wp2_with (refine index_row 91 _ _ rfl rfl (n := 24) (j := k) _ rfl rfl Try.underlying91 Try.underlying2 numSize hlt ?_)
      refine (variance_any p o (f (276 + k)) _ _ fr).mono ?_
      rintro e w4 ⟨rfl, kk⟩
      have hB4 := hB.flag (by omega) kk
      have hR4 := hR.flag (by omega) kk
      have hc := hB4.cell (276 + k)
      rw [rowA_get _ (by omega)] at hc
      have hf := hB4.free (276 + k)
      have hz4 := kk.size
      have hB5 := hB4.setI (k := 276 + k) (by omega) (clampv (f (276 + k)) 1 72057594037927936)
      rw [partD_next] at hB5
      have hF5 := (hF.trans kk).other (b := w.heap.size) (i := 276 + k) (Nat.le_refl _) (.int .i64 (clampv (f (276 + k)) 1 72057594037927936))
      have hR5 := hR4.other (b := w.heap.size) (i := 276 + k) (by omega) (.int .i64 (clampv (f (276 + k)) 1 72057594037927936))
      have H := Lib.hid (And.intro hB5 (And.intro hF5 hR5))
      clear hB5 hF5 hR5 hB hR hF hB4 hR4
      go_wp2_with fail
      go_roundw
      case rel =>
        obtain ⟨hB5, hF5, hR5⟩ := H.out
        exact ⟨k + 1, by omega, by go_num, flag_is (by simp [hitD, Bool.or_assoc]) hF5, by rw [size_set]; omega, hB5, hR5⟩
      case measure => simp [intOf]; omega
    · obtain rfl : k = 24 := by omega
      clear hlt hk
      have hB1 := hB.congr (fun j hj => partU_zero hj)
      have hI : Ints wr w.heap.size (0 + 0) 276 (partD f 24) := (hB.ints.part 0 276 (by omega)).congr (fun j hj => by rw [Nat.zero_add])
      have hF1 : FlW p o (h || hitD f 24 || hitU f 0) w wr := flag_is (by simp [hitU]) hF
      have H := Lib.hid (And.intro hF1 hB1)
      clear hF hB hF1 hB1 fr
      go_wp2_with (refine mid_load 90 _ rfl rfl w.heap.size 0 276 _ rfl hI _ Try.underlying90 rfl rowUSize ?_)
      clear hI
      obtain ⟨hF, hB⟩ := H.out
      clear H
      go_loopw [24] (fun i wr => ∃ k : Nat, k ≤ 276 ∧ i = .int .i64 k ∧ FlW p o (h || hitD f 24 || hitU f k) w wr ∧ w.heap.size + 1 < wr.heap.size ∧ Blk wr w.heap.size (rowA 300 (partU f k)) 93 ∧ Blk wr (w.heap.size + 1) (rowA 300 fun _ => 0) 93) (fun i _ => 276 - (intOf i).toNat)
      case atStart => exact ⟨0, by omega, rfl, hF, hz, hB, hR⟩
      case round =>
        obtain ⟨k, hk, rfl, hF, hz, hB, hR⟩ := hrel
        have fr := hF.fl fl
        by_cases hlt : k < 276
        · have hltI : (k : Int) < 276 := by omega
          have hk0 : (0 : Int) ≤ (k : Int) := by omega
          go_wp2_with (refine index_row 90 _ _ rfl rfl (n := 276) (j := k) _ rfl rfl Try.underlying90 Try.underlying2 numSize hlt ?_)
          rw [partU_low f hlt]
          refine (clamp_max p o (f k) _ _ fr).mono ?_
          rintro e w4 ⟨rfl, kk⟩
          have hB4 := hB.flag (by omega) kk
          have hR4 := hR.flag (by omega) kk
          have hc := hB4.cell k
          rw [rowA_get _ (by omega)] at hc
          have hf := hB4.free k
          have hz4 := kk.size
          have hB5 := hB4.setI (k := k) (by omega) (satv (f k))
          rw [partU_next f hlt] at hB5
          have hF5 := (hF.trans kk).other (b := w.heap.size) (i := k) (Nat.le_refl _) (.int .i64 (satv (f k)))
          have hR5 := hR4.other (b := w.heap.size) (i := k) (by omega) (.int .i64 (satv (f k)))
          have H := Lib.hid (And.intro hB5 (And.intro hF5 hR5))
          clear hB5 hF5 hR5 hB hR hF hB4 hR4
          go_wp2_with fail
          go_roundw
          case rel =>
            obtain ⟨hB5, hF5, hR5⟩ := H.out
            exact ⟨k + 1, by omega, by go_num, flag_is (by simp [hitU, Bool.or_assoc]) hF5, by rw [size_set]; omega, hB5, hR5⟩
          case measure => simp [intOf]; omega
        · obtain rfl : k = 276 := by omega
          have hB := hB.congr (fun j _ => partU_all j)
          clear hlt hk
          go_wp2_with (first
            | (refine row_load 93 _ rfl rfl w.heap.size 300 _ _ rfl hB _ Try.underlying93 rfl covSize ?_)
            | (refine row_store 93 _ _ rfl rfl (w.heap.size + 1) 300 _ _ _ rfl rfl hR covSize ?_))
          exact bodyPost_ret (v := .agg (rowA 300 (condF f))) (results_row rfl _ _ (w.heap.size + 1) 300 _ _ _ rfl hR.setRow Try.underlying93 rfl covSize) rfl ⟨rfl, flag_is (by simp [condH, Bool.or_assoc]) (hF.row (by omega) _)⟩
end Go.Proofs.Ytfkeljolpcbbkaa

/- TriC -/
namespace Go.Proofs.Ytfkeljolpcbbkaa
open Go.RowKit

theorem zero24 : (#[.int .i64 0, .int .i64 0, .int .i64 0, .int .i64 0, .int .i64 0, .int .i64 0, .int .i64 0, .int .i64 0, .int .i64 0, .int .i64 0, .int .i64 0, .int .i64 0, .int .i64 0, .int .i64 0, .int .i64 0, .int .i64 0, .int .i64 0, .int .i64 0, .int .i64 0, .int .i64 0, .int .i64 0, .int .i64 0, .int .i64 0, .int .i64 0] : Array Value) = rowA 24 (fun _ => 0) := by kernel_rfl
theorem mul_mulv (p o : Nat) (a b : Int) (h : Bool) (w : World) (f : Fl p o h w) :
    Calls Try.prog 45 #[.pointer (some ⟨p, o, none⟩), .int .i64 a, .int .i64 b, .int .i64 30] w fun e w' => e = .returned (.int .i64 (mulv a b)) ∧ FlW p o (h || mulh a b) w w' := by
  have := mul_fx p o a b 30 h w f (by omega)
  refine this.mono ?_
  rintro e w' ⟨rfl, k⟩
  exact ⟨rfl, flag_is (by simp [mulh, Bool.or_assoc]) k⟩
def rowX (f : Nat → Int) (i : Int) (m t : Nat) : Nat → Int := fun k => if m ≤ k ∧ k < m + t then uF f i (k : Int) else 0
def rowY (f : Nat → Int) (j : Int) (m t : Nat) : Nat → Int := fun k => if m ≤ k ∧ k < m + t then mulv (uF f j (k : Int)) (f (276 + k)) else 0
theorem rowX_zero (f : Nat → Int) (i : Int) (m : Nat) : rowX f i m 0 = fun _ => 0 := by funext k; unfold rowX; rw [if_neg (by omega)]
theorem rowY_zero (f : Nat → Int) (i : Int) (m : Nat) : rowY f i m 0 = fun _ => 0 := by funext k; unfold rowY; rw [if_neg (by omega)]
theorem rowX_next (f : Nat → Int) (i : Int) (m t : Nat) : upd (rowX f i m t) (m + t) (uF f i ((m + t : Nat) : Int)) = rowX f i m (t + 1) := by
  funext k; unfold upd rowX
  by_cases h : k = m + t
  · subst h; rw [if_pos rfl, if_pos (by omega)]
  · rw [if_neg h]
    by_cases h2 : m ≤ k ∧ k < m + t
    · rw [if_pos h2, if_pos (by omega)]
    · rw [if_neg h2, if_neg (by omega)]
theorem rowY_next (f : Nat → Int) (i : Int) (m t : Nat) : upd (rowY f i m t) (m + t) (mulv (uF f i ((m + t : Nat) : Int)) (f (276 + (m + t)))) = rowY f i m (t + 1) := by
  funext k; unfold upd rowY
  by_cases h : k = m + t
  · subst h; rw [if_pos rfl, if_pos (by omega)]
  · rw [if_neg h]
    by_cases h2 : m ≤ k ∧ k < m + t
    · rw [if_pos h2, if_pos (by omega)]
    · rw [if_neg h2, if_neg (by omega)]
theorem rowX_at (f : Nat → Int) (i : Int) {m n k : Nat} (hk : k < n) : rowX f i m n (m + k) = atX f i m k := by unfold rowX atX; rw [if_pos (by omega)]
theorem rowY_at (f : Nat → Int) (i : Int) {m n k : Nat} (hk : k < n) : rowY f i m n (m + k) = atY f i m k := by unfold rowY atY; rw [if_pos (by omega)]
set_option maxHeartbeats 4000000 in
theorem product_in (p o b : Nat) (f : Nat → Int) (i j m : Nat) (h : Bool) (w : World) (fl : Fl p o h w) (hb : b < w.heap.size) (hbp : b ≠ p) (hx : Ints w b 0 300 f) (hi : i < 24) (hj : j < 24) (hm : max (i : Int) (j : Int) = (m : Int)) :
    Calls Try.prog 156 #[.pointer (some ⟨p, o, none⟩), .pointer (some ⟨b, 0, none⟩), .int .i64 i, .int .i64 j] w fun e w' => e = .returned (.int .i64 (satv (rnd (sumP (atX f i m) (atY f j m) (24 - m)) 30))) ∧
      FlW p o (h || anyY f j m (24 - m) || anyP (atX f i m) (atY f j m) (24 - m) || sath (rnd (sumP (atX f i m) (atY f j m) (24 - m)) 30)) w w' := by
  have hpw := fl.lt
  have HI := Lib.hid (exists_is i true ((inN_iff i).2 (by omega)))
  have HJ := Lib.hid (exists_is j true ((inN_iff j).2 (by omega)))
  have HM := Lib.hid hm
  have hm24 : m < 24 := by omega
  clear hm
  go_enter Try.func156, Try.ntmps156
  go_wp2_with fail
  refine (HI.out _).mono ?_
  rintro e w' ⟨rfl, rfl⟩
  go_wp2_with fail
  refine (HJ.out _).mono ?_
  rintro e w' ⟨rfl, rfl⟩
  go_upto_region 4 with (fail)
  rw [zero24]
  generalize hW : World.alloc (World.alloc w _) _ = W
  have hF : FlW p o (h || anyY f j m 0) w W := by subst hW; exact flag_is (by simp [anyY]) (((FlW.refl fl).alloc _).alloc _)
  have hX : Blk W w.heap.size (rowA 24 (rowX f i m 0)) 91 := by subst hW; rw [rowX_zero]; exact (Blk.made _ _ _ rfl).alloc _
  have hY : Blk W (w.heap.size + 1) (rowA 24 (rowY f j m 0)) 91 := by subst hW; rw [rowY_zero]; exact Blk.made _ _ _ (by simp)
  have hz : w.heap.size + 1 < W.heap.size := by subst hW; simp
  clear hW
  go_wp2_with fail
  rw [HM.out]
  go_loopw [12] (fun i' wr => ∃ k : Nat, k ≤ 24 - m ∧ i' = .int .i64 ((m + k : Nat) : Int) ∧ FlW p o (h || anyY f j m k) w wr ∧ w.heap.size + 1 < wr.heap.size ∧ Blk wr w.heap.size (rowA 24 (rowX f i m k)) 91 ∧ Blk wr (w.heap.size + 1) (rowA 24 (rowY f j m k)) 91) (fun i' _ => 24 - (intOf i').toNat)
  case atStart => exact ⟨0, by omega, rfl, hF, hz, hX, hY⟩
  case round =>
    obtain ⟨k, hk, rfl, hF, hz, hX, hY⟩ := hrel
    have fr := hF.fl fl
    by_cases hlt : k < 24 - m
    · have hlt2 : m + k < 24 := by omega
      have hxw : Ints wr b 0 300 f := ⟨fun q hq => (hF.cell hb (.inl hbp)).trans (hx.at_ q hq)⟩
      have HNX := Lib.hid (rowX_next f i m k)
      have HNY := Lib.hid (rowY_next f j m k)
      generalize hq : m + k = q at *
      have hltI : (q : Int) < 24 := by omega
      have hk0 : (0 : Int) ≤ (q : Int) := by omega
      go_wp2_with fail
      refine (upper_any b f i q wr hxw).mono ?_
      rintro e w3 ⟨rfl, hb3⟩
      have hX3 := hX.call hb3
      have hY3 := hY.call hb3
      have hF3 := hF.then hb3
      have hz3 := hb3.size
      have hc3 := hX3.cell q
      rw [rowA_get _ hlt2] at hc3
      have hf3 := hX3.free q
      have hx3 : Ints w3 b 0 300 f := hxw.below hb3 (by omega)
      have H3 := Lib.hid (And.intro hX3 (And.intro hY3 (And.intro hF3 hx3)))
      clear hX3 hY3 hF3 hx3 hX hY hF hxw hx fr
      go_upto_region 9 with (fail)
      obtain ⟨hX3, hY3, hF3, hx3⟩ := H3.out
      clear H3
      have hX4 := hX3.setI (k := q) hlt2 (uF f i q)
      rw [HNX.out] at hX4
      have hY4 := hY3.other (b := w.heap.size) (i := q) (by omega) (.int .i64 (uF f i q))
      have hF4 := hF3.other (b := w.heap.size) (i := q) (Nat.le_refl _) (.int .i64 (uF f i q))
      have hx4 : Ints (w3.setCell ⟨w.heap.size, q, none⟩ (.int .i64 (uF f i q))) b 0 300 f := ⟨fun r hr => (set_cell_other (.inl (by omega)) _).trans (hx3.at_ r hr)⟩
      have hz4 : w.heap.size + 1 < (w3.setCell ⟨w.heap.size, q, none⟩ (.int .i64 (uF f i q))).heap.size := by rw [size_set]; omega
      clear hX3 hY3 hF3 hx3 hc3 hf3 hz3
      generalize World.setCell _ _ _ = W4 at *
      have D4 := hx4.at_ (276 + q) (by omega)
      rw [Nat.zero_add] at D4
      have f4 := hF4.fl fl
      have hb4 : b < W4.heap.size := by omega
      go_region_with (first
        | (go_at_call 154; refine (upper_any b f j q _ hx4.drew).mono ?_; rintro e w5 ⟨rfl, hb5⟩; have d5 := (cellAt (b := b) (i := 276 + q) hb5 hb4).trans D4; have f5 := f4.drew.below hb5; have hY5 := hY4.drew.call hb5; have hX5 := hX4.drew.call hb5; have z5 := hb5.size; have F5 := hF4.drew.then hb5)
        | (go_at_call 45; refine (mul_mulv p o (uF f j q) (f (276 + q)) _ _ f5).mono ?_; rintro e w6 ⟨rfl, k6⟩; have hY6 := hY5.flag (by omega) k6; have hX6 := hX5.flag (by omega) k6; have z6 := k6.size; have c6 := hY6.cell q; rw [rowA_get _ hlt2] at c6; have g6 := hY6.free q; have F6 := F5.trans k6))
      all_goals
        have hY7 := hY6.setI (k := q) hlt2 (mulv (uF f j q) (f (276 + q)))
        rw [HNY.out] at hY7
        have hX7 := hX6.other (b := w.heap.size + 1) (i := q) (by omega) (.int .i64 (mulv (uF f j q) (f (276 + q))))
        have F7 := F6.other (b := w.heap.size + 1) (i := q) (by omega) (.int .i64 (mulv (uF f j q) (f (276 + q))))
        have H := Lib.hid (And.intro hY7 (And.intro hX7 F7))
        have hs7 : w.heap.size + 1 < w6.heap.size := Nat.lt_of_lt_of_le (Nat.lt_of_lt_of_le hz4 z5) z6
        clear hY7 hX7 F7 hY6 hX6 F6 hY5 hX5 F5 hX4 hY4 hF4 hx4 D4 f4 d5 f5 c6 g6 HNY HNX
        go_wp2_with fail
        go_roundw
        case rel =>
          obtain ⟨hY7, hX7, F7⟩ := H.out
          exact ⟨k + 1, by omega, by rw [← Nat.add_assoc, hq]; go_num, flag_is (by rw [anyY, hq, Bool.or_assoc]) F7, by rw [size_set]; exact hs7, hX7, hY7⟩
        case measure => simp [intOf]; omega
    · obtain rfl : k = 24 - m := by omega
      have hX8 : Ints wr w.heap.size (0 + m) (24 - m) (atX f i m) := (hX.ints.part m (24 - m) (by omega)).congr (fun t ht => rowX_at f i ht)
      have hY8 : Ints wr (w.heap.size + 1) (0 + m) (24 - m) (atY f j m) := (hY.ints.part m (24 - m) (by omega)).congr (fun t ht => rowY_at f j ht)
      rw [Nat.zero_add] at hX8 hY8
      have e24 : m + (24 - m) = 24 := by omega
      rw [e24]
      clear e24 hX hY hx hlt hk
      go_wp2_with fail
      have m0 : (0 : Int) ≤ (m : Int) := by omega
      have m1 : (m : Int) ≤ 24 := by omega
      have m2 : ¬ 24 = m := by omega
      have m3 : ¬ m = 24 := by omega
      go_region_with (first
        | (go_at_call 54; (refine (dot_fx p o w.heap.size m (24 - m) (24 - m) (w.heap.size + 1) m (24 - m) (24 - m) (atX f i m) (atY f j m) 30 (24 - m) _ _ fr.drew (by omega) (by omega) (Nat.le_refl _) (Nat.le_refl _) (by omega) (Nat.lt_trans (Nat.lt_succ_self _) hz) hz (by omega) (by omega) hX8.drew hY8.drew).mono ?_; rintro e w5 ⟨rfl, k5⟩)))
      all_goals
        go_wp2_with fail
        go_ret
        exact ⟨rfl, hF.drew.trans k5⟩
theorem max_nat (i j : Nat) : max (i : Int) (j : Int) = ((max i j : Nat) : Int) := by omega
set_option maxHeartbeats 1000000 in
theorem product_any (p o b : Nat) (f : Nat → Int) (i j : Int) (h : Bool) (w : World) (fl : Fl p o h w) (hb : b < w.heap.size) (hbp : b ≠ p) (hx : Ints w b 0 300 f) :
    Calls Try.prog 156 #[.pointer (some ⟨p, o, none⟩), .pointer (some ⟨b, 0, none⟩), .int .i64 i, .int .i64 j] w fun e w' => e = .returned (.int .i64 (atV f i j)) ∧ FlW p o (h || atH f i j) w w' := by
  cases hi : inN i
  · have HI := Lib.hid (exists_is i false hi)
    have HV := Lib.hid (show atV f i j = 0 ∧ atH f i j = false by unfold atV atH; rw [hi]; exact ⟨rfl, rfl⟩)
    clear hi
    go_enter Try.func156, Try.ntmps156
    go_wp2_with fail
    refine (HI.out _).mono ?_
    rintro e w' ⟨rfl, rfl⟩
    go_wp2_with fail
    go_ret
    exact ⟨ret_int HV.out.1.symm, flag_is (by rw [HV.out.2, Bool.or_false]) (FlW.refl fl)⟩
  · cases hj : inN j
    · have HI := Lib.hid (exists_is i true hi)
      have HJ := Lib.hid (exists_is j false hj)
      have HV := Lib.hid (show atV f i j = 0 ∧ atH f i j = false by unfold atV atH; rw [hi, hj]; exact ⟨rfl, rfl⟩)
      clear hi hj
      go_enter Try.func156, Try.ntmps156
      go_wp2_with fail
      refine (HI.out _).mono ?_
      rintro e w' ⟨rfl, rfl⟩
      go_wp2_with fail
      refine (HJ.out _).mono ?_
      rintro e w' ⟨rfl, rfl⟩
      go_wp2_with fail
      go_ret
      exact ⟨ret_int HV.out.1.symm, flag_is (by rw [HV.out.2, Bool.or_false]) (FlW.refl fl)⟩
    · have hi' := (inN_iff i).1 hi
      have hj' := (inN_iff j).1 hj
      obtain ⟨a, rfl⟩ := Int.eq_ofNat_of_zero_le hi'.1
      obtain ⟨c, rfl⟩ := Int.eq_ofNat_of_zero_le hj'.1
      refine (product_in p o b f a c (max a c) h w fl hb hbp hx (by omega) (by omega) (max_nat a c)).mono ?_
      rintro e w' ⟨rfl, k⟩
      have em : (max (a : Int) (c : Int)).toNat = max a c := by omega
      refine ⟨ret_int ?_, flag_is ?_ k⟩
      · unfold atV atS; rw [hi, hj, em]; rfl
      · unfold atH atS; rw [hi, hj, em]; simp [Bool.or_assoc]
theorem at_any (p o : Nat) (f : Nat → Int) (i j : Int) (h : Bool) (w : World) (fl : Fl p o h w) :
    Calls Try.prog 87 #[.pointer (some ⟨p, o, none⟩), .agg (rowA 300 f), .int .i64 i, .int .i64 j] w fun e w' => e = .returned (.int .i64 (atV f i j)) ∧ FlW p o (h || atH f i j) w w' := by
  have hpw := fl.lt
  go_enter Try.func87, Try.ntmps87
  go_wp2_with fail
  generalize hW : World.alloc w _ = W
  have hF : FlW p o h w W := by subst hW; exact (FlW.refl fl).alloc _
  have hB : Blk W w.heap.size (rowA 300 f) 93 := by subst hW; exact Blk.made _ _ _ rfl
  clear hW
  refine (product_any p o w.heap.size f i j h W (hF.fl fl) hB.lt (by omega) hB.ints).mono ?_
  rintro e w' ⟨rfl, k⟩
  go_wp2_with fail
  go_ret
  exact ⟨rfl, hF.trans k⟩
set_option maxHeartbeats 1000000 in
theorem diag_any (p o : Nat) (f : Nat → Int) (h : Bool) (w : World) (fl : Fl p o h w) :
    Calls Try.prog 91 #[.pointer (some ⟨p, o, none⟩), .agg (rowA 300 f)] w fun e w' => e = .returned (.agg (rowA 24 (diagF f 24))) ∧ FlW p o (h || diagH f 24) w w' := by
  have hpw := fl.lt
  go_enter Try.func91, Try.ntmps91
  go_upto_region 2 with (fail)
  rw [zero24]
  generalize hW : World.alloc (World.alloc (World.alloc w _) _) _ = W
  have hF : FlW p o (h || diagH f 0) w W := by subst hW; exact flag_is (by simp [diagH]) ((((FlW.refl fl).alloc _).alloc _).alloc _)
  have hB : Blk W w.heap.size (rowA 300 f) 93 := by subst hW; exact ((Blk.made _ _ _ rfl).alloc _).alloc _
  have hR : Blk W (w.heap.size + 1) (rowA 24 fun _ => 0) 91 := by subst hW; exact (Blk.made _ _ _ (by simp)).alloc _
  have hL : Blk W (w.heap.size + 2) (rowA 24 (diagF f 0)) 91 := by subst hW; rw [diagF_zero]; exact Blk.made _ _ _ (by simp)
  have hz : w.heap.size + 2 < W.heap.size := by subst hW; simp
  clear hW
  go_wp2_with fail
  go_loopw [7] (fun i wr => ∃ k : Nat, k ≤ 24 ∧ i = .int .i64 k ∧ FlW p o (h || diagH f k) w wr ∧ w.heap.size + 2 < wr.heap.size ∧ Blk wr w.heap.size (rowA 300 f) 93 ∧ Blk wr (w.heap.size + 1) (rowA 24 fun _ => 0) 91 ∧ Blk wr (w.heap.size + 2) (rowA 24 (diagF f k)) 91) (fun i _ => 24 - (intOf i).toNat)
  case atStart => exact ⟨0, by omega, rfl, hF, hz, hB, hR, hL⟩
  case round =>
    obtain ⟨k, hk, rfl, hF, hz, hB, hR, hL⟩ := hrel
    have fr := hF.fl fl
    by_cases hlt : k < 24
    · have hltI : (k : Int) < 24 := by omega
      have hk0 : (0 : Int) ≤ (k : Int) := by omega
      go_wp2_with fail
      refine (product_any p o w.heap.size f k k _ _ fr hB.lt (by omega) hB.ints).mono ?_
      rintro e w4 ⟨rfl, kk⟩
      have hB4 := hB.flag (by omega) kk
      have hR4 := hR.flag (by omega) kk
      have hL4 := hL.flag (by omega) kk
      have hc := hL4.cell k
      rw [rowA_get _ hlt] at hc
      have hf := hL4.free k
      have hz4 := kk.size
      have hL5 := hL4.setI (k := k) hlt (atV f k k)
      rw [diagF_next] at hL5
      have hF5 := (hF.trans kk).other (b := w.heap.size + 2) (i := k) (by omega) (.int .i64 (atV f k k))
      have hR5 := hR4.other (b := w.heap.size + 2) (i := k) (by omega) (.int .i64 (atV f k k))
      have hB5 := hB4.other (b := w.heap.size + 2) (i := k) (by omega) (.int .i64 (atV f k k))
      have H := Lib.hid (And.intro hB5 (And.intro hF5 (And.intro hR5 hL5)))
      clear hB5 hF5 hR5 hL5 hB hR hF hL hB4 hR4 hL4
      go_wp2_with fail
      go_roundw
      case rel =>
        obtain ⟨hB5, hF5, hR5, hL5⟩ := H.out
        exact ⟨k + 1, by omega, by go_num, flag_is (by simp [diagH, Bool.or_assoc]) hF5, by rw [size_set]; omega, hB5, hR5, hL5⟩
      case measure => simp [intOf]; omega
    · obtain rfl : k = 24 := by omega
      clear hlt hk
      go_wp2_with (first
        | (refine row_load 91 _ rfl rfl (w.heap.size + 2) 24 _ _ rfl hL _ Try.underlying91 rfl rowDSize ?_)
        | (refine row_store 91 _ _ rfl rfl (w.heap.size + 1) 24 _ _ _ rfl rfl hR rowDSize ?_))
      exact bodyPost_ret (v := .agg (rowA 24 (diagF f 24))) (results_row rfl _ _ (w.heap.size + 1) 24 _ _ _ rfl hR.setRow Try.underlying91 rfl rowDSize) rfl ⟨rfl, hF.row (by omega) _⟩
end Go.Proofs.Ytfkeljolpcbbkaa

/- TriE -/
namespace Go.Proofs.Ytfkeljolpcbbkaa
open Go.RowKit

def newP (l : Nat → Int) (n k : Nat) : Nat → Int := fun q => if 276 ≤ q ∧ q < 276 + k then (if q - 276 < n then clampv (l (q - 276)) 1 72057594037927936 else 1) else 0
theorem newP_zero (l : Nat → Int) (n : Nat) : newP l n 0 = fun _ => 0 := by funext q; unfold newP; rw [if_neg (by omega)]
theorem newP_next (l : Nat → Int) (n k : Nat) (v : Int) (hv : v = if k < n then clampv (l k) 1 72057594037927936 else 1) : upd (newP l n k) (276 + k) v = newP l n (k + 1) := by
  subst hv
  funext q; unfold upd newP
  by_cases h : q = 276 + k
  · subst h
    rw [if_pos rfl, if_pos (show 276 ≤ 276 + k ∧ 276 + k < 276 + (k + 1) by omega), show 276 + k - 276 = k by omega]
  · rw [if_neg h]
    by_cases h2 : 276 ≤ q ∧ q < 276 + k
    · rw [if_pos h2, if_pos (show 276 ≤ q ∧ q < 276 + (k + 1) by omega)]
    · rw [if_neg h2, if_neg (show ¬ (276 ≤ q ∧ q < 276 + (k + 1)) by omega)]
theorem newP_all (l : Nat → Int) (n : Nat) {q : Nat} (hq : q < 300) : newP l n 24 q = newF l n q := by
  unfold newP newF
  by_cases h : q < 276
  · rw [if_neg (show ¬ (276 ≤ q ∧ q < 276 + 24) by omega), if_pos h]
  · rw [if_pos (show 276 ≤ q ∧ q < 276 + 24 by omega), if_neg h]
theorem upd_upd (f : Nat → Int) (k : Nat) (u v : Int) : upd (upd f k u) k v = upd f k v := by
  funext q; unfold upd
  by_cases h : q = k
  · rw [if_pos h, if_pos h]
  · rw [if_neg h, if_neg h, if_neg h]
set_option maxHeartbeats 2000000 in
theorem new_any (p o : Nat) (A : Option Addr) (n c : Nat) (l : Nat → Int) (h : Bool) (w : World) (fl : Fl p o h w) (hA : 0 < n → ∃ b ob, A = some ⟨b, ob, none⟩ ∧ b < w.heap.size ∧ b ≠ p ∧ Ints w b ob n l) (hn : n ≤ 9223372036854775807) :
    Calls Try.prog 153 #[.pointer (some ⟨p, o, none⟩), .slice A n c] w fun e w' => e = .returned (.agg (rowA 300 (newF l n))) ∧ FlW p o (h || newH l n 24) w w' := by
  have hpw := fl.lt
  go_enter Try.func153, Try.ntmps153
  go_upto_region 2 with (fail)
  rw [zeroCov]
  generalize hW : World.alloc (World.alloc w _) _ = W
  have hF : FlW p o (h || newH l n 0) w W := by subst hW; exact flag_is (by simp [newH]) (((FlW.refl fl).alloc _).alloc _)
  have hR : Blk W w.heap.size (rowA 300 fun _ => 0) 93 := by subst hW; exact (Blk.made _ _ _ rfl).alloc _
  have hB : Blk W (w.heap.size + 1) (rowA 300 (newP l n 0)) 93 := by subst hW; rw [newP_zero]; exact Blk.made _ _ _ (by simp)
  have hz : w.heap.size + 1 < W.heap.size := by subst hW; simp
  clear hW
  go_wp2_with fail
  go_loopw [7] (fun i wr => ∃ k : Nat, k ≤ 24 ∧ i = .int .i64 k ∧ FlW p o (h || newH l n k) w wr ∧ w.heap.size + 1 < wr.heap.size ∧ Blk wr w.heap.size (rowA 300 fun _ => 0) 93 ∧ Blk wr (w.heap.size + 1) (rowA 300 (newP l n k)) 93) (fun i _ => 24 - (intOf i).toNat)
  case atStart => exact ⟨0, by omega, rfl, hF, hz, hR, hB⟩
  case round =>
    obtain ⟨k, hk, rfl, hF, hz, hR, hB⟩ := hrel
    have fr := hF.fl fl
    by_cases hlt : k < 24
    · have hltI : (k : Int) < 24 := by omega
      have hk0 : (0 : Int) ≤ (k : Int) := by omega
      have hc := hB.cell (276 + k)
      rw [rowA_get _ (by omega)] at hc
      have hf := hB.free (276 + k)
      have hB2 := hB.setI (k := 276 + k) (by omega) 1
      have hR2 := hR.other (b := w.heap.size + 1) (i := 276 + k) (by omega) (.int .i64 1)
      have hF2 := hF.other (b := w.heap.size + 1) (i := 276 + k) (by omega) (.int .i64 1)
      have hz2 : w.heap.size + 1 < (wr.setCell ⟨w.heap.size + 1, 276 + k, none⟩ (.int .i64 1)).heap.size := by rw [size_set]; exact hz
      by_cases hkn : k < n
      · obtain ⟨b, ob, rfl, hb, hbp, hx⟩ := hA (by omega)
        have hx2 := (hF2.cell (b := b) (i := ob + k) hb (.inl hbp)).trans (hx.at_ k hkn)
        have H := Lib.hid (And.intro hB2 (And.intro hR2 (And.intro hF2 (And.intro hz2 hx2))))
        clear hB2 hR2 hF2 hz2 hx2 hB hR hF hx hA hz
        have hknI : (k : Int) < (n : Int) := by omega
        go_upto_region 7 with (fail)
        obtain ⟨hB2, hR2, hF2, hz2, hx2⟩ := H.out
        clear H hc hf
        generalize World.setCell _ _ _ = W2 at *
        have fr2 := hF2.fl fl
        go_wp2_with fail
        refine (variance_any p o (l k) _ _ fr2).mono ?_
        rintro e w4 ⟨rfl, kk⟩
        have hB4 := hB2.flag (by omega) kk
        have hR4 := hR2.flag (by omega) kk
        have hc := hB4.cell (276 + k)
        rw [rowA_get _ (by omega)] at hc
        have hf := hB4.free (276 + k)
        have hz4 := kk.size
        have hB5 := hB4.setI (k := 276 + k) (by omega) (clampv (l k) 1 72057594037927936)
        rw [upd_upd, newP_next l n k _ (by rw [if_pos hkn])] at hB5
        have hF5 := (hF2.trans kk).other (b := w.heap.size + 1) (i := 276 + k) (by omega) (.int .i64 (clampv (l k) 1 72057594037927936))
        have hR5 := hR4.other (b := w.heap.size + 1) (i := 276 + k) (by omega) (.int .i64 (clampv (l k) 1 72057594037927936))
        have H := Lib.hid (And.intro hB5 (And.intro hF5 hR5))
        clear hB5 hF5 hR5 hB2 hR2 hF2 hB4 hR4
        go_wp2_with fail
        go_roundw
        case rel =>
          obtain ⟨hB5, hF5, hR5⟩ := H.out
          exact ⟨k + 1, by omega, by go_num, flag_is (by rw [newH, decide_eq_true hkn]; simp [Bool.or_assoc]) hF5, by rw [size_set]; omega, hR5, hB5⟩
        case measure => simp [intOf]; omega
      · rw [newP_next l n k _ (by rw [if_neg hkn])] at hB2
        have hknI : ¬ (k : Int) < (n : Int) := by omega
        have H := Lib.hid (And.intro hB2 (And.intro hR2 (And.intro hF2 hz2)))
        clear hB2 hR2 hF2 hz2 hB hR hF hA hz
        go_wp2_with fail
        go_roundw
        case rel =>
          obtain ⟨hB2, hR2, hF2, hz2⟩ := H.out
          exact ⟨k + 1, by omega, by go_num, flag_is (by rw [newH, decide_eq_false hkn]; simp) hF2, hz2, hR2, hB2⟩
        case measure => simp [intOf]; omega
    · obtain rfl : k = 24 := by omega
      have hB2 := hB.congr (fun j hj => newP_all l n hj)
      clear hlt hk hB hA
      go_wp2_with (first
        | (refine row_load 93 _ rfl rfl (w.heap.size + 1) 300 _ _ rfl hB2 _ Try.underlying93 rfl covSize ?_)
        | (refine row_store 93 _ _ rfl rfl w.heap.size 300 _ _ _ rfl rfl hR covSize ?_))
      exact bodyPost_ret (v := .agg (rowA 300 (newF l n))) (results_row rfl _ _ w.heap.size 300 _ _ _ rfl hR.setRow Try.underlying93 rfl covSize) rfl ⟨rfl, hF.row (by omega) _⟩
set_option maxHeartbeats 1000000 in
theorem good_any (f : Nat → Int) (w : World) :
    Calls Try.prog 83 #[.agg (rowA 300 f)] w fun e w' => e = .returned (.bool (goodB f)) ∧ Below w.heap.size w w' := by
  go_enter Try.func83, Try.ntmps83
  go_upto_region 2 with (fail)
  generalize hW : World.alloc (World.alloc w _) _ = W
  have hb : Below w.heap.size w W := by subst hW; exact ((Below.refl _ _).alloc (Nat.le_refl _) _).alloc (by simp) _
  have hB : Blk W w.heap.size (rowA 300 f) 93 := by subst hW; exact (Blk.made _ _ _ rfl).alloc _
  have fl : Fl (w.heap.size + 1) 0 false W := by subst hW; exact Fl.made_at _ _ _ (by simp)
  clear hW
  go_wp2_with (refine row_load 93 _ rfl rfl w.heap.size 300 _ _ rfl hB _ Try.underlying93 rfl covSize ?_)
  refine (condition_any (w.heap.size + 1) 0 f false W fl).mono ?_
  rintro e w1 ⟨rfl, k⟩
  have hc := (k.fl fl).cell
  have hb1 : Below w.heap.size w w1 := hb.trans (k.below hb.size (by omega))
  have HG := Lib.hid (show goodB f = !condH f from rfl)
  rw [Bool.false_or] at hc
  generalize condH f = g at *
  clear fl k hB hb
  go_wp2_with fail
  go_ret
  exact ⟨ret_bool HG.out.symm, hb1⟩
end Go.Proofs.Ytfkeljolpcbbkaa

/- TriG -/
namespace Go.Proofs.Ytfkeljolpcbbkaa
open Go.RowKit

set_option maxHeartbeats 1000000 in
theorem slicesMax_any (b : Nat) (f : Nat → Int) (w : World) (hx : Ints w b 276 24 (fun k => f (276 + k))) :
    Calls Try.prog 160 #[.slice (some ⟨b, 276, none⟩) 24 24] w fun e w' => e = .returned (.int .i64 (mostF f 23)) ∧ Below w.heap.size w w' := by
  have h0 := hx.at_ 0 (by omega)
  simp only [Nat.add_zero] at h0
  go_enter Try.func160, Try.ntmps160
  go_wp2_with fail
  clear h0
  go_loopw [3, 4] (fun m i wr => ∃ k : Nat, k ≤ 23 ∧ i = .int .i64 ((k + 1 : Nat) : Int) ∧ m = .int .i64 (mostF f k) ∧ Below w.heap.size w wr ∧ Ints wr b 276 24 (fun k => f (276 + k))) (fun _ i _ => 24 - (intOf i).toNat)
  case atStart => exact ⟨0, by omega, rfl, rfl, Below.refl _ _, hx⟩
  case round =>
    obtain ⟨k, hk, rfl, rfl, hb, hx⟩ := hrel
    by_cases hlt : k < 23
    · have h1 := hx.at_ (k + 1) (by omega)
      have HM := Lib.hid (show mostF f (k + 1) = max (mostF f k) (f (276 + (k + 1))) from rfl)
      generalize mostF f k = M at *
      go_wp2_with fail
      go_roundw
      case rel => exact ⟨k + 1, by omega, by go_num, by rw [HM.out], hb, hx⟩
      case measure => simp [intOf]; omega
    · obtain rfl : k = 23 := by omega
      clear hlt
      go_wp2_with fail
      go_ret
      exact ⟨rfl, hb⟩
theorem most_any (f : Nat → Int) (w : World) :
    Calls Try.prog 93 #[.agg (rowA 300 f)] w fun e w' => e = .returned (.int .i64 (mostF f 23)) ∧ Below w.heap.size w w' := by
  go_enter Try.func93, Try.ntmps93
  go_wp2_with fail
  generalize hW : World.alloc w _ = W
  have hb : Below w.heap.size w W := by subst hW; exact (Below.refl _ _).alloc (Nat.le_refl _) _
  have hB : Blk W w.heap.size (rowA 300 f) 93 := by subst hW; exact Blk.made _ _ _ rfl
  clear hW
  have hI := hB.ints.part 276 24 (by omega)
  rw [Nat.zero_add] at hI
  refine (slicesMax_any w.heap.size f W hI).mono ?_
  rintro e w' ⟨rfl, hb2⟩
  go_wp2_with fail
  go_ret
  exact ⟨rfl, hb.trans (hb2.mono hb.size)⟩
end Go.Proofs.Ytfkeljolpcbbkaa
