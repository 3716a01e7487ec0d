/- The document's own covariances: what may be, what is kept, a number told. -/
import Derived.Test.YtaehmhdcniegkaaTriC
import Derived.Test.YtaehmhdcniegkaaOwn
import Derived.Test.YtaehmhdcniegkaaQR
namespace Go.Proofs.Ytaehmhdcniegkaa
open Go.RowKit

theorem hitD_up (f : Nat → Int) {k m : Nat} (h : hitD f k = true) (hm : k ≤ m) : hitD f m = true := by
  induction m with
  | zero =>
    obtain rfl : k = 0 := by omega
    exact h
  | succ m ih =>
    rcases Nat.lt_or_ge m k with h1 | h1
    · obtain rfl : k = m + 1 := by omega
      exact h
    · rw [hitD, ih h1]; rfl
theorem hitU_up (f : Nat → Int) {k m : Nat} (h : hitU f k = true) (hm : k ≤ m) : hitU f m = true := by
  induction m with
  | zero =>
    obtain rfl : k = 0 := by omega
    exact h
  | succ m ih =>
    rcases Nat.lt_or_ge m k with h1 | h1
    · obtain rfl : k = m + 1 := by omega
      exact h
    · rw [hitU, ih h1]; rfl
set_option maxHeartbeats 2000000 in
theorem rgood_any (b bo : Nat) (f : Nat → Int) (w : World) (hx : Ints w b bo 300 f) :
    Calls Try.prog 19 #[.pointer (some ⟨b, bo, none⟩)] w fun e w' => e = .returned (.bool (goodB f)) ∧ w = w' := by
  go_enter Try.func19, Try.ntmps19
  go_wp2_with fail
  go_loop [3] (fun i => ∃ k : Nat, k ≤ 24 ∧ i = .int .i64 k ∧ hitD f k = false) (fun i => 24 - (intOf i).toNat)
  case atStart => exact ⟨0, by omega, rfl, rfl⟩
  case round =>
    obtain ⟨k, hk, rfl, hh⟩ := hrel
    by_cases hlt : k < 24
    · have hltI : (k : Int) < 24 := by omega
      have hk0 : (0 : Int) ≤ (k : Int) := by omega
      have hc := hx.at_ (276 + k) (by omega)
      rw [← Nat.add_assoc] at hc
      have HN := Lib.hid (show hitD f (k + 1) = (hitD f k || clamph (f (276 + k)) 1 72057594037927936) from rfl)
      have HU := Lib.hid (fun h : hitD f (k + 1) = true => hitD_up f (m := 24) h (by omega))
      have HH := Lib.hid hh
      clear hh hx hk hlt
      generalize hv : f (276 + k) = v at *
      clear hv
      by_cases h1 : v < 1
      · go_wp2_with fail
        go_ret
        have e : hitD f (k + 1) = true := by rw [HN.out]; unfold clamph; rw [decide_eq_true h1]; simp
        exact ⟨ret_bool (by unfold goodB condH; rw [HU.out e]; rfl), rfl⟩
      · by_cases h2 : 72057594037927936 < v
        · go_wp2_with fail
          go_ret
          have e : hitD f (k + 1) = true := by rw [HN.out]; unfold clamph; rw [decide_eq_true h2]; simp
          exact ⟨ret_bool (by unfold goodB condH; rw [HU.out e]; rfl), rfl⟩
        · go_wp2_with fail
          go_round
          case rel => exact ⟨k + 1, by omega, by go_num, by rw [HN.out, HH.out]; unfold clamph; rw [decide_eq_false (by omega : ¬ v < 1), decide_eq_false (by omega : ¬ (72057594037927936 : Int) < v)]; rfl⟩
          case measure => simp [intOf]; omega
    · obtain rfl : k = 24 := by omega
      have HD := Lib.hid hh
      clear hh hlt hk
      go_wp2_with fail
      go_loop [4] (fun i => ∃ k : Nat, k ≤ 276 ∧ i = .int .i64 k ∧ hitU f k = false) (fun i => 276 - (intOf i).toNat)
      case atStart => exact ⟨0, by omega, rfl, rfl⟩
      case round =>
        obtain ⟨k, hk, rfl, hh⟩ := hrel
        by_cases hlt : k < 276
        · have hltI : (k : Int) < 276 := by omega
          have hk0 : (0 : Int) ≤ (k : Int) := by omega
          have hc := hx.at_ k (by omega)
          have HN := Lib.hid (show hitU f (k + 1) = (hitU f k || sath (f k)) from rfl)
          have HU := Lib.hid (fun h : hitU f (k + 1) = true => hitU_up f (m := 276) h (by omega))
          have HH := Lib.hid hh
          clear hh hx hk hlt
          generalize hv : f k = v at *
          clear hv
          by_cases h1 : v < -1152921504606846976
          · go_wp2_with fail
            go_ret
            have e : hitU f (k + 1) = true := by rw [HN.out]; unfold sath; rw [decide_eq_true h1]; simp
            exact ⟨ret_bool (by unfold goodB condH; rw [HU.out e, Bool.or_true]; rfl), rfl⟩
          · by_cases h2 : 1152921504606846976 < v
            · go_wp2_with fail
              go_ret
              have e : hitU f (k + 1) = true := by rw [HN.out]; unfold sath; rw [decide_eq_true h2]; simp
              exact ⟨ret_bool (by unfold goodB condH; rw [HU.out e, Bool.or_true]; rfl), rfl⟩
            · go_wp2_with fail
              go_round
              case rel => exact ⟨k + 1, by omega, by go_num, by rw [HN.out, HH.out]; unfold sath; rw [decide_eq_false (by omega : ¬ v < -1152921504606846976), decide_eq_false (by omega : ¬ (1152921504606846976 : Int) < v)]; rfl⟩
              case measure => simp [intOf]; omega
        · obtain rfl : k = 276 := by omega
          have HE := Lib.hid hh
          clear hh hlt hk
          go_wp2_with fail
          go_ret
          exact ⟨ret_bool (by unfold goodB condH; rw [HD.out, HE.out]; rfl), rfl⟩
theorem qclamp_max (p o : Nat) (a : Int) (h : Bool) (w : World) (f : Fl p o h w) :
    Calls Try.prog 117 #[.pointer (some ⟨p, o, none⟩), .int .i64 a, .int .i64 (-1152921504606846976), .int .i64 1152921504606846976] w fun e w' => e = .returned (.int .i64 (satv a)) ∧ FlW p o (h || sath a) w w' := by
  rw [← (clamp_sat a).1, ← (clamp_sat a).2]
  exact qclamp p o a _ _ h w f
set_option maxHeartbeats 4000000 in
theorem rcond_any (p o : Nat) (f : Nat → Int) (h : Bool) (w : World) (fl : Fl p o h w) :
    Calls Try.prog 24 #[.pointer (some ⟨p, o, none⟩), .agg (rowA 300 f)] w fun e w' => e = .returned (.agg (rowA 300 (condF f))) ∧ FlW p o (h || condH f) w w' := by
  have hpw := fl.lt
  go_enter Try.func24, Try.ntmps24
  go_upto_region 1 with (fail)
  rw [zeroCov]
  generalize hW : World.alloc (World.alloc w _) _ = W
  have hF : FlW p o (h || hitD f 0) w W := by subst hW; exact flag_is (by simp [hitD]) (((FlW.refl fl).alloc _).alloc _)
  have hB : Blk W w.heap.size (rowA 300 (partD f 0)) 29 := by subst hW; rw [partD_zero]; exact (Blk.made _ _ _ rfl).alloc _
  have hR : Blk W (w.heap.size + 1) (rowA 300 fun _ => 0) 29 := by subst hW; exact Blk.made _ _ _ (by simp)
  have hz : w.heap.size + 1 < W.heap.size := by subst hW; simp
  clear hW
  go_wp2_with fail
  go_loopw [5] (fun i wr => ∃ k : Nat, k ≤ 24 ∧ i = .int .i64 k ∧ FlW p o (h || hitD f k) w wr ∧ w.heap.size + 1 < wr.heap.size ∧ Blk wr w.heap.size (rowA 300 (partD f k)) 29 ∧ Blk wr (w.heap.size + 1) (rowA 300 fun _ => 0) 29) (fun i _ => 24 - (intOf i).toNat)
  case atStart => exact ⟨0, by omega, rfl, hF, hz, hB, hR⟩
  case round =>
    obtain ⟨k, hk, rfl, hF, hz, hB, hR⟩ := hrel
    have fr := hF.fl fl
    by_cases hlt : k < 24
    · have hltI : (k : Int) < 24 := by omega
      have hk0 : (0 : Int) ≤ (k : Int) := by omega
      have h0 := hB.cell (276 + k)
      rw [rowA_get _ (by omega), partD_self] at h0
      go_upto_region 4 with (fail)
      go_region_with (first
        | (go_at_call 117; refine (qclamp p o (f (276 + k)) _ _ _ _ fr.drew).mono ?_; rintro e w4 ⟨rfl, kk⟩; have hB4 := hB.drew.flag (by omega) kk; have hR4 := hR.drew.flag (by omega) kk; have hc := hB4.cell (276 + k); rw [rowA_get _ (by omega)] at hc; have hf := hB4.free (276 + k); have hz4 := kk.size; have F4 := hF.drew.trans kk))
      all_goals
        have hB5 := hB4.setI (k := 276 + k) (by omega) (clampv (f (276 + k)) 1 72057594037927936)
        rw [partD_next] at hB5
        have hF5 := F4.other (b := w.heap.size) (i := 276 + k) (Nat.le_refl _) (.int .i64 (clampv (f (276 + k)) 1 72057594037927936))
        have hR5 := hR4.other (b := w.heap.size) (i := 276 + k) (by omega) (.int .i64 (clampv (f (276 + k)) 1 72057594037927936))
        have hz5 : w.heap.size + 1 < w4.heap.size := Nat.lt_of_lt_of_le hz hz4
        have H := Lib.hid (And.intro hB5 (And.intro hF5 hR5))
        clear hB5 hF5 hR5 hB hR hF hB4 hR4 F4 hz4
        go_wp2_with fail
        go_roundw
        case rel =>
          obtain ⟨hB5, hF5, hR5⟩ := H.out
          exact ⟨k + 1, by omega, by go_num, flag_is (by simp [hitD, Bool.or_assoc]) hF5, by rw [size_set]; omega, hB5, hR5⟩
        case measure => simp [intOf]; omega
    · obtain rfl : k = 24 := by omega
      clear hlt hk
      rw [show ((24 : Nat) : Int) = 24 from rfl]
      have hB := hB.congr (fun j hj => partU_zero hj)
      have hF : FlW p o (h || hitD f 24 || hitU f 0) w wr := flag_is (by simp [hitU]) hF
      go_wp2_with fail
      go_loopw [6] (fun i wr => ∃ k : Nat, k ≤ 276 ∧ i = .int .i64 k ∧ FlW p o (h || hitD f 24 || hitU f k) w wr ∧ w.heap.size + 1 < wr.heap.size ∧ Blk wr w.heap.size (rowA 300 (partU f k)) 29 ∧ Blk wr (w.heap.size + 1) (rowA 300 fun _ => 0) 29) (fun i _ => 276 - (intOf i).toNat)
      case atStart => exact ⟨0, by omega, rfl, hF, hz, hB, hR⟩
      case round =>
        obtain ⟨k, hk, rfl, hF, hz, hB, hR⟩ := hrel
        have fr := hF.fl fl
        by_cases hlt : k < 276
        · have hltI : (k : Int) < 276 := by omega
          have hk0 : (0 : Int) ≤ (k : Int) := by omega
          have h0 := hB.cell k
          rw [rowA_get _ (by omega), partU_self f hlt] at h0
          go_upto_region 8 with (fail)
          go_region_with (first
            | (go_at_call 117; refine (qclamp_max p o (f k) _ _ fr.drew).mono ?_; rintro e w4 ⟨rfl, kk⟩; have hB4 := hB.drew.flag (by omega) kk; have hR4 := hR.drew.flag (by omega) kk; have hc := hB4.cell k; rw [rowA_get _ (by omega)] at hc; have hf := hB4.free k; have hz4 := kk.size; have F4 := hF.drew.trans kk))
          all_goals
            have hB5 := hB4.setI (k := k) (by omega) (satv (f k))
            rw [partU_next f hlt] at hB5
            have hF5 := F4.other (b := w.heap.size) (i := k) (Nat.le_refl _) (.int .i64 (satv (f k)))
            have hR5 := hR4.other (b := w.heap.size) (i := k) (by omega) (.int .i64 (satv (f k)))
            have hz5 : w.heap.size + 1 < w4.heap.size := Nat.lt_of_lt_of_le hz hz4
            have H := Lib.hid (And.intro hB5 (And.intro hF5 hR5))
            clear hB5 hF5 hR5 hB hR hF hB4 hR4 F4 hz4
            go_wp2_with fail
            go_roundw
            case rel =>
              obtain ⟨hB5, hF5, hR5⟩ := H.out
              exact ⟨k + 1, by omega, by go_num, flag_is (by simp [hitU, Bool.or_assoc]) hF5, by rw [size_set]; omega, hB5, hR5⟩
            case measure => simp [intOf]; omega
        · obtain rfl : k = 276 := by omega
          have hB := hB.congr (fun j _ => partU_all j)
          clear hlt hk
          go_wp2_with (first
            | (refine row_load 29 _ rfl rfl w.heap.size 300 _ _ rfl hB _ Try.underlying29 rfl covSize ?_)
            | (refine row_store 29 _ _ rfl rfl (w.heap.size + 1) 300 _ _ _ rfl rfl hR covSize ?_))
          exact bodyPost_ret (v := .agg (rowA 300 (condF f))) (results_row rfl _ _ (w.heap.size + 1) 300 _ _ _ rfl hR.setRow Try.underlying29 rfl covSize) rfl ⟨rfl, flag_is (by simp [condH, Bool.or_assoc]) (hF.row (by omega) _)⟩
end Go.Proofs.Ytaehmhdcniegkaa
