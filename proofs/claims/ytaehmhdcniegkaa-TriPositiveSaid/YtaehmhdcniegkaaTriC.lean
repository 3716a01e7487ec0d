/- Package tri: a number of the covariance. -/
import Derived.Test.YtaehmhdcniegkaaTriD
import Derived.Test.YtaehmhdcniegkaaPE
namespace Go.Proofs.Ytaehmhdcniegkaa
open Go.RowKit

theorem zero24 : (#[.int .i64 0, .int .i64 0, .int .i64 0, .int .i64 0, .int .i64 0, .int .i64 0, .int .i64 0, .int .i64 0, .int .i64 0, .int .i64 0, .int .i64 0, .int .i64 0, .int .i64 0, .int .i64 0, .int .i64 0, .int .i64 0, .int .i64 0, .int .i64 0, .int .i64 0, .int .i64 0, .int .i64 0, .int .i64 0, .int .i64 0, .int .i64 0] : Array Value) = rowA 24 (fun _ => 0) := by kernel_rfl
theorem mul_mulv (p o : Nat) (a b : Int) (h : Bool) (w : World) (f : Fl p o h w) :
    Calls Try.prog 72 #[.pointer (some ⟨p, o, none⟩), .int .i64 a, .int .i64 b, .int .i64 30] w fun e w' => e = .returned (.int .i64 (mulv a b)) ∧ FlW p o (h || mulh a b) w w' := by
  have := mul_fx p o a b 30 h w f (by omega)
  refine this.mono ?_
  rintro e w' ⟨rfl, k⟩
  exact ⟨rfl, flag_is (by simp [mulh, Bool.or_assoc]) k⟩
/-- The rows as far as they have been laid. -/
def rowX (f : Nat → Int) (i : Int) (m t : Nat) : Nat → Int := fun k => if m ≤ k ∧ k < m + t then uF f i (k : Int) else 0
def rowY (f : Nat → Int) (j : Int) (m t : Nat) : Nat → Int := fun k => if m ≤ k ∧ k < m + t then mulv (uF f j (k : Int)) (f (276 + k)) else 0
theorem rowX_zero (f : Nat → Int) (i : Int) (m : Nat) : rowX f i m 0 = fun _ => 0 := by funext k; unfold rowX; rw [if_neg (by omega)]
theorem rowY_zero (f : Nat → Int) (i : Int) (m : Nat) : rowY f i m 0 = fun _ => 0 := by funext k; unfold rowY; rw [if_neg (by omega)]
theorem rowX_next (f : Nat → Int) (i : Int) (m t : Nat) : upd (rowX f i m t) (m + t) (uF f i ((m + t : Nat) : Int)) = rowX f i m (t + 1) := by
  funext k; unfold upd rowX
  by_cases h : k = m + t
  · subst h; rw [if_pos rfl, if_pos (by omega)]
  · rw [if_neg h]
    by_cases h2 : m ≤ k ∧ k < m + t
    · rw [if_pos h2, if_pos (by omega)]
    · rw [if_neg h2, if_neg (by omega)]
theorem rowY_next (f : Nat → Int) (i : Int) (m t : Nat) : upd (rowY f i m t) (m + t) (mulv (uF f i ((m + t : Nat) : Int)) (f (276 + (m + t)))) = rowY f i m (t + 1) := by
  funext k; unfold upd rowY
  by_cases h : k = m + t
  · subst h; rw [if_pos rfl, if_pos (by omega)]
  · rw [if_neg h]
    by_cases h2 : m ≤ k ∧ k < m + t
    · rw [if_pos h2, if_pos (by omega)]
    · rw [if_neg h2, if_neg (by omega)]
theorem rowX_at (f : Nat → Int) (i : Int) {m n k : Nat} (hk : k < n) : rowX f i m n (m + k) = atX f i m k := by unfold rowX atX; rw [if_pos (by omega)]
theorem rowY_at (f : Nat → Int) (i : Int) {m n k : Nat} (hk : k < n) : rowY f i m n (m + k) = atY f i m k := by unfold rowY atY; rw [if_pos (by omega)]
set_option maxHeartbeats 4000000 in
theorem product_in (p o b : Nat) (f : Nat → Int) (i j m : Nat) (h : Bool) (w : World) (fl : Fl p o h w) (hb : b < w.heap.size) (hbp : b ≠ p) (hx : Ints w b 0 300 f) (hi : i < 24) (hj : j < 24) (hm : max (i : Int) (j : Int) = (m : Int)) :
    Calls Try.prog 115 #[.pointer (some ⟨p, o, none⟩), .pointer (some ⟨b, 0, none⟩), .int .i64 i, .int .i64 j] w fun e w' => e = .returned (.int .i64 (satv (rnd (sumP (atX f i m) (atY f j m) (24 - m)) 30))) ∧
      FlW p o (h || anyY f j m (24 - m) || anyP (atX f i m) (atY f j m) (24 - m) || sath (rnd (sumP (atX f i m) (atY f j m) (24 - m)) 30)) w w' := by
  have hpw := fl.lt
  have HI := Lib.hid (exists_is i true ((inN_iff i).2 (by omega)))
  have HJ := Lib.hid (exists_is j true ((inN_iff j).2 (by omega)))
  have HM := Lib.hid hm
  have hm24 : m < 24 := by omega
  clear hm
  go_enter Try.func115, Try.ntmps115
  go_wp2_with fail
  refine (HI.out _).mono ?_
  rintro e w' ⟨rfl, rfl⟩
  go_wp2_with fail
  refine (HJ.out _).mono ?_
  rintro e w' ⟨rfl, rfl⟩
  go_upto_region 4 with (fail)
  rw [zero24]
  generalize hW : World.alloc (World.alloc w _) _ = W
  have hF : FlW p o (h || anyY f j m 0) w W := by subst hW; exact flag_is (by simp [anyY]) (((FlW.refl fl).alloc _).alloc _)
  have hX : Blk W w.heap.size (rowA 24 (rowX f i m 0)) 27 := by subst hW; rw [rowX_zero]; exact (Blk.made _ _ _ rfl).alloc _
  have hY : Blk W (w.heap.size + 1) (rowA 24 (rowY f j m 0)) 27 := by subst hW; rw [rowY_zero]; exact Blk.made _ _ _ (by simp)
  have hz : w.heap.size + 1 < W.heap.size := by subst hW; simp
  clear hW
  go_wp2_with fail
  rw [HM.out]
  go_loopw [12] (fun i' wr => ∃ k : Nat, k ≤ 24 - m ∧ i' = .int .i64 ((m + k : Nat) : Int) ∧ FlW p o (h || anyY f j m k) w wr ∧ w.heap.size + 1 < wr.heap.size ∧ Blk wr w.heap.size (rowA 24 (rowX f i m k)) 27 ∧ Blk wr (w.heap.size + 1) (rowA 24 (rowY f j m k)) 27) (fun i' _ => 24 - (intOf i').toNat)
  case atStart => exact ⟨0, by omega, rfl, hF, hz, hX, hY⟩
  case round =>
    obtain ⟨k, hk, rfl, hF, hz, hX, hY⟩ := hrel
    have fr := hF.fl fl
    by_cases hlt : k < 24 - m
    · have hlt2 : m + k < 24 := by omega
      have hxw : Ints wr b 0 300 f := ⟨fun q hq => (hF.cell hb (.inl hbp)).trans (hx.at_ q hq)⟩
      have HNX := Lib.hid (rowX_next f i m k)
      have HNY := Lib.hid (rowY_next f j m k)
      generalize hq : m + k = q at *
      have hltI : (q : Int) < 24 := by omega
      have hk0 : (0 : Int) ≤ (q : Int) := by omega
      go_wp2_with fail
      refine (upper_any b f i q wr hxw).mono ?_
      rintro e w3 ⟨rfl, hb3⟩
      have hX3 := hX.call hb3
      have hY3 := hY.call hb3
      have hF3 := hF.then hb3
      have hz3 := hb3.size
      have hc3 := hX3.cell q
      rw [rowA_get _ hlt2] at hc3
      have hf3 := hX3.free q
      have hx3 : Ints w3 b 0 300 f := hxw.below hb3 (by omega)
      have H3 := Lib.hid (And.intro hX3 (And.intro hY3 (And.intro hF3 hx3)))
      clear hX3 hY3 hF3 hx3 hX hY hF hxw hx fr
      go_upto_region 9 with (fail)
      obtain ⟨hX3, hY3, hF3, hx3⟩ := H3.out
      clear H3
      have hX4 := hX3.setI (k := q) hlt2 (uF f i q)
      rw [HNX.out] at hX4
      have hY4 := hY3.other (b := w.heap.size) (i := q) (by omega) (.int .i64 (uF f i q))
      have hF4 := hF3.other (b := w.heap.size) (i := q) (Nat.le_refl _) (.int .i64 (uF f i q))
      have hx4 : Ints (w3.setCell ⟨w.heap.size, q, none⟩ (.int .i64 (uF f i q))) b 0 300 f := ⟨fun r hr => (set_cell_other (.inl (by omega)) _).trans (hx3.at_ r hr)⟩
      have hz4 : w.heap.size + 1 < (w3.setCell ⟨w.heap.size, q, none⟩ (.int .i64 (uF f i q))).heap.size := by rw [size_set]; omega
      clear hX3 hY3 hF3 hx3 hc3 hf3 hz3
      generalize World.setCell _ _ _ = W4 at *
      have D4 := hx4.at_ (276 + q) (by omega)
      rw [Nat.zero_add] at D4
      have f4 := hF4.fl fl
      have hb4 : b < W4.heap.size := by omega
      go_region_with (first
        | (go_at_call 111; refine (upper_any b f j q _ hx4.drew).mono ?_; rintro e w5 ⟨rfl, hb5⟩; have d5 := (cellAt (b := b) (i := 276 + q) hb5 hb4).trans D4; have f5 := f4.drew.below hb5; have hY5 := hY4.drew.call hb5; have hX5 := hX4.drew.call hb5; have z5 := hb5.size; have F5 := hF4.drew.then hb5)
        | (go_at_call 72; refine (mul_mulv p o (uF f j q) (f (276 + q)) _ _ f5).mono ?_; rintro e w6 ⟨rfl, k6⟩; have hY6 := hY5.flag (by omega) k6; have hX6 := hX5.flag (by omega) k6; have z6 := k6.size; have c6 := hY6.cell q; rw [rowA_get _ hlt2] at c6; have g6 := hY6.free q; have F6 := F5.trans k6))
      all_goals
        have hY7 := hY6.setI (k := q) hlt2 (mulv (uF f j q) (f (276 + q)))
        rw [HNY.out] at hY7
        have hX7 := hX6.other (b := w.heap.size + 1) (i := q) (by omega) (.int .i64 (mulv (uF f j q) (f (276 + q))))
        have F7 := F6.other (b := w.heap.size + 1) (i := q) (by omega) (.int .i64 (mulv (uF f j q) (f (276 + q))))
        have H := Lib.hid (And.intro hY7 (And.intro hX7 F7))
        have hs7 : w.heap.size + 1 < w6.heap.size := Nat.lt_of_lt_of_le (Nat.lt_of_lt_of_le hz4 z5) z6
        clear hY7 hX7 F7 hY6 hX6 F6 hY5 hX5 F5 hX4 hY4 hF4 hx4 D4 f4 d5 f5 c6 g6 HNY HNX
        go_wp2_with fail
        go_roundw
        case rel =>
          obtain ⟨hY7, hX7, F7⟩ := H.out
          exact ⟨k + 1, by omega, by rw [← Nat.add_assoc, hq]; go_num, flag_is (by rw [anyY, hq, Bool.or_assoc]) F7, by rw [size_set]; exact hs7, hX7, hY7⟩
        case measure => simp [intOf]; omega
    · obtain rfl : k = 24 - m := by omega
      have hX8 : Ints wr w.heap.size (0 + m) (24 - m) (atX f i m) := (hX.ints.part m (24 - m) (by omega)).congr (fun t ht => rowX_at f i ht)
      have hY8 : Ints wr (w.heap.size + 1) (0 + m) (24 - m) (atY f j m) := (hY.ints.part m (24 - m) (by omega)).congr (fun t ht => rowY_at f j ht)
      rw [Nat.zero_add] at hX8 hY8
      have e24 : m + (24 - m) = 24 := by omega
      rw [e24]
      clear e24 hX hY hx hlt hk
      go_wp2_with fail
      have m0 : (0 : Int) ≤ (m : Int) := by omega
      have m1 : (m : Int) ≤ 24 := by omega
      have m2 : ¬ 24 = m := by omega
      have m3 : ¬ m = 24 := by omega
      go_region_with (first
        | (go_at_call 45; (refine (dot_fx p o w.heap.size m (24 - m) (24 - m) (w.heap.size + 1) m (24 - m) (24 - m) (atX f i m) (atY f j m) 30 (24 - m) _ _ fr.drew (by omega) (by omega) (Nat.le_refl _) (Nat.le_refl _) (by omega) (Nat.lt_trans (Nat.lt_succ_self _) hz) hz (by omega) (by omega) hX8.drew hY8.drew).mono ?_; rintro e w5 ⟨rfl, k5⟩)))
      all_goals
        go_wp2_with fail
        go_ret
        exact ⟨rfl, hF.drew.trans k5⟩
theorem max_nat (i j : Nat) : max (i : Int) (j : Int) = ((max i j : Nat) : Int) := by omega
set_option maxHeartbeats 1000000 in
theorem product_any (p o b : Nat) (f : Nat → Int) (i j : Int) (h : Bool) (w : World) (fl : Fl p o h w) (hb : b < w.heap.size) (hbp : b ≠ p) (hx : Ints w b 0 300 f) :
    Calls Try.prog 115 #[.pointer (some ⟨p, o, none⟩), .pointer (some ⟨b, 0, none⟩), .int .i64 i, .int .i64 j] w fun e w' => e = .returned (.int .i64 (atV f i j)) ∧ FlW p o (h || atH f i j) w w' := by
  cases hi : inN i
  · have HI := Lib.hid (exists_is i false hi)
    have HV := Lib.hid (show atV f i j = 0 ∧ atH f i j = false by unfold atV atH; rw [hi]; exact ⟨rfl, rfl⟩)
    clear hi
    go_enter Try.func115, Try.ntmps115
    go_wp2_with fail
    refine (HI.out _).mono ?_
    rintro e w' ⟨rfl, rfl⟩
    go_wp2_with fail
    go_ret
    exact ⟨ret_int HV.out.1.symm, flag_is (by rw [HV.out.2, Bool.or_false]) (FlW.refl fl)⟩
  · cases hj : inN j
    · have HI := Lib.hid (exists_is i true hi)
      have HJ := Lib.hid (exists_is j false hj)
      have HV := Lib.hid (show atV f i j = 0 ∧ atH f i j = false by unfold atV atH; rw [hi, hj]; exact ⟨rfl, rfl⟩)
      clear hi hj
      go_enter Try.func115, Try.ntmps115
      go_wp2_with fail
      refine (HI.out _).mono ?_
      rintro e w' ⟨rfl, rfl⟩
      go_wp2_with fail
      refine (HJ.out _).mono ?_
      rintro e w' ⟨rfl, rfl⟩
      go_wp2_with fail
      go_ret
      exact ⟨ret_int HV.out.1.symm, flag_is (by rw [HV.out.2, Bool.or_false]) (FlW.refl fl)⟩
    · have hi' := (inN_iff i).1 hi
      have hj' := (inN_iff j).1 hj
      obtain ⟨a, rfl⟩ := Int.eq_ofNat_of_zero_le hi'.1
      obtain ⟨c, rfl⟩ := Int.eq_ofNat_of_zero_le hj'.1
      refine (product_in p o b f a c (max a c) h w fl hb hbp hx (by omega) (by omega) (max_nat a c)).mono ?_
      rintro e w' ⟨rfl, k⟩
      have em : (max (a : Int) (c : Int)).toNat = max a c := by omega
      refine ⟨ret_int ?_, flag_is ?_ k⟩
      · unfold atV atS; rw [hi, hj, em]; rfl
      · unfold atH atS; rw [hi, hj, em]; simp [Bool.or_assoc]
theorem at_any (p o : Nat) (f : Nat → Int) (i j : Int) (h : Bool) (w : World) (fl : Fl p o h w) :
    Calls Try.prog 21 #[.pointer (some ⟨p, o, none⟩), .agg (rowA 300 f), .int .i64 i, .int .i64 j] w fun e w' => e = .returned (.int .i64 (atV f i j)) ∧ FlW p o (h || atH f i j) w w' := by
  have hpw := fl.lt
  go_enter Try.func21, Try.ntmps21
  go_wp2_with fail
  generalize hW : World.alloc w _ = W
  have hF : FlW p o h w W := by subst hW; exact (FlW.refl fl).alloc _
  have hB : Blk W w.heap.size (rowA 300 f) 29 := by subst hW; exact Blk.made _ _ _ rfl
  clear hW
  refine (product_any p o w.heap.size f i j h W (hF.fl fl) hB.lt (by omega) hB.ints).mono ?_
  rintro e w' ⟨rfl, k⟩
  go_wp2_with fail
  go_ret
  exact ⟨rfl, hF.trans k⟩
set_option maxHeartbeats 1000000 in
theorem diag_any (p o : Nat) (f : Nat → Int) (h : Bool) (w : World) (fl : Fl p o h w) :
    Calls Try.prog 25 #[.pointer (some ⟨p, o, none⟩), .agg (rowA 300 f)] w fun e w' => e = .returned (.agg (rowA 24 (diagF f 24))) ∧ FlW p o (h || diagH f 24) w w' := by
  have hpw := fl.lt
  go_enter Try.func25, Try.ntmps25
  go_upto_region 2 with (fail)
  rw [zero24]
  generalize hW : World.alloc (World.alloc (World.alloc w _) _) _ = W
  have hF : FlW p o (h || diagH f 0) w W := by subst hW; exact flag_is (by simp [diagH]) ((((FlW.refl fl).alloc _).alloc _).alloc _)
  have hB : Blk W w.heap.size (rowA 300 f) 29 := by subst hW; exact ((Blk.made _ _ _ rfl).alloc _).alloc _
  have hR : Blk W (w.heap.size + 1) (rowA 24 fun _ => 0) 27 := by subst hW; exact (Blk.made _ _ _ (by simp)).alloc _
  have hL : Blk W (w.heap.size + 2) (rowA 24 (diagF f 0)) 27 := by subst hW; rw [diagF_zero]; exact Blk.made _ _ _ (by simp)
  have hz : w.heap.size + 2 < W.heap.size := by subst hW; simp
  clear hW
  go_wp2_with fail
  go_loopw [7] (fun i wr => ∃ k : Nat, k ≤ 24 ∧ i = .int .i64 k ∧ FlW p o (h || diagH f k) w wr ∧ w.heap.size + 2 < wr.heap.size ∧ Blk wr w.heap.size (rowA 300 f) 29 ∧ Blk wr (w.heap.size + 1) (rowA 24 fun _ => 0) 27 ∧ Blk wr (w.heap.size + 2) (rowA 24 (diagF f k)) 27) (fun i _ => 24 - (intOf i).toNat)
  case atStart => exact ⟨0, by omega, rfl, hF, hz, hB, hR, hL⟩
  case round =>
    obtain ⟨k, hk, rfl, hF, hz, hB, hR, hL⟩ := hrel
    have fr := hF.fl fl
    by_cases hlt : k < 24
    · have hltI : (k : Int) < 24 := by omega
      have hk0 : (0 : Int) ≤ (k : Int) := by omega
      go_wp2_with fail
      refine (product_any p o w.heap.size f k k _ _ fr hB.lt (by omega) hB.ints).mono ?_
      rintro e w4 ⟨rfl, kk⟩
      have hB4 := hB.flag (by omega) kk
      have hR4 := hR.flag (by omega) kk
      have hL4 := hL.flag (by omega) kk
      have hc := hL4.cell k
      rw [rowA_get _ hlt] at hc
      have hf := hL4.free k
      have hz4 := kk.size
      have hL5 := hL4.setI (k := k) hlt (atV f k k)
      rw [diagF_next] at hL5
      have hF5 := (hF.trans kk).other (b := w.heap.size + 2) (i := k) (by omega) (.int .i64 (atV f k k))
      have hR5 := hR4.other (b := w.heap.size + 2) (i := k) (by omega) (.int .i64 (atV f k k))
      have hB5 := hB4.other (b := w.heap.size + 2) (i := k) (by omega) (.int .i64 (atV f k k))
      have H := Lib.hid (And.intro hB5 (And.intro hF5 (And.intro hR5 hL5)))
      clear hB5 hF5 hR5 hL5 hB hR hF hL hB4 hR4 hL4
      go_wp2_with fail
      go_roundw
      case rel =>
        obtain ⟨hB5, hF5, hR5, hL5⟩ := H.out
        exact ⟨k + 1, by omega, by go_num, flag_is (by simp [diagH, Bool.or_assoc]) hF5, by rw [size_set]; omega, hB5, hR5, hL5⟩
      case measure => simp [intOf]; omega
    · obtain rfl : k = 24 := by omega
      clear hlt hk
      go_wp2_with (first
        | (refine row_load 27 _ rfl rfl (w.heap.size + 2) 24 _ _ rfl hL _ Try.underlying27 rfl rowDSize ?_)
        | (refine row_store 27 _ _ rfl rfl (w.heap.size + 1) 24 _ _ _ rfl rfl hR rowDSize ?_))
      exact bodyPost_ret (v := .agg (rowA 24 (diagF f 24))) (results_row rfl _ _ (w.heap.size + 1) 24 _ _ _ rfl hR.setRow Try.underlying27 rfl rowDSize) rfl ⟨rfl, hF.row (by omega) _⟩
end Go.Proofs.Ytaehmhdcniegkaa
