/- Package bierman: a column of U; parts of a variance; what states change by; the row of some states. -/
import Derived.Test.YtplffehgjdinnaaBieN
import Derived.Test.YtplffehgjdinnaaTHO
import Derived.Test.YtplffehgjdinnaaTRX
namespace Go.Proofs.Ytplffehgjdinnaa
open Go.RowKit

theorem bnumInfo : (Try.prog.info? 2).map (fun i => (i.zero, i.size, i.bytes)) = some (some (.int .i64 0), 1, 8) := by kernel_rfl
theorem brSize : (Try.prog.info? 100).map (·.size) = some 24 := by kernel_rfl
theorem bsSize : (Try.prog.info? 165).map (·.size) = some 73 := by kernel_rfl
theorem add_addv (p o : Nat) (a b : Int) (B n c : Nat) (h : Bool) (w : World) (f : Fl p o h w) (hB : B < w.heap.size) (hp : B ≠ p) (hx : Ints w B 0 2 fun i => if i = 0 then a else b) (hn : n = 2) :
    Calls Try.prog 31 #[.pointer (some ⟨p, o, none⟩), .slice (some ⟨B, 0, none⟩) n c] w fun e w' => e = .returned (.int .i64 (addv a b)) ∧ FlW p o (h || addh a b) w w' := by
  subst hn
  refine (add_fx p o B 0 2 c _ h w f (by omega) hB hp hx).mono ?_
  rintro e w' ⟨rfl, k⟩
  have e1 : sumS (fun i => if i = 0 then a else b) 2 = satv a + satv b := by show 0 + satv a + satv b = _; omega
  rw [e1, rnd_none] at k ⊢
  exact ⟨rfl, flag_is (by show (_ || (((false || sath a) || sath b)) || _) = _; simp [addh, Bool.or_assoc]) k⟩
theorem bdiv_quov (p o : Nat) (a b : Int) (h : Bool) (w : World) (f : Fl p o h w) :
    Calls Try.prog 37 #[.pointer (some ⟨p, o, none⟩), .int .i64 a, .int .i64 b, .int .i64 30] w fun e w' => e = .returned (.int .i64 (quov a b)) ∧ FlW p o (h || quoh a b) w w' := by
  refine (div_fx p o a b 30 h w f (by omega)).mono ?_
  rintro e w' ⟨rfl, k⟩
  exact ⟨rfl, flag_is (by simp [quoh, Bool.or_assoc]) k⟩
/-- Numbers done one after another in their own place. -/
def mapP (F f : Nat → Int) (t : Nat) : Nat → Int := fun k => if k < t then F k else f k
theorem mapP_zero (F f : Nat → Int) : mapP F f 0 = f := by funext k; unfold mapP; rw [if_neg (by omega)]
theorem mapP_next (F f : Nat → Int) (t : Nat) : upd (mapP F f t) t (F t) = mapP F f (t + 1) := by
  funext k; unfold upd mapP
  by_cases h : k = t
  · subst h; rw [if_pos rfl, if_pos (by omega)]
  · rw [if_neg h]
    by_cases h2 : k < t
    · rw [if_pos h2, if_pos (by omega)]
    · rw [if_neg h2, if_neg (by omega)]
theorem mapP_all {F f : Nat → Int} {n k : Nat} (h : k < n) : mapP F f n k = F k := by unfold mapP; rw [if_pos h]
theorem mapP_self (F f : Nat → Int) (t : Nat) : mapP F f t t = f t := by unfold mapP; rw [if_neg (by omega)]
set_option maxHeartbeats 2000000 in
theorem bcol_any (f : Nat → Int) (k : Nat) (hk : k < 24) (w : World) :
    Calls Try.prog 155 #[.agg (rowA 300 f), .int .i64 k] w fun e w' => ∃ g, e = .returned (.slice (some ⟨g, 0, none⟩) (k + 1) (k + 1)) ∧ w.heap.size ≤ g ∧ g < w'.heap.size ∧ Ints w' g 0 (k + 1) (colU f k) ∧ Below w.heap.size w w' := by
  go_enter Try.func155, Try.ntmps155
  go_wp2_with ((with_reducible refine make_row 50 (.tmp 8) (.tmp 8) ?_ ?_ 2 Try.underlying50 bnumInfo (k + 1) ?_ ?_ ?_ ?_); rfl; rfl; omega; rfl; rfl)
  generalize hW : World.alloc (World.alloc w _) _ = X
  have hb : Below w.heap.size w X := by subst hW; exact ((Below.refl _ _).alloc (Nat.le_refl _) _).alloc (by simp) _
  have hP : Blk X w.heap.size (rowA 300 f) 79 := by subst hW; exact (Blk.made _ _ _ rfl).alloc _
  have hL : Blk X (w.heap.size + 1) (rowA (k + 1) (upTo (colU f k) 0)) 2 := by subst hW; rw [upTo_zero]; exact Blk.made _ _ _ (by simp)
  clear hW
  go_loopw [12] (fun i' wr => ∃ t : Nat, t ≤ k + 1 ∧ i' = .int .i64 t ∧ Below w.heap.size w wr ∧ Blk wr w.heap.size (rowA 300 f) 79 ∧ Blk wr (w.heap.size + 1) (rowA (k + 1) (upTo (colU f k) t)) 2) (fun i' _ => k + 1 - (intOf i').toNat)
  case atStart => exact ⟨0, by omega, rfl, hb, hP, hL⟩
  case round =>
    clear hb hP hL
    obtain ⟨t, ht, rfl, hb, hP, hL⟩ := hrel
    by_cases hlt : t < k + 1
    · have hltI : (t : Int) < (k : Int) + 1 := by omega
      have hk0 : (0 : Int) ≤ (t : Int) := by omega
      have HN := Lib.hid (show upd (upTo (colU f k) t) t (uF f (t : Int) (k : Int)) = upTo (colU f k) (t + 1) from upTo_next (colU f k) t)
      go_wp2_with (refine row_load 79 _ rfl rfl w.heap.size 300 _ _ rfl hP _ Try.underlying79 rfl covSize ?_)
      refine (triU_any f t k wr).mono ?_
      rintro e w4 ⟨rfl, hb4⟩
      have hP4 := hP.call hb4
      have hL4 := hL.call hb4
      have hB4 := hb.trans (hb4.mono hb.size)
      have hc := hL4.cell t
      rw [rowA_get _ (by omega)] at hc
      have hf := hL4.free t
      have hL5 := hL4.setI (k := t) (by omega) (uF f (t : Int) (k : Int))
      rw [HN.out] at hL5
      have hB5 := hB4.setCell (p := ⟨w.heap.size + 1, t, none⟩) (by simp) (.int .i64 (uF f (t : Int) (k : Int)))
      have hP5 := hP4.other (b := w.heap.size + 1) (i := t) (by omega) (.int .i64 (uF f (t : Int) (k : Int)))
      have H := Lib.hid (And.intro hB5 (And.intro hP5 hL5))
      clear hB5 hP5 hL5 hB4 hP4 hL4 hb hP hL hb4
      go_wp2_with fail
      go_roundw
      case rel =>
        obtain ⟨hB5, hP5, hL5⟩ := H.out
        exact ⟨t + 1, by omega, by go_num, hB5, hP5, hL5⟩
      case measure => simp [intOf]; omega
    · obtain rfl : t = k + 1 := by omega
      have hlast : ¬ ((k : Int) + 1 < (k : Int) + 1) := by omega
      have hl := hL.lt
      clear hlt ht
      go_wp2_with fail
      go_ret
      exact ⟨w.heap.size + 1, rfl, by omega, hl, hL.ints.congr (fun j hj => upTo_all hj), hb⟩
set_option maxHeartbeats 2000000 in
theorem shares_any (p o : Nat) (b : Nat → Int) (s : Int) (h : Bool) (w : World) (fl : Fl p o h w) :
    Calls Try.prog 156 #[.pointer (some ⟨p, o, none⟩), .agg (rowA 24 b), .int .i64 s] w fun e w' => e = .returned (.agg (rowA 24 fun k => quov (b k) s)) ∧ FlW p o (h || anyN (fun k => quoh (b k) s) 24) w w' := by
  have hpw := fl.lt
  go_enter Try.func156, Try.ntmps156
  go_upto_region 2 with (fail)
  rw [zero24]
  generalize hW : World.alloc (World.alloc (World.alloc w _) _) _ = X
  have hF : FlW p o (h || anyN (fun k => quoh (b k) s) 0) w X := by subst hW; exact flag_is (by simp [anyN]) ((((FlW.refl fl).alloc _).alloc _).alloc _)
  have hB : Blk X w.heap.size (rowA 24 b) 100 := by subst hW; exact ((Blk.made _ _ _ rfl).alloc _).alloc _
  have hR : Blk X (w.heap.size + 1) (rowA 24 fun _ => 0) 100 := by subst hW; exact (Blk.made _ _ _ (by simp)).alloc _
  have hK : Blk X (w.heap.size + 2) (rowA 24 (upTo (fun k => quov (b k) s) 0)) 100 := by subst hW; rw [upTo_zero]; exact Blk.made _ _ _ (by simp)
  have hz : w.heap.size + 2 < X.heap.size := by subst hW; simp
  clear hW
  go_wp2_with (refine row_load 100 _ rfl rfl w.heap.size 24 _ _ rfl hB _ Try.underlying100 rfl brSize ?_)
  clear hB
  go_loopw [11] (fun i' wr => ∃ k : Nat, k ≤ 24 ∧ i' = .int .i64 k ∧ FlW p o (h || anyN (fun k => quoh (b k) s) k) w wr ∧ w.heap.size + 2 < wr.heap.size ∧ Blk wr (w.heap.size + 1) (rowA 24 fun _ => 0) 100 ∧ Blk wr (w.heap.size + 2) (rowA 24 (upTo (fun k => quov (b k) s) k)) 100) (fun i' _ => 24 - (intOf i').toNat)
  case atStart => exact ⟨0, by omega, rfl, hF, hz, hR, hK⟩
  case round =>
    clear hF hz hR hK
    obtain ⟨k, hk, rfl, hF, hz, hR, hK⟩ := hrel
    have fr := hF.fl fl
    by_cases hlt : k < 24
    · have hltI : (k : Int) < 24 := by omega
      have hk0 : (0 : Int) ≤ (k : Int) := by omega
      go_wp2_with (refine index_row 100 _ _ rfl rfl (n := 24) (j := k) _ rfl rfl Try.underlying100 Try.underlying2 numSize hlt ?_)
      refine (bdiv_quov p o (b k) s _ _ fr).mono ?_
      rintro e w4 ⟨rfl, kk⟩
      have hR4 := hR.flag (by omega) kk
      have hK4 := hK.flag (by omega) kk
      have hc := hK4.cell k
      rw [rowA_get _ (by omega)] at hc
      have hf := hK4.free k
      have hz4 := kk.size
      have hK5 := hK4.setI (k := k) hlt (quov (b k) s)
      rw [upTo_next (fun k => quov (b k) s) k] at hK5
      have hF5 := (hF.trans kk).other (b := w.heap.size + 2) (i := k) (by omega) (.int .i64 (quov (b k) s))
      have hR5 := hR4.other (b := w.heap.size + 2) (i := k) (by omega) (.int .i64 (quov (b k) s))
      have H := Lib.hid (And.intro hF5 (And.intro hR5 hK5))
      clear hF5 hR5 hK5 hF hR hK hR4 hK4
      go_wp2_with fail
      go_roundw
      case rel =>
        obtain ⟨hF5, hR5, hK5⟩ := H.out
        exact ⟨k + 1, by omega, by go_num, flag_is (by simp [anyN, Bool.or_assoc]) hF5, by rw [size_set]; omega, hR5, hK5⟩
      case measure => simp [intOf]; omega
    · obtain rfl : k = 24 := by omega
      clear hlt hk
      have hK := hK.congr (fun j hj => upTo_all hj)
      go_wp2_with (first
        | (refine row_load 100 _ rfl rfl (w.heap.size + 2) 24 _ _ rfl hK _ Try.underlying100 rfl brSize ?_)
        | (refine row_store 100 _ _ rfl rfl (w.heap.size + 1) 24 _ _ _ rfl rfl hR brSize ?_))
      exact bodyPost_ret (v := .agg (rowA 24 fun k => quov (b k) s)) (results_row rfl _ _ (w.heap.size + 1) 24 _ _ _ rfl hR.setRow Try.underlying100 rfl brSize) rfl ⟨rfl, hF.row (by omega) _⟩
set_option maxHeartbeats 2000000 in
theorem gain_any (p o : Nat) (b : Nat → Int) (s : Int) (h : Bool) (w : World) (fl : Fl p o h w) :
    Calls Try.prog 93 #[.pointer (some ⟨p, o, none⟩), .agg (rowA 24 b), .int .i64 s] w fun e w' => e = .returned (.agg (rowA 24 fun k => mulv (b k) s)) ∧ FlW p o (h || anyN (fun k => mulh (b k) s) 24) w w' := by
  have hpw := fl.lt
  go_enter Try.func93, Try.ntmps93
  go_upto_region 1 with (fail)
  rw [zero24]
  generalize hW : World.alloc (World.alloc w _) _ = X
  have hF : FlW p o (h || anyN (fun k => mulh (b k) s) 0) w X := by subst hW; exact flag_is (by simp [anyN]) (((FlW.refl fl).alloc _).alloc _)
  have hB : Blk X w.heap.size (rowA 24 b) 100 := by subst hW; exact (Blk.made _ _ _ rfl).alloc _
  have hK : Blk X w.heap.size (rowA 24 (mapP (fun k => mulv (b k) s) b 0)) 100 := by rw [mapP_zero]; exact hB
  have hR : Blk X (w.heap.size + 1) (rowA 24 fun _ => 0) 100 := by subst hW; exact Blk.made _ _ _ (by simp)
  have hz : w.heap.size + 1 < X.heap.size := by subst hW; simp
  clear hW
  go_wp2_with (refine row_load 100 _ rfl rfl w.heap.size 24 _ _ rfl hB _ Try.underlying100 rfl brSize ?_)
  clear hB
  go_loopw [10] (fun i' wr => ∃ k : Nat, k ≤ 24 ∧ i' = .int .i64 k ∧ FlW p o (h || anyN (fun k => mulh (b k) s) k) w wr ∧ w.heap.size + 1 < wr.heap.size ∧ Blk wr (w.heap.size + 1) (rowA 24 fun _ => 0) 100 ∧ Blk wr w.heap.size (rowA 24 (mapP (fun k => mulv (b k) s) b k)) 100) (fun i' _ => 24 - (intOf i').toNat)
  case atStart => exact ⟨0, by omega, rfl, hF, hz, hR, hK⟩
  case round =>
    clear hF hz hR hK
    obtain ⟨k, hk, rfl, hF, hz, hR, hK⟩ := hrel
    have fr := hF.fl fl
    by_cases hlt : k < 24
    · have hltI : (k : Int) < 24 := by omega
      have hk0 : (0 : Int) ≤ (k : Int) := by omega
      go_wp2_with (refine index_row 100 _ _ rfl rfl (n := 24) (j := k) _ rfl rfl Try.underlying100 Try.underlying2 numSize hlt ?_)
      refine (mul_mulv p o (b k) s _ _ fr).mono ?_
      rintro e w4 ⟨rfl, kk⟩
      have hR4 := hR.flag (by omega) kk
      have hK4 := hK.flag (by omega) kk
      have hc := hK4.cell k
      rw [rowA_get _ (by omega)] at hc
      have hf := hK4.free k
      have hz4 := kk.size
      have hK5 := hK4.setI (k := k) hlt (mulv (b k) s)
      rw [mapP_next (fun k => mulv (b k) s) b k] at hK5
      have hF5 := (hF.trans kk).other (b := w.heap.size) (i := k) (by omega) (.int .i64 (mulv (b k) s))
      have hR5 := hR4.other (b := w.heap.size) (i := k) (by omega) (.int .i64 (mulv (b k) s))
      have H := Lib.hid (And.intro hF5 (And.intro hR5 hK5))
      clear hF5 hR5 hK5 hF hR hK hR4 hK4
      go_wp2_with fail
      go_roundw
      case rel =>
        obtain ⟨hF5, hR5, hK5⟩ := H.out
        exact ⟨k + 1, by omega, by go_num, flag_is (by simp [anyN, Bool.or_assoc]) hF5, by rw [size_set]; omega, hR5, hK5⟩
      case measure => simp [intOf]; omega
    · obtain rfl : k = 24 := by omega
      clear hlt hk
      have hK := hK.congr (fun j hj => mapP_all hj)
      go_wp2_with (first
        | (refine row_load 100 _ rfl rfl w.heap.size 24 _ _ rfl hK _ Try.underlying100 rfl brSize ?_)
        | (refine row_store 100 _ _ rfl rfl (w.heap.size + 1) 24 _ _ _ rfl rfl hR brSize ?_))
      exact bodyPost_ret (v := .agg (rowA 24 fun k => mulv (b k) s)) (results_row rfl _ _ (w.heap.size + 1) 24 _ _ _ rfl hR.setRow Try.underlying100 rfl brSize) rfl ⟨rfl, hF.row (by omega) _⟩
/-- One at some states. -/
def pickF (l : Nat → Int) : Nat → Nat → Int
  | 0 => fun _ => 0
  | n + 1 => if 0 ≤ l n ∧ l n < 24 then upd (pickF l n) (l n).toNat 1073741824 else pickF l n
set_option maxHeartbeats 2000000 in
theorem pick_any (A : Option Addr) (n c : Nat) (l : Nat → Int) (w : World) (hA : 0 < n → ∃ b ob, A = some ⟨b, ob, none⟩ ∧ b < w.heap.size ∧ Ints w b ob n l) (hn : n ≤ 9223372036854775807) :
    Calls Try.prog 89 #[.slice A n c] w fun e w' => e = .returned (.agg (rowA 24 (pickF l n))) ∧ Below w.heap.size w w' := by
  go_enter Try.func89, Try.ntmps89
  go_upto_region 2 with (fail)
  rw [zero24]
  generalize hW : World.alloc (World.alloc w _) _ = X
  have hF : Below w.heap.size w X := by subst hW; exact ((Below.refl _ _).alloc (Nat.le_refl _) _).alloc (by simp) _
  have hR : Blk X w.heap.size (rowA 24 fun _ => 0) 100 := by subst hW; exact (Blk.made _ _ _ rfl).alloc _
  have hK : Blk X (w.heap.size + 1) (rowA 24 (pickF l 0)) 100 := by subst hW; exact Blk.made _ _ _ (by simp)
  clear hW
  go_wp2_with fail
  go_loopw [8] (fun i' wr => ∃ k : Nat, k ≤ n ∧ i' = .int .i64 k ∧ Below w.heap.size w wr ∧ Blk wr w.heap.size (rowA 24 fun _ => 0) 100 ∧ Blk wr (w.heap.size + 1) (rowA 24 (pickF l k)) 100) (fun i' _ => n - (intOf i').toNat)
  case atStart => exact ⟨0, by omega, rfl, hF, hR, hK⟩
  case round =>
    clear hF hR hK
    obtain ⟨k, hk, rfl, hF, hR, hK⟩ := hrel
    by_cases hlt : k < n
    · obtain ⟨b, ob, rfl, hb, hx⟩ := hA (by omega)
      have hltI : (k : Int) < (n : Int) := by omega
      have hk0 : (0 : Int) ≤ (k : Int) := by omega
      have hc := (cellAt (b := b) (i := ob + k) hF hb).trans (hx.at_ k hlt)
      by_cases h0 : 0 ≤ l k
      · by_cases h1 : l k < 24
        · have HN := Lib.hid (show upd (pickF l k) (l k).toNat 1073741824 = pickF l (k + 1) by rw [pickF, if_pos ⟨h0, h1⟩])
          obtain ⟨m, hm⟩ := Int.eq_ofNat_of_zero_le h0
          rw [hm] at h0 h1 hc HN
          have hm24 : m < 24 := by omega
          have hc2 := hK.cell m
          rw [rowA_get _ hm24] at hc2
          have hf2 := hK.free m
          have hK5 := hK.setI (k := m) hm24 1073741824
          rw [show m = ((m : Int)).toNat by omega] at hK5
          rw [HN.out] at hK5
          have hF5 := hF.setCell (p := ⟨w.heap.size + 1, m, none⟩) (by simp) (.int .i64 1073741824)
          have hR5 := hR.other (b := w.heap.size + 1) (i := m) (by omega) (.int .i64 1073741824)
          have H := Lib.hid (And.intro hF5 (And.intro hR5 hK5))
          clear hF5 hR5 hK5 hF hR hK HN hm
          go_wp2_with fail
          go_roundw
          case rel =>
            obtain ⟨hF5, hR5, hK5⟩ := H.out
            exact ⟨k + 1, by omega, by go_num, hF5, hR5, hK5⟩
          case measure => simp [intOf]; omega
        · have HN := Lib.hid (show pickF l k = pickF l (k + 1) by rw [pickF, if_neg (by omega)])
          rw [HN.out] at hK
          generalize l k = v at *
          clear HN
          go_wp2_with fail
          go_roundw
          case rel => exact ⟨k + 1, by omega, by go_num, hF, hR, hK⟩
          case measure => simp [intOf]; omega
      · have HN := Lib.hid (show pickF l k = pickF l (k + 1) by rw [pickF, if_neg (by omega)])
        rw [HN.out] at hK
        generalize l k = v at *
        clear HN
        go_wp2_with fail
        go_roundw
        case rel => exact ⟨k + 1, by omega, by go_num, hF, hR, hK⟩
        case measure => simp [intOf]; omega
    · obtain rfl : k = n := by omega
      have hnn : ¬ (k : Int) < (k : Int) := by omega
      clear hlt hk hA
      go_wp2_with (first
        | (refine row_load 100 _ rfl rfl (w.heap.size + 1) 24 _ _ rfl hK _ Try.underlying100 rfl brSize ?_)
        | (refine row_store 100 _ _ rfl rfl w.heap.size 24 _ _ _ rfl rfl hR brSize ?_))
      exact bodyPost_ret (v := .agg (rowA 24 (pickF l k))) (results_row rfl _ _ w.heap.size 24 _ _ _ rfl hR.setRow Try.underlying100 rfl brSize) rfl ⟨rfl, below_setRow hF (by omega) _⟩
end Go.Proofs.Ytplffehgjdinnaa
