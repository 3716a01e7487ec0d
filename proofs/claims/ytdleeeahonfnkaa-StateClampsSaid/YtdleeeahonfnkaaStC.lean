/- Package quat: a quaternion made one of length one: its parts. -/
import Derived.Test.YtdleeeahonfnkaaStB
import Derived.Test.YtdleeeahonfnkaaRootH
namespace Go.Proofs.Ytdleeeahonfnkaa
open Go.RowKit

/-- All numbers clamped; is one? -/
def satF (f : Nat → Int) : Nat → Int := fun k => satv (f k)
def satO (f : Nat → Int) : Nat → Bool
  | 0 => false
  | k + 1 => satO f k || sath (f k)
def preF (f g : Nat → Int) (k : Nat) : Nat → Int := fun j => if j < k then g j else f j
theorem preF_zero (f g : Nat → Int) : preF f g 0 = f := by funext j; unfold preF; rw [if_neg (by omega)]
theorem preF_at (f g : Nat → Int) (k : Nat) : preF f g k k = f k := by unfold preF; rw [if_neg (by omega)]
theorem preF_next (f g : Nat → Int) (k : Nat) (v : Int) (hv : v = g k) : upd (preF f g k) k v = preF f g (k + 1) := by
  subst hv
  funext j; unfold upd preF
  by_cases h : j = k
  · subst h; rw [if_pos rfl, if_pos (by omega)]
  · rw [if_neg h]
    by_cases h2 : j < k
    · rw [if_pos h2, if_pos (by omega)]
    · rw [if_neg h2, if_neg (by omega)]
theorem preF_all {f g : Nat → Int} {n j : Nat} (h : j < n) : preF f g n j = g j := by unfold preF; rw [if_pos h]
set_option maxHeartbeats 4000000 in
theorem usat_any (p o : Nat) (f : Nat → Int) (h : Bool) (w : World) (fl : Fl p o h w) :
    Calls Try.prog 157 #[.pointer (some ⟨p, o, none⟩), .agg (rowA 4 f)] w fun e w' => e = .returned (.agg (rowA 4 (satF f))) ∧ FlW p o (h || satO f 4) w w' := by
  have hpw := fl.lt
  go_enter Try.func157, Try.ntmps157
  go_upto_region 1 with (fail)
  rw [zero4]
  generalize hW : World.alloc (World.alloc w _) _ = W
  have hF : FlW p o (h || satO f 0) w W := by subst hW; exact flag_is (by simp [satO]) (((FlW.refl fl).alloc _).alloc _)
  have hB : Blk W w.heap.size (rowA 4 (preF f (satF f) 0)) 85 := by subst hW; rw [preF_zero]; exact (Blk.made _ _ _ rfl).alloc _
  have hR : Blk W (w.heap.size + 1) (rowA 4 fun _ => 0) 85 := by subst hW; exact Blk.made _ _ _ (by simp)
  have hz : w.heap.size + 1 < W.heap.size := by subst hW; simp
  clear hW
  go_wp2_with fail
  go_loopw [5, 6] (fun x i wr => ∃ k : Nat, k ≤ 4 ∧ i = .int .i64 (k : Int) ∧ FlW p o (h || satO f k) w wr ∧ w.heap.size + 1 < wr.heap.size ∧ Blk wr w.heap.size (rowA 4 (preF f (satF f) k)) 85 ∧ Blk wr (w.heap.size + 1) (rowA 4 fun _ => 0) 85) (fun _ i _ => 4 - (intOf i).toNat)
  case atStart => exact ⟨0, by omega, rfl, hF, hz, hB, hR⟩
  case round =>
    obtain ⟨k, hk, rfl, hF, hz, hB, hR⟩ := hrel
    have fr := hF.fl fl
    by_cases hlt : k < 4
    · have hltI : (k : Int) < 4 := by omega
      have hk0 : (0 : Int) ≤ (k : Int) := by omega
      have hc := hB.cell k
      rw [rowA_get _ hlt, preF_at] at hc
      have hf := hB.free k
      have H := Lib.hid (And.intro hB (And.intro hR hF))
      clear hB hR hF
      go_wp2_with fail
      refine (sat_any p o (f k) _ _ fr).mono ?_
      rintro e w4 ⟨rfl, kk⟩
      obtain ⟨hB, hR, hF⟩ := H.out
      have hB4 := hB.flag (by omega) kk
      have hR4 := hR.flag (by omega) kk
      have hc := hB4.cell k
      rw [rowA_get _ hlt] at hc
      have hf := hB4.free k
      have hz4 := kk.size
      have hB5 := hB4.setI (k := k) hlt (satv (f k))
      rw [preF_next f (satF f) k (satv (f k)) rfl] at hB5
      have hF5 := (hF.trans kk).other (b := w.heap.size) (i := k) (by omega) (.int .i64 (satv (f k)))
      have hR5 := hR4.other (b := w.heap.size) (i := k) (by omega) (.int .i64 (satv (f k)))
      have H := Lib.hid (And.intro hB5 (And.intro hF5 hR5))
      clear hB5 hF5 hR5 hB hR hF hB4 hR4
      go_wp2_with fail
      go_roundw
      case rel =>
        obtain ⟨hB5, hF5, hR5⟩ := H.out
        exact ⟨k + 1, by omega, by go_num, flag_is (by rw [satO]; simp [Bool.or_assoc]) hF5, by rw [size_set]; omega, hB5, hR5⟩
      case measure => simp [intOf]; omega
    · obtain rfl : k = 4 := by omega
      have hB2 := hB.congr (fun j hj => preF_all (f := f) (g := satF f) hj)
      clear hlt hk hB
      go_wp2_with (first
        | (refine row_load 85 _ rfl rfl w.heap.size 4 _ _ rfl hB2 _ Try.underlying85 rfl quatSize ?_)
        | (refine row_store 85 _ _ rfl rfl (w.heap.size + 1) 4 _ _ _ rfl rfl hR quatSize ?_))
      exact bodyPost_ret (v := .agg (rowA 4 (satF f))) (results_row rfl _ _ (w.heap.size + 1) 4 _ _ _ rfl hR.setRow Try.underlying85 rfl quatSize) rfl ⟨rfl, hF.row (by omega) _⟩
/-- All numbers divided by one; what clamps. -/
def byF (f : Nat → Int) (n : Int) : Nat → Int := fun k => divv (satv (f k) * 2 ^ 30) (satv n)
def byO (f : Nat → Int) (n : Int) : Nat → Bool
  | 0 => false
  | k + 1 => byO f n k || (sath (f k) || sath n || divh (satv (f k) * 2 ^ 30) (satv n))
def lenF (f : Nat → Int) : Int := satv (rootN (sumQ f 4).toNat : Nat)
def lenO (f : Nat → Int) : Bool := anyS f 4 || sath (rootN (sumQ f 4).toNat : Nat)
set_option maxHeartbeats 4000000 in
theorem uby_any (p o : Nat) (f : Nat → Int) (h : Bool) (w : World) (fl : Fl p o h w) :
    Calls Try.prog 158 #[.pointer (some ⟨p, o, none⟩), .agg (rowA 4 f)] w fun e w' => e = .returned (.agg (rowA 4 (byF f (lenF f)))) ∧ FlW p o (h || lenO f || byO f (lenF f) 4) w w' := by
  have hpw := fl.lt
  go_enter Try.func158, Try.ntmps158
  go_upto_region 1 with (fail)
  rw [zero4]
  generalize hW : World.alloc (World.alloc w _) _ = W
  have hF : FlW p o h w W := by subst hW; exact ((FlW.refl fl).alloc _).alloc _
  have hB : Blk W w.heap.size (rowA 4 f) 85 := by subst hW; exact (Blk.made _ _ _ rfl).alloc _
  have hR : Blk W (w.heap.size + 1) (rowA 4 fun _ => 0) 85 := by subst hW; exact Blk.made _ _ _ (by simp)
  have hz : w.heap.size + 1 < W.heap.size := by subst hW; simp
  clear hW
  have H := Lib.hid (And.intro hB (And.intro hR hF))
  have fr := hF.fl fl
  have hI := Lib.hid hB.ints
  clear hB hR hF
  go_wp2_with fail
  refine (hypot p o w.heap.size 0 4 f 4 h W fr (by omega) (by omega) (by omega) (by omega) (by omega) hI.out).mono ?_
  rintro e W1 ⟨rfl, k1⟩
  obtain ⟨hB, hR, hF⟩ := H.out
  replace hB : Blk W1 w.heap.size (rowA 4 (preF f (byF f (lenF f)) 0)) 85 := by rw [preF_zero]; exact hB.flag (by omega) k1
  replace hR := hR.flag (by omega) k1
  replace hF : FlW p o (h || lenO f || byO f (lenF f) 0) w W1 := flag_is (by simp [byO, lenO, Bool.or_assoc]) (hF.trans k1)
  replace hz := Nat.lt_of_lt_of_le hz k1.size
  have HL := Lib.hid (show satv (rootN (sumQ f 4).toNat : Nat) = lenF f from rfl)
  rw [HL.out]
  clear H hI k1 fr HL
  generalize hn : lenF f = n at *
  replace hn := Lib.hid hn
  go_wp2_with fail
  go_loopw [6, 10] (fun x i wr => ∃ k : Nat, k ≤ 4 ∧ i = .int .i64 (k : Int) ∧ FlW p o (h || lenO f || byO f n k) w wr ∧ w.heap.size + 1 < wr.heap.size ∧ Blk wr w.heap.size (rowA 4 (preF f (byF f n) k)) 85 ∧ Blk wr (w.heap.size + 1) (rowA 4 fun _ => 0) 85) (fun _ i _ => 4 - (intOf i).toNat)
  case atStart => exact ⟨0, by omega, rfl, hF, hz, hB, hR⟩
  case round =>
    obtain ⟨k, hk, rfl, hF, hz, hB, hR⟩ := hrel
    have fr := hF.fl fl
    by_cases hlt : k < 4
    · have hltI : (k : Int) < 4 := by omega
      have hk0 : (0 : Int) ≤ (k : Int) := by omega
      have hc := hB.cell k
      rw [rowA_get _ hlt, preF_at] at hc
      have hf := hB.free k
      have H := Lib.hid (And.intro hB (And.intro hR hF))
      clear hB hR hF
      go_wp2_with fail
      refine (div_fx p o (f k) n 30 _ _ fr (by omega)).mono ?_
      rintro e w4 ⟨rfl, kk⟩
      obtain ⟨hB, hR, hF⟩ := H.out
      have hB4 := hB.flag (by omega) kk
      have hR4 := hR.flag (by omega) kk
      have hc := hB4.cell k
      rw [rowA_get _ hlt] at hc
      have hf := hB4.free k
      have hz4 := kk.size
      have hB5 := hB4.setI (k := k) hlt (divv (satv (f k) * 2 ^ 30) (satv n))
      rw [preF_next f (byF f n) k (divv (satv (f k) * 2 ^ 30) (satv n)) rfl] at hB5
      have hF5 := (hF.trans kk).other (b := w.heap.size) (i := k) (by omega) (.int .i64 (divv (satv (f k) * 2 ^ 30) (satv n)))
      have hR5 := hR4.other (b := w.heap.size) (i := k) (by omega) (.int .i64 (divv (satv (f k) * 2 ^ 30) (satv n)))
      have H := Lib.hid (And.intro hB5 (And.intro hF5 hR5))
      clear hB5 hF5 hR5 hB hR hF hB4 hR4
      generalize divv (satv (f k) * 2 ^ 30) (satv n) = D at *
      go_wp2_with fail
      go_roundw
      case rel =>
        obtain ⟨hB5, hF5, hR5⟩ := H.out
        exact ⟨k + 1, by omega, by go_num, flag_is (by rw [byO]; simp [Bool.or_assoc]) hF5, by rw [size_set]; omega, hB5, hR5⟩
      case measure => simp [intOf]; omega
    · obtain rfl : k = 4 := by omega
      have hB2 := hB.congr (fun j hj => preF_all (f := f) (g := byF f n) hj)
      clear hlt hk hB
      go_wp2_with (first
        | (refine row_load 85 _ rfl rfl w.heap.size 4 _ _ rfl hB2 _ Try.underlying85 rfl quatSize ?_)
        | (refine row_store 85 _ _ rfl rfl (w.heap.size + 1) 4 _ _ _ rfl rfl hR quatSize ?_))
      exact bodyPost_ret (v := .agg (rowA 4 (byF f n))) (results_row rfl _ _ (w.heap.size + 1) 4 _ _ _ rfl hR.setRow Try.underlying85 rfl quatSize) rfl ⟨by rw [hn.out], by rw [hn.out]; exact hF.row (by omega) _⟩
end Go.Proofs.Ytdleeeahonfnkaa
