/- Package tri: covariances made of variances; what may be; the greatest D. -/
import Derived.Test.YtaehmhdcniegkaaTriD
namespace Go.Proofs.Ytaehmhdcniegkaa
open Go.RowKit

def newP (l : Nat → Int) (n k : Nat) : Nat → Int := fun q => if 276 ≤ q ∧ q < 276 + k then (if q - 276 < n then clampv (l (q - 276)) 1 72057594037927936 else 1) else 0
theorem newP_zero (l : Nat → Int) (n : Nat) : newP l n 0 = fun _ => 0 := by funext q; unfold newP; rw [if_neg (by omega)]
theorem newP_next (l : Nat → Int) (n k : Nat) (v : Int) (hv : v = if k < n then clampv (l k) 1 72057594037927936 else 1) : upd (newP l n k) (276 + k) v = newP l n (k + 1) := by
  subst hv
  funext q; unfold upd newP
  by_cases h : q = 276 + k
  · subst h
    rw [if_pos rfl, if_pos (show 276 ≤ 276 + k ∧ 276 + k < 276 + (k + 1) by omega), show 276 + k - 276 = k by omega]
  · rw [if_neg h]
    by_cases h2 : 276 ≤ q ∧ q < 276 + k
    · rw [if_pos h2, if_pos (show 276 ≤ q ∧ q < 276 + (k + 1) by omega)]
    · rw [if_neg h2, if_neg (show ¬ (276 ≤ q ∧ q < 276 + (k + 1)) by omega)]
theorem newP_all (l : Nat → Int) (n : Nat) {q : Nat} (hq : q < 300) : newP l n 24 q = newF l n q := by
  unfold newP newF
  by_cases h : q < 276
  · rw [if_neg (show ¬ (276 ≤ q ∧ q < 276 + 24) by omega), if_pos h]
  · rw [if_pos (show 276 ≤ q ∧ q < 276 + 24 by omega), if_neg h]
theorem upd_upd (f : Nat → Int) (k : Nat) (u v : Int) : upd (upd f k u) k v = upd f k v := by
  funext q; unfold upd
  by_cases h : q = k
  · rw [if_pos h, if_pos h]
  · rw [if_neg h, if_neg h, if_neg h]
set_option maxHeartbeats 2000000 in
theorem new_any (p o : Nat) (A : Option Addr) (n c : Nat) (l : Nat → Int) (h : Bool) (w : World) (fl : Fl p o h w) (hA : 0 < n → ∃ b ob, A = some ⟨b, ob, none⟩ ∧ b < w.heap.size ∧ b ≠ p ∧ Ints w b ob n l) (hn : n ≤ 9223372036854775807) :
    Calls Try.prog 15 #[.pointer (some ⟨p, o, none⟩), .slice A n c] w fun e w' => e = .returned (.agg (rowA 300 (newF l n))) ∧ FlW p o (h || newH l n 24) w w' := by
  have hpw := fl.lt
  go_enter Try.func15, Try.ntmps15
  go_upto_region 2 with (fail)
  rw [zeroCov]
  generalize hW : World.alloc (World.alloc w _) _ = W
  have hF : FlW p o (h || newH l n 0) w W := by subst hW; exact flag_is (by simp [newH]) (((FlW.refl fl).alloc _).alloc _)
  have hR : Blk W w.heap.size (rowA 300 fun _ => 0) 29 := by subst hW; exact (Blk.made _ _ _ rfl).alloc _
  have hB : Blk W (w.heap.size + 1) (rowA 300 (newP l n 0)) 29 := by subst hW; rw [newP_zero]; exact Blk.made _ _ _ (by simp)
  have hz : w.heap.size + 1 < W.heap.size := by subst hW; simp
  clear hW
  go_wp2_with fail
  go_loopw [7] (fun i wr => ∃ k : Nat, k ≤ 24 ∧ i = .int .i64 k ∧ FlW p o (h || newH l n k) w wr ∧ w.heap.size + 1 < wr.heap.size ∧ Blk wr w.heap.size (rowA 300 fun _ => 0) 29 ∧ Blk wr (w.heap.size + 1) (rowA 300 (newP l n k)) 29) (fun i _ => 24 - (intOf i).toNat)
  case atStart => exact ⟨0, by omega, rfl, hF, hz, hR, hB⟩
  case round =>
    obtain ⟨k, hk, rfl, hF, hz, hR, hB⟩ := hrel
    have fr := hF.fl fl
    by_cases hlt : k < 24
    · have hltI : (k : Int) < 24 := by omega
      have hk0 : (0 : Int) ≤ (k : Int) := by omega
      have hc := hB.cell (276 + k)
      rw [rowA_get _ (by omega)] at hc
      have hf := hB.free (276 + k)
      have hB2 := hB.setI (k := 276 + k) (by omega) 1
      have hR2 := hR.other (b := w.heap.size + 1) (i := 276 + k) (by omega) (.int .i64 1)
      have hF2 := hF.other (b := w.heap.size + 1) (i := 276 + k) (by omega) (.int .i64 1)
      have hz2 : w.heap.size + 1 < (wr.setCell ⟨w.heap.size + 1, 276 + k, none⟩ (.int .i64 1)).heap.size := by rw [size_set]; exact hz
      by_cases hkn : k < n
      · obtain ⟨b, ob, rfl, hb, hbp, hx⟩ := hA (by omega)
        have hx2 := (hF2.cell (b := b) (i := ob + k) hb (.inl hbp)).trans (hx.at_ k hkn)
        have H := Lib.hid (And.intro hB2 (And.intro hR2 (And.intro hF2 (And.intro hz2 hx2))))
        clear hB2 hR2 hF2 hz2 hx2 hB hR hF hx hA hz
        have hknI : (k : Int) < (n : Int) := by omega
        go_upto_region 7 with (fail)
        obtain ⟨hB2, hR2, hF2, hz2, hx2⟩ := H.out
        clear H hc hf
        generalize World.setCell _ _ _ = W2 at *
        have fr2 := hF2.fl fl
        go_wp2_with fail
        refine (variance_any p o (l k) _ _ fr2).mono ?_
        rintro e w4 ⟨rfl, kk⟩
        have hB4 := hB2.flag (by omega) kk
        have hR4 := hR2.flag (by omega) kk
        have hc := hB4.cell (276 + k)
        rw [rowA_get _ (by omega)] at hc
        have hf := hB4.free (276 + k)
        have hz4 := kk.size
        have hB5 := hB4.setI (k := 276 + k) (by omega) (clampv (l k) 1 72057594037927936)
        rw [upd_upd, newP_next l n k _ (by rw [if_pos hkn])] at hB5
        have hF5 := (hF2.trans kk).other (b := w.heap.size + 1) (i := 276 + k) (by omega) (.int .i64 (clampv (l k) 1 72057594037927936))
        have hR5 := hR4.other (b := w.heap.size + 1) (i := 276 + k) (by omega) (.int .i64 (clampv (l k) 1 72057594037927936))
        have H := Lib.hid (And.intro hB5 (And.intro hF5 hR5))
        clear hB5 hF5 hR5 hB2 hR2 hF2 hB4 hR4
        go_wp2_with fail
        go_roundw
        case rel =>
          obtain ⟨hB5, hF5, hR5⟩ := H.out
          exact ⟨k + 1, by omega, by go_num, flag_is (by rw [newH, decide_eq_true hkn]; simp [Bool.or_assoc]) hF5, by rw [size_set]; omega, hR5, hB5⟩
        case measure => simp [intOf]; omega
      · rw [newP_next l n k _ (by rw [if_neg hkn])] at hB2
        have hknI : ¬ (k : Int) < (n : Int) := by omega
        have H := Lib.hid (And.intro hB2 (And.intro hR2 (And.intro hF2 hz2)))
        clear hB2 hR2 hF2 hz2 hB hR hF hA hz
        go_wp2_with fail
        go_roundw
        case rel =>
          obtain ⟨hB2, hR2, hF2, hz2⟩ := H.out
          exact ⟨k + 1, by omega, by go_num, flag_is (by rw [newH, decide_eq_false hkn]; simp) hF2, hz2, hR2, hB2⟩
        case measure => simp [intOf]; omega
    · obtain rfl : k = 24 := by omega
      have hB2 := hB.congr (fun j hj => newP_all l n hj)
      clear hlt hk hB hA
      go_wp2_with (first
        | (refine row_load 29 _ rfl rfl (w.heap.size + 1) 300 _ _ rfl hB2 _ Try.underlying29 rfl covSize ?_)
        | (refine row_store 29 _ _ rfl rfl w.heap.size 300 _ _ _ rfl rfl hR covSize ?_))
      exact bodyPost_ret (v := .agg (rowA 300 (newF l n))) (results_row rfl _ _ w.heap.size 300 _ _ _ rfl hR.setRow Try.underlying29 rfl covSize) rfl ⟨rfl, hF.row (by omega) _⟩
set_option maxHeartbeats 1000000 in
theorem good_any (f : Nat → Int) (w : World) :
    Calls Try.prog 16 #[.agg (rowA 300 f)] w fun e w' => e = .returned (.bool (goodB f)) ∧ Below w.heap.size w w' := by
  go_enter Try.func16, Try.ntmps16
  go_upto_region 2 with (fail)
  generalize hW : World.alloc (World.alloc w _) _ = W
  have hb : Below w.heap.size w W := by subst hW; exact ((Below.refl _ _).alloc (Nat.le_refl _) _).alloc (by simp) _
  have hB : Blk W w.heap.size (rowA 300 f) 29 := by subst hW; exact (Blk.made _ _ _ rfl).alloc _
  have fl : Fl (w.heap.size + 1) 0 false W := by subst hW; exact Fl.made_at _ _ _ (by simp)
  clear hW
  go_wp2_with (refine row_load 29 _ rfl rfl w.heap.size 300 _ _ rfl hB _ Try.underlying29 rfl covSize ?_)
  refine (condition_any (w.heap.size + 1) 0 f false W fl).mono ?_
  rintro e w1 ⟨rfl, k⟩
  have hc := (k.fl fl).cell
  have hb1 : Below w.heap.size w w1 := hb.trans (k.below hb.size (by omega))
  have HG := Lib.hid (show goodB f = !condH f from rfl)
  rw [Bool.false_or] at hc
  generalize condH f = g at *
  clear fl k hB hb
  go_wp2_with fail
  go_ret
  exact ⟨ret_bool HG.out.symm, hb1⟩
end Go.Proofs.Ytaehmhdcniegkaa
