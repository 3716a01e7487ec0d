/- Package state: numbers kept within their bounds. -/
import Derived.Test.YtdleeeahonfnkaaStD
namespace Go.Proofs.Ytdleeeahonfnkaa
open Go.RowKit
open SX (boxF)

/-- The numbers of one's own clamped as far as the k-th; what clamps. -/
def boxed (f : Nat → Int) : Nat → Int := fun j => if j < 4 then f j else clampv (f j) (-boxF j) (boxF j)
def boxO (f : Nat → Int) : Nat → Bool
  | 0 => false
  | k + 1 => boxO f k || clamph (f (4 + k)) (-boxF (4 + k)) (boxF (4 + k))
theorem zero24s : (#[.int .i64 0, .int .i64 0, .int .i64 0, .int .i64 0, .int .i64 0, .int .i64 0, .int .i64 0, .int .i64 0, .int .i64 0, .int .i64 0, .int .i64 0, .int .i64 0, .int .i64 0, .int .i64 0, .int .i64 0, .int .i64 0, .int .i64 0, .int .i64 0, .int .i64 0, .int .i64 0, .int .i64 0, .int .i64 0, .int .i64 0, .int .i64 0] : Array Value) = rowA 24 (fun _ => 0) := by kernel_rfl
theorem wrap_id (n : Int) (h1 : -9223372036854775808 ≤ n) (h2 : n ≤ 9223372036854775807) : IntKind.i64.wrap n = n := SX.wrap_inK (SX.inK_i64.2 ⟨h1, h2⟩)
theorem preB_zero (f : Nat → Int) : preF f (boxed f) 4 = fun j => f j := by
  funext j; unfold preF boxed
  by_cases h : j < 4
  · rw [if_pos h, if_pos h]
  · rw [if_neg h]
set_option maxHeartbeats 4000000 in
theorem sclamp_any (p o : Nat) (f : Nat → Int) (h : Bool) (w : World) (fl : Fl p o h w) :
    Calls Try.prog 130 #[.pointer (some ⟨p, o, none⟩), .agg (rowA 24 f)] w fun e w' => e = .returned (.agg (rowA 24 (boxed f))) ∧ FlW p o (h || boxO f 20) w w' := by
  have hpw := fl.lt
  go_enter Try.func130, Try.ntmps130
  go_upto_region 1 with (fail)
  rw [zero24s]
  generalize hW : World.alloc (World.alloc w _) _ = W
  have hF : FlW p o h w W := by subst hW; exact ((FlW.refl fl).alloc _).alloc _
  have hB : Blk W w.heap.size (rowA 24 f) 77 := by subst hW; exact (Blk.made _ _ _ rfl).alloc _
  have hR : Blk W (w.heap.size + 1) (rowA 24 fun _ => 0) 77 := by subst hW; exact Blk.made _ _ _ (by simp)
  have hz : w.heap.size + 1 < W.heap.size := by subst hW; simp
  clear hW
  have H := Lib.hid (And.intro hB (And.intro hR hF))
  clear hB hR hF
  go_wp2_with fail
  refine (bounds_is W).mono ?_
  rintro e W1 ⟨rfl, k1⟩
  obtain ⟨hB, hR, hF⟩ := H.out
  replace hB := hB.call k1
  replace hR := hR.call k1
  replace hF := hF.then k1
  have hz1 := k1.size
  clear H
  have H := Lib.hid (And.intro hB (And.intro hR hF))
  clear hB hR hF
  go_upto_region 2 with (rw [zero24s]; refine row_store 79 _ _ rfl rfl W1.heap.size 24 _ _ _ rfl rfl (Blk.made W1 (rowA 24 fun _ => 0) 79 rfl) boxSize ?_)
  obtain ⟨hB, hR, hF⟩ := H.out
  generalize hW2 : World.setRow _ _ _ = W2
  have hz2 : W1.heap.size < W2.heap.size := by subst hW2; simp
  have hX : Blk W2 W1.heap.size (rowA 24 boxF) 79 := by subst hW2; exact (Blk.made W1 (rowA 24 fun _ => 0) 79 rfl).setRow
  replace hB : Blk W2 w.heap.size (rowA 24 (preF f (boxed f) 4)) 77 := by rw [preB_zero]; subst hW2; exact (hB.alloc _).otherRow (by omega)
  replace hR : Blk W2 (w.heap.size + 1) (rowA 24 fun _ => 0) 77 := by subst hW2; exact (hR.alloc _).otherRow (by omega)
  replace hF : FlW p o (h || boxO f 0) w W2 := by subst hW2; exact flag_is (by simp [boxO]) ((hF.alloc _).row (by omega) _)
  clear hW2 H
  generalize hX0 : W1.heap.size = X at *
  have hXg : w.heap.size + 1 < X := by omega
  clear hz1 hX0 k1 W1 hz
  go_wp2_with fail
  go_loopw [6] (fun i wr => ∃ k : Nat, k ≤ 20 ∧ i = .int .i64 ((4 + k : Nat) : Int) ∧ FlW p o (h || boxO f k) w wr ∧ X < wr.heap.size ∧ Blk wr w.heap.size (rowA 24 (preF f (boxed f) (4 + k))) 77 ∧ Blk wr (w.heap.size + 1) (rowA 24 fun _ => 0) 77 ∧ Blk wr X (rowA 24 boxF) 79) (fun i _ => 24 - (intOf i).toNat)
  case atStart => exact ⟨0, by omega, rfl, hF, hz2, hB, hR, hX⟩
  case round =>
    obtain ⟨k, hk, rfl, hF, hz, hB, hR, hX⟩ := hrel
    have fr := hF.fl fl
    by_cases hlt : k < 20
    · have HN := Lib.hid (preF_next f (boxed f) (4 + k) (clampv (f (4 + k)) (-boxF (4 + k)) (boxF (4 + k))) (by unfold boxed; rw [if_neg (by omega)]))
      have HO := Lib.hid (show boxO f (k + 1) = (boxO f k || clamph (f (4 + k)) (-boxF (4 + k)) (boxF (4 + k))) from rfl)
      have hbx := boxF_bd (4 + k)
      have c1 := hB.drew.cell (4 + k)
      rw [rowA_get _ (by omega), preF_at] at c1
      have c2 := hX.drew.cell (4 + k)
      rw [rowA_get _ (by omega)] at c2
      generalize hq : 4 + k = j at *
      have hltI : (j : Int) < 24 := by omega
      have hk0 : (0 : Int) ≤ (j : Int) := by omega
      have hj24 : j < 24 := by omega
      generalize hbj : boxF j = bj at *
      generalize hfj : f j = fj at *
      have hE := Lib.hid (And.intro hbj (And.intro hfj hq))
      clear hbj hfj hq
      have H := Lib.hid (And.intro hB.drew (And.intro hR.drew (And.intro hF.drew hX.drew)))
      have f1 := hF.drew.fl fl
      clear hB hR hF hX fr
      go_upto_region 5 with (fail)
      go_region_with (go_at_call 22; go_loud (refine (clamp_any p o _ _ _ _ _ f1).mono ?_; rintro e w5 ⟨rfl, k5⟩; have hB5 := H.out.1.flag (by omega) k5; have hc := hB5.cell j; rw [rowA_get _ hj24] at hc; have hf := hB5.free j))
      all_goals
        have hw : IntKind.i64.wrap (-bj) = -bj := wrap_id _ (by omega) (by omega)
        rw [hw] at k5 ⊢
        obtain ⟨hB, hR, hF, hX⟩ := H.out
        obtain ⟨e1, e2, e3⟩ := hE.out
        have hB6 := hB5.setI (k := j) hj24 (clampv fj (-bj) bj)
        rw [HN.out, show j + 1 = 4 + (k + 1) by omega] at hB6
        have hR6 := (hR.flag (by omega) k5).other (b := w.heap.size) (i := j) (by omega) (.int .i64 (clampv fj (-bj) bj))
        have hX6 := (hX.flag (by have := fl.lt; omega) k5).other (b := w.heap.size) (i := j) (by omega) (.int .i64 (clampv fj (-bj) bj))
        have hF6 : FlW p o (h || boxO f (k + 1)) w _ := flag_is (by rw [HO.out, Bool.or_assoc]) ((hF.trans k5).other (b := w.heap.size) (i := j) (by omega) (.int .i64 (clampv fj (-bj) bj)))
        have hs6 : wr.heap.size ≤ w5.heap.size := k5.size
        have HH := Lib.hid (And.intro hB6 (And.intro hR6 (And.intro hX6 hF6)))
        clear hB6 hR6 hX6 hF6 hB hR hF hX H hB5 hc hf c1 c2 f1 HN HO
        go_wp2_with fail
        obtain ⟨hB6, hR6, hX6, hF6⟩ := HH.out
        refine ⟨⟨k + 1, by omega, ?_, hF6, by rw [size_set]; omega, hB6, hR6, hX6⟩, ?_⟩
        · have e5 : (j : Int) + 1 = ((4 + (k + 1) : Nat) : Int) := by omega
          rw [e5]
        · simp [intOf]; omega
    · obtain rfl : k = 20 := by omega
      have hB2 := hB.congr (fun j hj => preF_all (f := f) (g := boxed f) hj)
      clear hlt hk hB
      go_wp2_with (first
        | (refine row_load 77 _ rfl rfl w.heap.size 24 _ _ rfl hB2 _ Try.underlying77 rfl stateSize ?_)
        | (refine row_store 77 _ _ rfl rfl (w.heap.size + 1) 24 _ _ _ rfl rfl hR stateSize ?_))
      exact bodyPost_ret (v := .agg (rowA 24 (boxed f))) (results_row rfl _ _ (w.heap.size + 1) 24 _ _ _ rfl hR.setRow Try.underlying77 rfl stateSize) rfl ⟨rfl, hF.row (by omega) _⟩
end Go.Proofs.Ytdleeeahonfnkaa
