/- astrolabelaw15.StateClamps, walked. -/
import Derived.Test.YtdleeeahonfnkaaStAw
namespace Go.Proofs.Ytdleeeahonfnkaa.stateClamps
open Go Go.RowKit
open SX (boxF)

/-- The number itself within its bound, the bound else. -/
theorem clamp_up {a b : Int} (h0 : 0 ≤ b) (h : b < a) : clampv a (-b) b = b ∧ clamph a (-b) b = true := by
  unfold clampv clamph
  rw [if_neg (by omega), if_neg (by omega), if_pos h]
  exact ⟨rfl, by simp [h]⟩
theorem clamp_down {a b : Int} (h0 : 0 ≤ b) (h : a < -b) : clampv a (-b) b = -b ∧ clamph a (-b) b = true := by
  unfold clampv clamph
  rw [if_neg (by omega), if_pos h]
  exact ⟨rfl, by simp [h]⟩
theorem clamp_same {a b : Int} (h1 : -b ≤ a) (h2 : a ≤ b) : clampv a (-b) b = a ∧ clamph a (-b) b = false := by
  unfold clampv clamph
  rw [if_neg (by omega), if_neg (by omega), if_neg (by omega)]
  exact ⟨rfl, by simp; omega⟩
set_option maxHeartbeats 8000000 in
theorem walk (f : Nat → Int) (w : World) :
    Calls Try.prog 11 #[.agg (rowA 24 f)] w fun e w' => e = .returned (.bool true) ∧ Below w.heap.size w w' := by
  go_enter Try.func11, Try.ntmps11
  go_upto_region 1 with (fail)
  generalize hW : World.alloc w _ = W
  have hb : Below w.heap.size w W := by subst hW; exact (Below.refl _ _).alloc (Nat.le_refl _) _
  have hB : Blk W w.heap.size (rowA 24 f) 77 := by subst hW; exact Blk.made _ _ _ rfl
  have hz : w.heap.size < W.heap.size := by subst hW; simp
  clear hW
  go_wp2_with fail
  refine (SX.closed_true SX.namesOk SX.mixed SX.sumsSA_ok _ _ SX.aw15_ran W).mono ?_
  rintro e W1 ⟨rfl, k1⟩
  replace hB := hB.call k1
  replace hb := hb.trans (k1.mono hb.size)
  replace hz := Nat.lt_of_lt_of_le hz k1.size
  clear k1
  go_upto_region 4 with (fail)
  generalize hW2 : World.alloc W1 _ = W2
  have fl : Fl W1.heap.size 0 false W2 := by subst hW2; exact Fl.made_at _ _ _ rfl
  replace hB : Blk W2 w.heap.size (rowA 24 f) 77 := by subst hW2; exact hB.alloc _
  replace hb : Below w.heap.size w W2 := by subst hW2; exact hb.alloc hb.size _
  clear hW2
  generalize W1.heap.size = q at *
  go_wp2_with (refine row_load 77 _ rfl rfl w.heap.size 24 _ _ rfl hB _ Try.underlying77 rfl stateSize ?_)
  refine (skeep_any q 0 f false W2 fl).mono ?_
  rintro e W3 ⟨rfl, k3⟩
  have fl3 := k3.fl fl
  have hq3 := fl3.lt
  replace hB := hB.flag (by omega) k3
  replace hb := hb.trans (k3.below hb.size (by omega))
  rw [Bool.false_or] at fl3
  clear k3 fl
  go_upto_region 5 with (rw [zero24s]; refine row_store 77 _ _ rfl rfl W3.heap.size 24 _ _ _ rfl rfl (Blk.made W3 (rowA 24 fun _ => 0) 77 rfl) stateSize ?_)
  generalize hW4 : World.setRow _ _ _ = W4
  have hK : Blk W4 W3.heap.size (rowA 24 (keptF f)) 77 := by subst hW4; exact (Blk.made W3 (rowA 24 fun _ => 0) 77 rfl).setRow
  have hz4 : W3.heap.size < W4.heap.size := by subst hW4; simp
  replace hB : Blk W4 w.heap.size (rowA 24 f) 77 := by subst hW4; exact (hB.alloc _).otherRow (by omega)
  replace fl3 : Fl q 0 (keptH f) W4 := by subst hW4; exact fl3.below (below_setRow ((Below.refl _ _).alloc (Nat.le_refl _) _) (Nat.le_refl _) _)
  replace hb : Below w.heap.size w W4 := by subst hW4; exact below_setRow (hb.alloc hb.size _) (by omega) _
  clear hW4
  have hqk : q < W3.heap.size := hq3
  generalize W3.heap.size = kb at *
  go_wp2_with fail
  refine (bounds_is W4).mono ?_
  rintro e W5 ⟨rfl, k5⟩
  replace hB := hB.call k5
  replace hK := hK.call k5
  replace fl3 := fl3.below k5
  replace hb := hb.trans (k5.mono hb.size)
  replace hz4 := Nat.lt_of_lt_of_le hz4 k5.size
  clear k5
  go_upto_region 6 with (rw [zero24s]; refine row_store 79 _ _ rfl rfl W5.heap.size 24 _ _ _ rfl rfl (Blk.made W5 (rowA 24 fun _ => 0) 79 rfl) boxSize ?_)
  generalize hW6 : World.setRow _ _ _ = W6
  have hX : Blk W6 W5.heap.size (rowA 24 boxF) 79 := by subst hW6; exact (Blk.made W5 (rowA 24 fun _ => 0) 79 rfl).setRow
  replace hB : Blk W6 w.heap.size (rowA 24 f) 77 := by subst hW6; exact (hB.alloc _).otherRow (by omega)
  replace hK : Blk W6 kb (rowA 24 (keptF f)) 77 := by subst hW6; exact (hK.alloc _).otherRow (by omega)
  replace fl3 : Fl q 0 (keptH f) W6 := by subst hW6; exact fl3.below (below_setRow ((Below.refl _ _).alloc (Nat.le_refl _) _) (Nat.le_refl _) _)
  replace hb : Below w.heap.size w W6 := by subst hW6; exact below_setRow (hb.alloc hb.size _) (by omega) _
  clear hW6
  generalize W5.heap.size = xb at *
  have hc3 := fl3.cell
  have HK := Lib.hid (show ∀ j, 4 ≤ j → keptF f j = clampv (f j) (-boxF j) (boxF j) from fun j hj => by
    unfold keptF boxed
    rw [if_neg (by omega)]
    cases SX.nearQ f
    · rw [cond_false]; unfold turnF; rw [if_neg (by omega)]
    · rfl)
  have HH := Lib.hid (show boxO f 20 = true → keptH f = true from fun h => by unfold keptH; rw [h, Bool.or_true])
  generalize keptF f = kf at *
  generalize keptH f = kh at *
  clear hz hz4 hq3 hqk fl3
  go_wp2_with fail
  go_loopw [6, 7, 8] (fun h i x wr => ∃ k : Nat, k ≤ 20 ∧ i = .int .i64 ((4 + k : Nat) : Int) ∧ h = .bool (boxO f k) ∧ wr = W6) (fun _ i _ _ => 24 - (intOf i).toNat)
  case atStart => exact ⟨0, by omega, rfl, rfl, rfl⟩
  case round =>
    obtain ⟨k, hk, rfl, rfl, rfl⟩ := hrel
    by_cases hlt : k < 20
    · have c1 := hB.ints.at_ (4 + k) (by omega)
      have c2 := hK.ints.at_ (4 + k) (by omega)
      have c3 := hX.ints.at_ (4 + k) (by omega)
      rw [Nat.zero_add] at c1 c2 c3
      have hbx := boxF_bd (4 + k)
      have HO := Lib.hid (show boxO f (k + 1) = (boxO f k || clamph (f (4 + k)) (-boxF (4 + k)) (boxF (4 + k))) from rfl)
      rw [HK.out (4 + k) (by omega)] at c2
      have HP := Lib.hid (And.intro hB (And.intro hK hX))
      clear hB hK hX
      generalize hq : 4 + k = j at *
      generalize boxF j = b at *
      generalize f j = a at *
      have hj0 : (0 : Int) ≤ (j : Int) := by omega
      have hj24 : (j : Int) < 24 := by omega
      by_cases h1 : b < a
      · obtain ⟨e1, e2⟩ := clamp_up hbx.1 h1
        rw [e1] at c2
        rw [e2, Bool.or_true] at HO
        have h2 : ¬ b < -b := by omega
        cases hh : boxO f k
        · have hne : ¬ b = a := by omega
          go_wp2_with fail
          refine ⟨⟨k + 1, by omega, ?_, ?_, trivial⟩, ?_⟩
          · have e5 : (j : Int) + 1 = ((4 + (k + 1) : Nat) : Int) := by omega
            rw [e5]
          · rw [HO.out]; exact congrArg Value.bool (by simpa using hne)
          · simp [intOf]; omega
        · have hne : ¬ b = a := by omega
          go_wp2_with fail
          refine ⟨⟨k + 1, by omega, ?_, ?_, trivial⟩, ?_⟩
          · have e5 : (j : Int) + 1 = ((4 + (k + 1) : Nat) : Int) := by omega
            rw [e5]
          · rw [HO.out]
          · simp [intOf]; omega
      · by_cases h2 : a < -b
        · obtain ⟨e1, e2⟩ := clamp_down hbx.1 h2
          rw [e1] at c2
          rw [e2, Bool.or_true] at HO
          cases hh : boxO f k
          · have hne : ¬ -b = a := by omega
            go_wp2_with fail
            refine ⟨⟨k + 1, by omega, ?_, ?_, trivial⟩, ?_⟩
            · have e5 : (j : Int) + 1 = ((4 + (k + 1) : Nat) : Int) := by omega
              rw [e5]
            · rw [HO.out]; exact congrArg Value.bool (by simpa using hne)
            · simp [intOf]; omega
          · have hne : ¬ -b = a := by omega
            go_wp2_with fail
            refine ⟨⟨k + 1, by omega, ?_, ?_, trivial⟩, ?_⟩
            · have e5 : (j : Int) + 1 = ((4 + (k + 1) : Nat) : Int) := by omega
              rw [e5]
            · rw [HO.out]
            · simp [intOf]; omega
        · obtain ⟨e1, e2⟩ := clamp_same (a := a) (b := b) (by omega) (by omega)
          rw [e1] at c2
          rw [e2, Bool.or_false] at HO
          cases hh : boxO f k
          · rw [hh] at HO
            go_wp2_with fail
            refine ⟨⟨k + 1, by omega, ?_, ?_, trivial⟩, ?_⟩
            · have e5 : (j : Int) + 1 = ((4 + (k + 1) : Nat) : Int) := by omega
              rw [e5]
            · rw [HO.out]
            · simp [intOf]; omega
          · rw [hh] at HO
            go_wp2_with fail
            refine ⟨⟨k + 1, by omega, ?_, ?_, trivial⟩, ?_⟩
            · have e5 : (j : Int) + 1 = ((4 + (k + 1) : Nat) : Int) := by omega
              rw [e5]
            · rw [HO.out]
            · simp [intOf]; omega
    · obtain rfl : k = 20 := by omega
      cases hh : boxO f 20
      · go_wp2_with fail
        go_ret
        exact ⟨rfl, hb⟩
      · rw [HH.out hh] at hc3
        go_wp2_with fail
        go_ret
        exact ⟨rfl, hb⟩
end Go.Proofs.Ytdleeeahonfnkaa.stateClamps
