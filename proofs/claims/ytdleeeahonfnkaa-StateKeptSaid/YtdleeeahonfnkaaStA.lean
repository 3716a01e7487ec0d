/- Do the squares of a quaternion sum to One times One, within 2^32? The program's, the document's own. -/
import Derived.Test.YtdleeeahonfnkaaSE
import Derived.Test.YtdleeeahonfnkaaRN
import Derived.Test.YtdleeeahonfnkaaPD
namespace Go.Proofs.Ytdleeeahonfnkaa
open Go.RowKit

section
open SX
theorem smallB_iff (x : Int) : smallB x = true ↔ -1073741840 ≤ x ∧ x ≤ 1073741840 := by
  unfold smallB; rw [Bool.and_eq_true, ile_iff, ile_iff, decide_eq_true_eq, decide_eq_true_eq]
theorem sq_bound {x : Int} (B : Int) (h1 : -B ≤ x) (h2 : x ≤ B) : 0 ≤ x * x ∧ x * x ≤ B * B := by
  have h := Int.mul_nonneg (show 0 ≤ B - x by omega) (show 0 ≤ B + x by omega)
  have h3 : (B - x) * (B + x) = B * B - x * x := by grind
  refine ⟨?_, by omega⟩
  rcases Int.le_total 0 x with h0 | h0
  · exact Int.mul_nonneg h0 h0
  · have := Int.mul_nonneg (show 0 ≤ -x by omega) (show 0 ≤ -x by omega)
    rwa [Int.neg_mul_neg] at this
theorem sq_over {x : Int} (h : x < -1073741840 ∨ 1073741840 < x) : 1152921538966585600 < x * x := by
  rcases h with h | h
  · have := Int.mul_nonneg (show 0 ≤ -x - 1073741841 by omega) (show 0 ≤ -x - 1073741841 by omega)
    have e : (-x - 1073741841) * (-x - 1073741841) = x * x + 2 * 1073741841 * x + 1073741841 * 1073741841 := by grind
    omega
  · have := Int.mul_nonneg (show 0 ≤ x - 1073741841 by omega) (show 0 ≤ x - 1073741841 by omega)
    have e : (x - 1073741841) * (x - 1073741841) = x * x - 2 * 1073741841 * x + 1073741841 * 1073741841 := by grind
    omega
theorem sqS_nn (f : Nat → Int) : ∀ k, 0 ≤ sqS f k
  | 0 => by simp [sqS]
  | k + 1 => by
    have h1 := sqS_nn f k
    have h2 : 0 ≤ f k * f k := by
      rcases Int.le_total 0 (f k) with h0 | h0
      · exact Int.mul_nonneg h0 h0
      · have := Int.mul_nonneg (show 0 ≤ -f k by omega) (show 0 ≤ -f k by omega)
        rwa [Int.neg_mul_neg] at this
    rw [sqS]; omega
theorem sqS_le (f : Nat → Int) : ∀ k, (∀ j, j < k → smallB (f j) = true) → sqS f k ≤ 1152921538966585600 * (k : Int)
  | 0, _ => by simp [sqS]
  | k + 1, h => by
    have h1 := sqS_le f k (fun j hj => h j (by omega))
    obtain ⟨h2, h3⟩ := (smallB_iff _).1 (h k (by omega))
    have h4 := (sq_bound 1073741840 h2 h3).2
    rw [sqS]; omega
theorem sqS_up (f : Nat → Int) {j : Nat} : ∀ {k : Nat}, j < k → f j * f j ≤ sqS f k
  | 0, h => by omega
  | k + 1, h => by
    have h0 : sqS f (k + 1) = sqS f k + f k * f k := rfl
    have h1 := sqS_nn f (k + 1)
    have h3 := sqS_nn f k
    by_cases e : j = k
    · subst e; omega
    · have h2 := sqS_up f (k := k) (j := j) (by omega)
      have h4 : 0 ≤ f k * f k := by
        rcases Int.le_total 0 (f k) with h0 | h0
        · exact Int.mul_nonneg h0 h0
        · have := Int.mul_nonneg (show 0 ≤ -f k by omega) (show 0 ≤ -f k by omega)
          rwa [Int.neg_mul_neg] at this
      omega
theorem nearQ_iff (f : Nat → Int) : nearQ f = true ↔ 1152921500311879680 ≤ sqS f 4 ∧ sqS f 4 ≤ 1152921508901814272 := by
  unfold nearQ
  simp only [Bool.and_eq_true, ile_iff, decide_eq_true_eq]
  refine ⟨fun h => ⟨h.2.2.2.2.1, h.2.2.2.2.2⟩, fun h => ?_⟩
  have k : ∀ j, j < 4 → smallB (f j) = true := fun j hj => by
    have h1 := sqS_up f hj
    rw [smallB_iff]
    refine ⟨?_, ?_⟩
    · apply Classical.byContradiction; intro c
      have := sq_over (x := f j) (.inl (by omega)); omega
    · apply Classical.byContradiction; intro c
      have := sq_over (x := f j) (.inr (by omega)); omega
  exact ⟨k 0 (by omega), k 1 (by omega), k 2 (by omega), k 3 (by omega), h.1, h.2⟩
theorem nearQ_no {f : Nat → Int} {k : Nat} (hk : k < 4) (h : smallB (f k) = false) : nearQ f = false := by
  unfold nearQ
  match k, hk with
  | 0, _ => simp [h]
  | 1, _ => simp [h]
  | 2, _ => simp [h]
  | 3, _ => simp [h]
end
theorem quatSize : (Try.prog.info? 85).map (·.size) = some 4 := by kernel_rfl
theorem i64Size : (Try.prog.info? 2).map (·.size) = some 1 := by kernel_rfl
set_option maxHeartbeats 4000000 in
theorem near_any (f : Nat → Int) (w : World) :
    Calls Try.prog 128 #[.agg (rowA 4 f)] w fun e w' => e = .returned (.bool (SX.nearQ f)) ∧ Below w.heap.size w w' := by
  go_enter Try.func128, Try.ntmps128
  go_upto_region 2 with (fail)
  generalize hW : World.alloc w _ = W
  have hb : Below w.heap.size w W := by subst hW; exact (Below.refl _ _).alloc (Nat.le_refl _) _
  have hB : Blk W w.heap.size (rowA 4 f) 85 := by subst hW; exact Blk.made _ _ _ rfl
  clear hW
  go_wp2_with (refine row_load 85 _ rfl rfl w.heap.size 4 _ _ rfl hB _ Try.underlying85 rfl quatSize ?_)
  clear hB
  go_loopw [3, 7] (fun m i wr => ∃ k : Nat, k ≤ 4 ∧ i = .int .i64 (k : Int) ∧ m = .int .i64 (SX.sqS f k - 1152921504606846976) ∧ (∀ j, j < k → SX.smallB (f j) = true) ∧ Below w.heap.size w wr) (fun _ i _ => 4 - (intOf i).toNat)
  case atStart => exact ⟨0, by omega, rfl, rfl, fun j hj => by omega, hb⟩
  case round =>
    obtain ⟨k, hk, rfl, rfl, hs, hb⟩ := hrel
    by_cases hlt : k < 4
    · have h0 := sqS_nn f k
      have h1 := sqS_le f k hs
      by_cases hsm : SX.smallB (f k) = true
      · obtain ⟨h2, h3⟩ := (smallB_iff _).1 hsm
        obtain ⟨h4, h5⟩ := sq_bound 1073741840 h2 h3
        have HA := Lib.hid (show absv (f k) ≤ 1073741840 by unfold absv; rw [if_neg (by omega), if_neg (by omega)]; omega)
        have HN := Lib.hid (show SX.sqS f (k + 1) = SX.sqS f k + f k * f k from rfl)
        have HS := Lib.hid hs
        have HM := Lib.hid hsm
        clear hs hsm
        go_wp2_with (refine index_row 85 _ _ rfl rfl (n := 4) (j := k) _ rfl rfl Try.underlying85 Try.underlying2 i64Size hlt ?_)
        refine (abs_any (f k) _).mono ?_
        rintro e w' ⟨rfl, rfl⟩
        have HA := HA.out
        generalize absv (f k) = A at *
        generalize hF : f k = x at *
        generalize hX : x * x = X at *
        go_wp2_with fail
        refine ⟨⟨k + 1, by omega, by simp, ?_, fun j hj => ?_, hb⟩, by simp [intOf]; omega⟩
        · rw [HN.out]; congr 1; omega
        · by_cases e : j = k
          · subst e; rw [hF]; exact HM.out
          · exact HS.out j (by omega)
      · have hsm : SX.smallB (f k) = false := by simpa using hsm
        have HV := Lib.hid (nearQ_no hlt hsm)
        have HA : 1073741840 < absv (f k) := by
          have h2 : ¬ (-1073741840 ≤ f k ∧ f k ≤ 1073741840) := fun h => by rw [(smallB_iff _).2 h] at hsm; cases hsm
          unfold absv; (repeat' split) <;> omega
        clear hsm hs
        go_wp2_with (refine index_row 85 _ _ rfl rfl (n := 4) (j := k) _ rfl rfl Try.underlying85 Try.underlying2 i64Size hlt ?_)
        refine (abs_any (f k) _).mono ?_
        rintro e w' ⟨rfl, rfl⟩
        generalize absv (f k) = A at *
        go_wp2_with fail
        go_ret
        exact ⟨by rw [HV.out]; rfl, hb⟩
    · obtain rfl : k = 4 := by omega
      have h0 := sqS_nn f 4
      have h1 := sqS_le f 4 hs
      have HV := Lib.hid (nearQ_iff f)
      clear hs hlt
      generalize SX.sqS f 4 = S at *
      go_wp2_with fail
      refine (abs_any _ _).mono ?_
      rintro e w' ⟨rfl, rfl⟩
      have HA := Lib.hid (show absv (S - 1152921504606846976) ≤ 4294967296 ↔ 1152921500311879680 ≤ S ∧ S ≤ 1152921508901814272 by unfold absv; (repeat' split) <;> omega)
      generalize absv (S - 1152921504606846976) = A at *
      go_wp2_with fail
      go_ret
      exact ⟨congrArg (fun b => Ending.returned (.bool b)) (by rw [Bool.eq_iff_iff, decide_eq_true_eq, HV.out]; exact HA.out), hb⟩
/-! ### The document's own -/
theorem below_drn {w w' : World} {N : Nat} (h : Below N w w') (n : Nat) : Below N w (w'.drewN n) := h.trans ⟨rfl, rfl, rfl, Nat.le_refl _, fun _ _ => rfl⟩
def hiS (f : Nat → Int) : Nat → Int
  | 0 => 0
  | k + 1 => hiS f k + f k * f k / 4
def reS (f : Nat → Int) : Nat → Int
  | 0 => 0
  | k + 1 => reS f k + f k * f k % 4
theorem hi_re (f : Nat → Int) : ∀ k, 4 * hiS f k + reS f k = SX.sqS f k
  | 0 => by simp [hiS, reS, SX.sqS]
  | k + 1 => by
    have := hi_re f k
    rw [hiS, reS, SX.sqS]
    omega
theorem re_bd (f : Nat → Int) : ∀ k : Nat, 0 ≤ reS f k ∧ reS f k ≤ 3 * (k : Int)
  | 0 => by simp [reS]
  | k + 1 => by
    have := re_bd f k
    rw [reS]
    omega
theorem sqS_mono (f : Nat → Int) {k : Nat} : ∀ {n : Nat}, k ≤ n → SX.sqS f k ≤ SX.sqS f n
  | 0, h => by obtain rfl : k = 0 := by omega
               exact Int.le_refl _
  | n + 1, h => by
    by_cases e : k = n + 1
    · subst e; exact Int.le_refl _
    · have h1 := sqS_mono f (k := k) (n := n) (by omega)
      have h2 : SX.sqS f (n + 1) = SX.sqS f n + f n * f n := rfl
      have h4 : 0 ≤ f n * f n := by
        rcases Int.le_total 0 (f n) with h0 | h0
        · exact Int.mul_nonneg h0 h0
        · have := Int.mul_nonneg (show 0 ≤ -f n by omega) (show 0 ≤ -f n by omega)
          rwa [Int.neg_mul_neg] at this
      omega
theorem near_over {f : Nat → Int} {k : Nat} (hk : k ≤ 4) (h : 576460752303423488 < hiS f k) : SX.nearQ f = false := by
  have h1 := hi_re f k
  have h2 := re_bd f k
  have h3 := sqS_mono f hk
  have h4 : ¬ SX.nearQ f = true := fun h => by
    have := (nearQ_iff f).1 h
    omega
  simpa using h4
theorem rquatSize : (Try.prog.info? 87).map (·.size) = some 4 := by kernel_rfl
set_option maxHeartbeats 8000000 in
theorem rnear_any (f : Nat → Int) (w : World) :
    Calls Try.prog 132 #[.agg (rowA 4 f)] w fun e w' => e = .returned (.bool (SX.nearQ f)) ∧ Below w.heap.size w w' := by
  go_enter Try.func132, Try.ntmps132
  go_upto_region 2 with (fail)
  generalize hW : World.alloc w _ = W
  have hb : Below w.heap.size w W := by subst hW; exact (Below.refl _ _).alloc (Nat.le_refl _) _
  have hB : Blk W w.heap.size (rowA 4 f) 87 := by subst hW; exact Blk.made _ _ _ rfl
  clear hW
  go_wp2_with fail
  go_loopw [3, 4, 5] (fun m i s wr => ∃ k : Nat, k ≤ 4 ∧ i = .int .i64 (k : Int) ∧ m = .int .i64 (hiS f k) ∧ 0 ≤ hiS f k ∧ hiS f k ≤ 576460752303423488 ∧ (∀ j, j < k → -2147483648 ≤ f j ∧ f j ≤ 2147483648) ∧ Blk wr w.heap.size (rowA 4 f) 87 ∧ Below w.heap.size w wr) (fun _ i _ _ => 4 - (intOf i).toNat)
  case atStart => exact ⟨0, by omega, rfl, rfl, by simp [hiS], by simp [hiS], fun j hj => by omega, hB, hb⟩
  case round =>
    obtain ⟨k, hk, rfl, rfl, h0, h1, hs, hB, hb⟩ := hrel
    have hI := hB.ints
    have HB := Lib.hid hB
    have HS := Lib.hid hs
    by_cases hlt : k < 4
    · have hc := hI.at_ k hlt
      rw [Nat.zero_add] at hc
      have hltI : (k : Int) < 4 := by omega
      have hk0 : (0 : Int) ≤ (k : Int) := by omega
      by_cases h2 : f k < -2147483648
      · have HV := Lib.hid (nearQ_no (f := f) hlt (by
          cases hq : SX.smallB (f k)
          · rfl
          · have := (smallB_iff _).1 hq; omega))
        clear hs hB hI
        go_wp2_with fail
        go_ret
        exact ⟨by rw [HV.out]; rfl, hb⟩
      · by_cases h3 : 2147483648 < f k
        · have HV := Lib.hid (nearQ_no (f := f) hlt (by
            cases hq : SX.smallB (f k)
            · rfl
            · have := (smallB_iff _).1 hq; omega))
          clear hs hB hI
          go_wp2_with fail
          go_ret
          exact ⟨by rw [HV.out]; rfl, hb⟩
        · have h4 := sq_bound (x := f k) 2147483648 (by omega) (by omega)
          have HQ := Lib.hid (show (f k * f k).tdiv 4 = f k * f k / 4 from Int.tdiv_eq_ediv_of_nonneg h4.1)
          have HN := Lib.hid (show hiS f (k + 1) = hiS f k + f k * f k / 4 from rfl)
          clear hs hB hI
          go_wp2_with fail
          go_quiet (fail)
          have h5 : 0 ≤ f k * f k / 4 ∧ f k * f k / 4 ≤ 1152921504606846976 := by omega
          clear HQ
          generalize f k * f k / 4 = Q at *
          by_cases h6 : 576460752303423488 < hiS f k + Q
          · have HV := Lib.hid (near_over (f := f) (k := k + 1) (by omega) (by rw [HN.out]; exact h6))
            go_wp2_with fail
            go_ret
            exact ⟨by rw [HV.out]; rfl, below_drn hb _⟩
          · go_wp2_with fail
            refine ⟨⟨k + 1, by omega, by simp, by rw [HN.out], by rw [HN.out]; omega, by rw [HN.out]; omega, fun j hj => ?_, HB.out, below_drn hb _⟩, by simp [intOf]; omega⟩
            by_cases e : j = k
            · subst e; omega
            · exact HS.out j (by omega)
    · obtain rfl : k = 4 := by omega
      have hE := hi_re f 4
      have hR := re_bd f 4
      have HV := Lib.hid (nearQ_iff f)
      clear hlt HB HS
      generalize hH : hiS f 4 = H at *
      generalize hT : SX.sqS f 4 = S at *
      have HE := Lib.hid (And.intro hE hR)
      clear hE hR hI
      go_wp2_with fail
      go_loopw [6, 7] (fun m i wr => ∃ k : Nat, k ≤ 4 ∧ i = .int .i64 (k : Int) ∧ m = .int .i64 (reS f k) ∧ Blk wr w.heap.size (rowA 4 f) 87 ∧ Below w.heap.size w wr) (fun _ i _ => 4 - (intOf i).toNat)
      case atStart => exact ⟨0, by omega, rfl, rfl, hB, hb⟩
      case round =>
        obtain ⟨k, hk, rfl, rfl, hB, hb⟩ := hrel
        have hR := re_bd f k
        by_cases hlt : k < 4
        · have hc := hB.ints.at_ k hlt
          rw [Nat.zero_add] at hc
          have h4 := sq_bound (x := f k) 2147483648 (hs k hlt).1 (hs k hlt).2
          have HN := Lib.hid (show reS f (k + 1) = reS f k + f k * f k % 4 from rfl)
          have HB := Lib.hid hB
          have HQ := Lib.hid (show (f k * f k).tmod 4 = f k * f k % 4 from Int.tmod_eq_emod_of_nonneg h4.1)
          clear hB
          have hs := Lib.hid hs
          go_wp2_with fail
          go_quiet (fail)
          go_wp2_with fail
          exact ⟨⟨k + 1, by omega, by simp, by rw [HN.out], HB.out, below_drn hb _⟩, by simp [intOf]; omega⟩
        · obtain rfl : k = 4 := by omega
          obtain ⟨hE, hR⟩ := HE.out
          have hR2 := re_bd f 4
          clear hs hlt
          generalize reS f 4 = R at *
          by_cases h6 : -4294967296 ≤ 4 * (H - 288230376151711744) + R
          · have HW := Lib.hid (show 4 * (H - 288230376151711744) + R ≤ 4294967296 ↔ SX.nearQ f = true by rw [HV.out]; omega)
            go_wp2_with fail
            go_ret
            exact ⟨congrArg (fun b => Ending.returned (.bool b)) (by rw [Bool.eq_iff_iff, decide_eq_true_eq]; exact HW.out), hb⟩
          · have HW := Lib.hid (show SX.nearQ f = false by
              cases hq : SX.nearQ f
              · rfl
              · have := HV.out.1 hq; omega)
            go_wp2_with fail
            go_ret
            exact ⟨by rw [HW.out]; rfl, hb⟩
end Go.Proofs.Ytdleeeahonfnkaa
