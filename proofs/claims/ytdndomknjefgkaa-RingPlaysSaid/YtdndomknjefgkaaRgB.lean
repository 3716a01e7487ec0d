/- The library's comparisons. -/
import Derived.Test.YtdndomknjefgkaaRgM
namespace Go.Proofs.Ytdndomknjefgkaa.Rg
open Go.RowKit

theorem nan_any (a : Int) (w : World) : Calls Try.prog 49 #[.int .i64 a] w fun e w' => e = .returned (.bool false) ∧ w' = w := by
  go_enter Try.func49, Try.ntmps49
  go_wp2
  go_ret
  simp
theorem cmp_lt (a b : Int) (w : World) (h1 : a < b) : Calls Try.prog 40 #[.int .i64 a, .int .i64 b] w fun e w' => e = .returned (.int .i64 (-1)) ∧ w' = w := by
  go_enter Try.func40, Try.ntmps40
  go_wp2_with (go_at_call 49; refine (nan_any _ _).mono ?_; rintro e w1 ⟨rfl, rfl⟩)
  go_ret
  simp
theorem cmp_gt (a b : Int) (w : World) (h1 : b < a) : Calls Try.prog 40 #[.int .i64 a, .int .i64 b] w fun e w' => e = .returned (.int .i64 1) ∧ w' = w := by
  go_enter Try.func40, Try.ntmps40
  have h2 : ¬ a < b := by omega
  go_wp2_with (go_at_call 49; refine (nan_any _ _).mono ?_; rintro e w1 ⟨rfl, rfl⟩)
  go_ret
  simp
theorem cmp_eq (a : Int) (w : World) : Calls Try.prog 40 #[.int .i64 a, .int .i64 a] w fun e w' => e = .returned (.int .i64 0) ∧ w' = w := by
  go_enter Try.func40, Try.ntmps40
  go_wp2_with (go_at_call 49; refine (nan_any _ _).mono ?_; rintro e w1 ⟨rfl, rfl⟩)
  go_ret
  simp
theorem cmp_any (a b : Int) (w : World) : Calls Try.prog 40 #[.int .i64 a, .int .i64 b] w fun e w' => e = .returned (.int .i64 (if a < b then -1 else if b < a then 1 else 0)) ∧ w' = w := by
  by_cases h1 : a < b
  · rw [if_pos h1]; exact cmp_lt a b w h1
  · by_cases h2 : b < a
    · rw [if_neg h1, if_pos h2]; exact cmp_gt a b w h2
    · obtain rfl : a = b := by omega
      simpa using cmp_eq a w
theorem cmpF_step (f g : Nat → Int) (i n : Nat) (h1 : ¬ f i < g i) (h2 : ¬ g i < f i) : cmpF f g i (n + 1) = cmpF f g (i + 1) n := by
  conv => lhs; unfold cmpF
  rw [if_neg h1, if_neg h2]
theorem cmps_any (a b : Nat) (f g : Nat → Int) (w : World) (ha : Ints w a 0 9 f) (hb : Ints w b 0 9 g) :
    Calls Try.prog 41 #[.slice (some ⟨a, 1, none⟩) 8 8, .slice (some ⟨b, 1, none⟩) 8 8] w fun e w' => e = .returned (.int .i64 (cmpF f g 1 8)) ∧ w' = w := by
  go_enter Try.func41, Try.ntmps41
  go_wp2
  go_loopw [11] (fun i wr => ∃ k : Nat, k ≤ 8 ∧ i = .int .i64 k ∧ wr = w ∧ cmpF f g 1 8 = cmpF f g (1 + k) (8 - k)) (fun i _ => 8 - (intOf i).toNat)
  case atStart => exact ⟨0, by omega, rfl, rfl, rfl⟩
  case round =>
    obtain ⟨k, hk, rfl, rfl, hc⟩ := hrel
    by_cases hlt : k < 8
    · have x1 := ha.at_ (1 + k) (by omega)
      have x2 := hb.at_ (1 + k) (by omega)
      rw [Nat.zero_add] at x1 x2
      have hltI : (k : Int) < 8 := by omega
      rcases Int.lt_trichotomy (f (1 + k)) (g (1 + k)) with h1 | h1 | h1
      · go_wp2_with (go_at_call 40; refine (cmp_lt _ _ _ h1).mono ?_; rintro e w1 ⟨rfl, rfl⟩)
        go_ret
        have e : cmpF f g 1 8 = -1 := by
          rw [hc, show 8 - k = (7 - k) + 1 by omega]
          unfold cmpF
          rw [if_pos h1]
        rw [e]; exact ⟨rfl, rfl⟩
      · rw [h1] at x1
        go_wp2_with (go_at_call 40; refine (cmp_eq _ _).mono ?_; rintro e w1 ⟨rfl, rfl⟩)
        go_roundw
        case rel => exact ⟨k + 1, by omega, by simp, by simp, by rw [hc, show 8 - k = (7 - k) + 1 by omega, cmpF_step _ _ _ _ (by omega) (by omega), show 1 + (k + 1) = 1 + k + 1 by omega, show 8 - (k + 1) = 7 - k by omega]⟩
        case measure => simp [intOf]; omega
      · go_wp2_with (go_at_call 40; refine (cmp_gt _ _ _ h1).mono ?_; rintro e w1 ⟨rfl, rfl⟩)
        go_ret
        have e : cmpF f g 1 8 = 1 := by
          rw [hc, show 8 - k = (7 - k) + 1 by omega]
          unfold cmpF
          rw [if_neg (by omega), if_pos h1]
        rw [e]; exact ⟨rfl, rfl⟩
    · obtain rfl : k = 8 := by omega
      go_wp2
      go_ret
      exact ⟨by rw [hc]; rfl, rfl⟩
/-- The first of two numbers that is not nought. -/
theorem or_any (b : Nat) (x y : Int) (w : World) (hx : w.cell? ⟨b, 0, none⟩ = some (.int .i64 x)) (hy : w.cell? ⟨b, 1, none⟩ = some (.int .i64 y)) :
    Calls Try.prog 39 #[.slice (some ⟨b, 0, none⟩) 2 2] w fun e w' => e = .returned (.int .i64 (if x = 0 then y else x)) ∧ w' = w := by
  go_enter Try.func39, Try.ntmps39
  go_wp2
  go_loopw [8] (fun i wr => ∃ k : Nat, k ≤ 2 ∧ i = .int .i64 k ∧ wr = w ∧ (0 < k → x = 0) ∧ (1 < k → y = 0)) (fun i _ => 2 - (intOf i).toNat)
  case atStart => exact ⟨0, by omega, rfl, rfl, by omega, by omega⟩
  case round =>
    obtain ⟨k, hk, rfl, rfl, h1, h2⟩ := hrel
    match k, hk with
    | 0, _ =>
      by_cases hx0 : x = 0
      · subst hx0
        go_wp2
        go_roundw
        case rel => exact ⟨1, by omega, by simp, by simp, by simp, by simp⟩
        case measure => simp [intOf]
      · go_wp2
        go_ret
        simp
    | 1, _ =>
      have hx0 := h1 (by omega)
      subst hx0
      by_cases hy0 : y = 0
      · subst hy0
        go_wp2
        go_roundw
        case rel => exact ⟨2, by omega, by simp, by simp, by simp, by simp⟩
        case measure => simp [intOf]
      · go_wp2
        go_ret
        simp
    | 2, _ =>
      have hx0 := h1 (by omega)
      have hy0 := h2 (by omega)
      subst hx0 hy0
      go_wp2
      go_ret
      simp
end Go.Proofs.Ytdndomknjefgkaa.Rg
