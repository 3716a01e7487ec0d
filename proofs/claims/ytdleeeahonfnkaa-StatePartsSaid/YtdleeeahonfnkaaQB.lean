/- The document's own numbers of 128 bits with a sign: comparison, products of clamped numbers. -/
import Derived.Test.YtdleeeahonfnkaaQA
namespace Go.Proofs.Ytdleeeahonfnkaa
open Go.RowKit

theorem q_less (n m : Int) (b c : Bool) (w : World) :
    Calls Try.prog 149 #[Qv b n, Qv c m] w fun e w' => e = .returned (.bool (decide (n < m))) ∧ Below w.heap.size w w' := by
  by_cases h1 : wh n < wh m
  · have HE := Lib.hid (decide_eq_true (show n < m by unfold wh at h1; omega))
    go_enter Try.func149, Try.ntmps149
    go_wp2
    go_ret
    exact ⟨by rw [HE.out]; rfl, ((Below.refl _ _).alloc (Nat.le_refl _) _).alloc (by simp) _⟩
  · by_cases h2 : wh n = wh m
    · by_cases h3 : wl n < wl m
      · have HE := Lib.hid (decide_eq_true (show n < m by unfold wh at h2; unfold wl at h3; omega))
        go_enter Try.func149, Try.ntmps149
        go_wp2
        go_ret
        exact ⟨by rw [HE.out]; rfl, ((Below.refl _ _).alloc (Nat.le_refl _) _).alloc (by simp) _⟩
      · have HE := Lib.hid (decide_eq_false (show ¬ n < m by unfold wh at h2; unfold wl at h3; omega))
        go_enter Try.func149, Try.ntmps149
        go_wp2
        go_ret
        exact ⟨by rw [HE.out]; rfl, ((Below.refl _ _).alloc (Nat.le_refl _) _).alloc (by simp) _⟩
    · have HE := Lib.hid (decide_eq_false (show ¬ n < m by unfold wh at h1 h2; omega))
      go_enter Try.func149, Try.ntmps149
      go_wp2
      go_ret
      exact ⟨by rw [HE.out]; rfl, ((Below.refl _ _).alloc (Nat.le_refl _) _).alloc (by simp) _⟩
theorem q_mul (a b : Int) (w : World) (h1 : -1152921504606846976 ≤ a) (h2 : a ≤ 1152921504606846976) (h3 : -1152921504606846976 ≤ b) (h4 : b ≤ 1152921504606846976) :
    Calls Try.prog 121 #[.int .i64 a, .int .i64 b] w fun e w' => e = .returned (Qv (decide (a < 0) != decide (b < 0)) ((a.natAbs : Int) * (b.natAbs : Int))) ∧ Below w.heap.size w w' := by
  have HS := Lib.hid (fun w => q_size a w h1 h2)
  have HT := Lib.hid (fun w => q_size b w h3 h4)
  have HP := Lib.hid (fun w => q_product a.natAbs b.natAbs w (by omega) (by omega) (by omega) (by omega))
  go_enter Try.func121, Try.ntmps121
  go_wp2_with fail
  refine (HS.out _).mono ?_
  rintro e w1 ⟨rfl, rfl⟩
  go_wp2_with fail
  refine (HT.out _).mono ?_
  rintro e w1 ⟨rfl, rfl⟩
  go_wp2_with fail
  refine (HP.out _).mono ?_
  rintro e w1 ⟨rfl, rfl⟩
  go_wp2_with fail
  exact bodyPost_ret (v := Qv (!(decide (a < 0) == decide (b < 0))) ((a.natAbs : Int) * (b.natAbs : Int))) (by simp [results, Try.results121, go_sem]) rfl ⟨rfl, (Below.refl _ _).alloc (Nat.le_refl _) _⟩
end Go.Proofs.Ytdleeeahonfnkaa
