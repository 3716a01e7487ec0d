/- Package wide: half of 2^s added, the lowest bits dropped. -/
import Derived.Test.YtahedampmjfoeaaWideA
namespace Go.Proofs.Ytahedampmjfoeaa
open Go.RowKit

structure Le127 (n : Nat) : Prop where
  out : n ≤ 170141183460469231731687303715884105728
structure Lt128 (n : Nat) : Prop where
  out : n < 340282366920938463463374607431768211456
theorem wrap_lo (x : Int) : 0 ≤ IntKind.u64.wrap x := by rw [IntKind.wrap_u64]; omega
theorem half_hi (h l : Int) (s : Nat) (w : World) (h1 : 65 ≤ s) (h2 : s ≤ 126) :
    Calls Try.prog 70 #[.int .u64 h, .int .u64 l, .int .u64 s] w fun e w' => e = .returned (.tuple #[.int .u64 (IntKind.u64.wrap (h + IntKind.u64.wrap (2 ^ (s - 65)))), .int .u64 l]) ∧ w = w' := by
  have h3 : (64 : Int) < s := by omega
  go_enter Try.func70, Try.ntmps70
  go_wp2
  go_ret2
  exact ⟨rfl, rfl⟩
theorem half_lo (h l : Int) (s : Nat) (w : World) (h1 : 1 ≤ s) (h2 : s ≤ 64) (l3 : 0 ≤ l) :
    Calls Try.prog 70 #[.int .u64 h, .int .u64 l, .int .u64 s] w fun e w' => e = .returned (.tuple #[.int .u64 (IntKind.u64.wrap (h + addHi l (IntKind.u64.wrap (2 ^ (s - 1))))), .int .u64 (addLo l (IntKind.u64.wrap (2 ^ (s - 1))))]) ∧ w = w' := by
  have h3 : ¬ (64 : Int) < s := by omega
  have hx := fun w => add64_run l (IntKind.u64.wrap (2 ^ (s - 1))) w l3 (wrap_lo _)
  go_enter Try.func70, Try.ntmps70
  go_wp2
  go_ret2
  exact ⟨rfl, rfl⟩
theorem pow_int (k : Nat) : ((2 : Int) ^ k) = ((2 ^ k : Nat) : Int) := by simp
theorem pow_lt (k m : Nat) (h : k ≤ m) : 2 ^ k ≤ 2 ^ m := Nat.pow_le_pow_right (by omega) h
theorem half_any (n s : Nat) (w : World) (h1 : 1 ≤ s) (h2 : s ≤ 126) (hn : Le127 n) :
    Calls Try.prog 70 #[.int .u64 (wh n), .int .u64 (wl n), .int .u64 s] w fun e w' => e = .returned (.tuple #[.int .u64 (wh (n + 2 ^ (s - 1) : Nat)), .int .u64 (wl (n + 2 ^ (s - 1) : Nat))]) ∧ w = w' := by
  have hn' := hn.out
  have l3 := wl_lo n
  have l4 := wl_hi n
  have l5 : 0 ≤ wh n := by unfold wh; omega
  have l6 : wh n ≤ 9223372036854775808 := by unfold wh; omega
  by_cases hs : 65 ≤ s
  · refine (half_hi _ _ s w hs h2).mono fun e w' ⟨he, hw⟩ => ⟨he.trans (tuple2 ?_ ?_), hw⟩
    · have hp := pow_lt (s - 65) 61 (by omega)
      have e1 : 2 ^ (s - 1) = 2 ^ (s - 65) * 18446744073709551616 := by rw [show s - 1 = (s - 65) + 64 by omega, Nat.pow_add]
      rw [e1, pow_int]
      generalize 2 ^ (s - 65) = q at *
      simp only [IntKind.wrap_u64]
      unfold wh
      omega
    · have e1 : 2 ^ (s - 1) = 2 ^ (s - 65) * 18446744073709551616 := by rw [show s - 1 = (s - 65) + 64 by omega, Nat.pow_add]
      rw [e1]
      generalize 2 ^ (s - 65) = q at *
      unfold wl
      omega
  · refine (half_lo _ _ s w h1 (by omega) l3).mono fun e w' ⟨he, hw⟩ => ⟨he.trans (tuple2 ?_ ?_), hw⟩
    · have hp := pow_lt (s - 1) 63 (by omega)
      rw [pow_int]
      generalize 2 ^ (s - 1) = q at *
      simp only [IntKind.wrap_u64]
      unfold addHi wh wl
      omega
    · have hp := pow_lt (s - 1) 63 (by omega)
      rw [pow_int]
      generalize 2 ^ (s - 1) = q at *
      simp only [IntKind.wrap_u64]
      unfold addLo wl
      omega

theorem shr_hi (h l : Int) (s : Nat) (w : World) (h1 : 64 ≤ s) (h2 : s ≤ 127) :
    Calls Try.prog 71 #[.int .u64 h, .int .u64 l, .int .u64 s] w fun e w' => e = .returned (.tuple #[.int .u64 0, .int .u64 (h / 2 ^ (s - 64))]) ∧ w = w' := by
  have h3 : (64 : Int) ≤ s := by omega
  go_enter Try.func71, Try.ntmps71
  go_wp2
  go_ret2
  exact ⟨rfl, rfl⟩
theorem shr_lo (h l : Int) (s : Nat) (w : World) (h2 : s < 64) :
    Calls Try.prog 71 #[.int .u64 h, .int .u64 l, .int .u64 s] w fun e w' => e = .returned (.tuple #[.int .u64 (h / 2 ^ s), .int .u64 (bits .or .u64 (IntKind.u64.wrap (h * 2 ^ (64 - s))) (l / 2 ^ s))]) ∧ w = w' := by
  have h3 : ¬ (64 : Int) ≤ s := by omega
  go_enter Try.func71, Try.ntmps71
  go_wp2
  go_ret2
  exact ⟨rfl, rfl⟩
theorem or_parts (a b k : Nat) (ha : a < 18446744073709551616) (hb : b < 2 ^ k) (hk : k ≤ 64) (hd : a % 2 ^ k = 0) : bits .or .u64 (a : Int) (b : Int) = ((a + b : Nat) : Int) := by
  have hb2 : b < 18446744073709551616 := Nat.lt_of_lt_of_le hb (pow_lt k 64 hk)
  rw [bits_or_u64_nat a b ha hb2, nat_join k a b hd hb]
theorem div_pow_int (a k : Nat) : ((a : Int) / 2 ^ k) = ((a / 2 ^ k : Nat) : Int) := by simp
theorem whN (n : Nat) : wh n = ((n / 18446744073709551616 : Nat) : Int) := by unfold wh; omega
theorem wlN (n : Nat) : wl n = ((n % 18446744073709551616 : Nat) : Int) := by unfold wl; omega
theorem shr_any (n s : Nat) (w : World) (h2 : s ≤ 127) (hn : Lt128 n) :
    Calls Try.prog 71 #[.int .u64 (wh n), .int .u64 (wl n), .int .u64 s] w fun e w' => e = .returned (.tuple #[.int .u64 (wh (n / 2 ^ s : Nat)), .int .u64 (wl (n / 2 ^ s : Nat))]) ∧ w = w' := by
  have hn' := hn.out
  have hq : n / 18446744073709551616 < 18446744073709551616 := by omega
  by_cases hs : 64 ≤ s
  · have e1 : n / 2 ^ s = n / 18446744073709551616 / 2 ^ (s - 64) := by
      rw [Nat.div_div_eq_div_mul, show (18446744073709551616 : Nat) = 2 ^ 64 by decide, ← Nat.pow_add, show 64 + (s - 64) = s by omega]
    have hlt : n / 18446744073709551616 / 2 ^ (s - 64) < 18446744073709551616 := Nat.lt_of_le_of_lt (Nat.div_le_self _ _) hq
    refine (shr_hi _ _ s w hs h2).mono fun e w' ⟨he, hw⟩ => ⟨he.trans (tuple2 ?_ ?_), hw⟩
    · rw [e1, whN, Nat.div_eq_of_lt hlt]; rfl
    · rw [e1, wlN, whN, Nat.mod_eq_of_lt hlt, div_pow_int]
  · refine (shr_lo _ _ s w (by omega)).mono fun e w' ⟨he, hw⟩ => ⟨he.trans (tuple2 ?_ ?_), hw⟩
    · rw [whN, whN, div_pow_int, Nat.div_div_eq_div_mul, Nat.div_div_eq_div_mul, Nat.mul_comm]
    · have hP : 0 < 2 ^ s := Nat.two_pow_pos s
      have hPQ : 2 ^ s * 2 ^ (64 - s) = 18446744073709551616 := by rw [← Nat.pow_add, show s + (64 - s) = 64 by omega]
      have eh : IntKind.u64.wrap (wh n * 2 ^ (64 - s)) = ((n / 18446744073709551616 * 2 ^ (64 - s) % 18446744073709551616 : Nat) : Int) := by
        rw [IntKind.wrap_u64, whN, pow_int, ← Int.natCast_mul]; omega
      rw [eh, wlN, wlN, div_pow_int, or_parts _ _ (64 - s) (Nat.mod_lt _ (by omega)) ?_ (by omega) ?_]
      · congr 1
        have e2 : n = n % 18446744073709551616 + 2 ^ s * (2 ^ (64 - s) * (n / 18446744073709551616)) := by rw [← Nat.mul_assoc, hPQ]; omega
        have e3 : n / 2 ^ s = n % 18446744073709551616 / 2 ^ s + 2 ^ (64 - s) * (n / 18446744073709551616) := by
          rw [show n / 2 ^ s = (n % 18446744073709551616 + 2 ^ s * (2 ^ (64 - s) * (n / 18446744073709551616))) / 2 ^ s by rw [← e2], Nat.add_mul_div_left _ _ hP]
        have hlo : n % 18446744073709551616 / 2 ^ s < 2 ^ (64 - s) := by
          refine (Nat.div_lt_iff_lt_mul hP).2 ?_
          rw [Nat.mul_comm, hPQ]; omega
        have hd : (n / 18446744073709551616 * 2 ^ (64 - s) % 18446744073709551616) % 2 ^ (64 - s) = 0 := by
          rw [Nat.mod_mod_of_dvd _ ⟨2 ^ s, by rw [Nat.mul_comm, hPQ]⟩]; exact Nat.mul_mod_left _ _
        rw [e3, Nat.mul_comm (2 ^ (64 - s))]
        generalize n / 18446744073709551616 * 2 ^ (64 - s) = X at *
        generalize n % 18446744073709551616 / 2 ^ s = Y at *
        have hm : X % 18446744073709551616 + Y < 18446744073709551616 := by
          have d1 : X % 18446744073709551616 ≤ 18446744073709551616 - 2 ^ (64 - s) := by
            have h3 := Nat.mod_lt X (show 0 < 18446744073709551616 by omega)
            obtain ⟨c, hc⟩ := Nat.dvd_of_mod_eq_zero hd
            rw [hc] at h3 ⊢
            have h4 : 2 ^ (64 - s) * c < 2 ^ (64 - s) * 2 ^ s := by rw [Nat.mul_comm _ (2 ^ s), hPQ]; exact h3
            have h5 : c < 2 ^ s := Nat.lt_of_mul_lt_mul_left h4
            have h6 : 2 ^ (64 - s) * (c + 1) ≤ 2 ^ (64 - s) * 2 ^ s := Nat.mul_le_mul_left _ h5
            rw [Nat.mul_comm _ (2 ^ s), hPQ, Nat.mul_add] at h6
            omega
          have : 2 ^ (64 - s) ≤ 18446744073709551616 := pow_lt (64 - s) 64 (by omega)
          omega
        omega
      · refine (Nat.div_lt_iff_lt_mul hP).2 ?_
        rw [Nat.mul_comm, hPQ]; omega
      · rw [Nat.mod_mod_of_dvd _ ⟨2 ^ s, by rw [Nat.mul_comm, hPQ]⟩]; exact Nat.mul_mod_left _ _
end Go.Proofs.Ytahedampmjfoeaa
