/- Package wide: products by a power of two. -/
import Derived.Test.YtahedampmjfoeaaWideE
namespace Go.Proofs.Ytahedampmjfoeaa
open Go.RowKit

theorem bitLen_pos (x : Nat) (h : x ≠ 0) (hx : x < 2 ^ 64) : 1 ≤ Lib.bitLen x := by rw [Lib.bitLen_half x h hx]; omega
theorem bitLen_iff (x k : Nat) (hk : k ≤ 63) (hx : x < 18446744073709551616) : Lib.bitLen x ≤ k ↔ x < 2 ^ k := by
  constructor
  · intro h
    rcases Nat.lt_or_ge x (2 ^ k) with h1 | h1
    · exact h1
    · have h2 := Lib.bitLen_shift k x h1 hx
      have h3 : 1 ≤ x / 2 ^ k := (Nat.le_div_iff_mul_le (Nat.two_pow_pos k)).2 (by omega)
      have h4 := bitLen_pos (x / 2 ^ k) (by omega) (Nat.lt_of_le_of_lt (Nat.div_le_self _ _) hx)
      omega
  · intro h; exact Lib.bitLen_le x k (by omega) h
theorem xor_neg1 (a : Int) (h1 : -9223372036854775808 ≤ a) (h2 : a ≤ 9223372036854775807) : bits .xor .i64 a (-1) = -a - 1 := by
  show IntKind.i64.wrap ((BitVec.ofInt 64 a ^^^ BitVec.ofInt 64 (-1)).toNat : Int) = _
  have e : BitVec.ofInt 64 (-1) = BitVec.allOnes 64 := by decide
  rw [e, BitVec.xor_allOnes, BitVec.toNat_not, BitVec.toNat_ofInt, IntKind.wrap_i64]
  omega
theorem xor_zero (a : Int) (h1 : -9223372036854775808 ≤ a) (h2 : a ≤ 9223372036854775807) : bits .xor .i64 a 0 = a := by
  show IntKind.i64.wrap ((BitVec.ofInt 64 a ^^^ BitVec.ofInt 64 0).toNat : Int) = _
  have e : BitVec.ofInt 64 0 = 0#64 := by decide
  rw [e, BitVec.xor_zero, BitVec.toNat_ofInt, IntKind.wrap_i64]
  omega
def folded (a : Int) : Int := IntKind.u64.wrap (bits .xor .i64 a (a / 9223372036854775808))
theorem folded_val (a : Int) (h1 : -9223372036854775808 ≤ a) (h2 : a ≤ 9223372036854775807) : folded a = if a < 0 then -a - 1 else a := by
  unfold folded
  by_cases h : a < 0
  · rw [if_pos h, top_neg a h h1, xor_neg1 a h1 h2, IntKind.wrap_u64]; omega
  · rw [if_neg h, top_pos a h h2, xor_zero a h1 h2, IntKind.wrap_u64]; omega
theorem folded_bd (a : Int) (h1 : -9223372036854775808 ≤ a) (h2 : a ≤ 9223372036854775807) : 0 ≤ folded a ∧ folded a ≤ 9223372036854775807 := by
  rw [folded_val a h1 h2]; split <;> omega
theorem shift_fits (a : Int) (s : Nat) (h1 : -9223372036854775808 ≤ a) (h2 : a ≤ 9223372036854775807) (hs : s ≤ 127) : (127 : Int) < (Lib.bitLen (folded a).toNat : Int) + s ↔ ¬ InW (a * 2 ^ s) := by
  have hb := folded_bd a h1 h2
  have hv := folded_val a h1 h2
  have e : InW (a * 2 ^ s) ↔ -170141183460469231731687303715884105728 ≤ a * 2 ^ s ∧ a * 2 ^ s < 170141183460469231731687303715884105728 := ⟨fun h => ⟨h.lo, h.hi⟩, fun h => ⟨h.1, h.2⟩⟩
  by_cases h63 : 127 - s ≤ 63
  · have hi := bitLen_iff (folded a).toNat (127 - s) h63 (by omega)
    have hp : 2 ^ (127 - s) * 2 ^ s = 170141183460469231731687303715884105728 := by rw [← Nat.pow_add, show 127 - s + s = 127 by omega]
    have hP : 0 < 2 ^ s := Nat.two_pow_pos s
    rw [e, pow_int]
    generalize 2 ^ s = P at *
    generalize 2 ^ (127 - s) = Q at *
    have k1 : (127 : Int) < (Lib.bitLen (folded a).toNat : Int) + s ↔ ¬ (folded a).toNat < Q := by rw [← hi]; omega
    rw [k1]
    have hp' : (170141183460469231731687303715884105728 : Int) = (Q : Int) * P := by rw [← Int.natCast_mul, hp]; rfl
    have hPi : (0 : Int) < P := by omega
    rw [hp', ← Int.neg_mul]
    constructor
    · intro hh hf
      refine hh ?_
      have f1 := Int.le_of_mul_le_mul_right hf.1 hPi
      have f2 := Int.lt_of_mul_lt_mul_right hf.2 (Int.le_of_lt hPi)
      split at hv <;> omega
    · intro hh hf
      refine hh ⟨Int.mul_le_mul_of_nonneg_right ?_ (Int.le_of_lt hPi), Int.mul_lt_mul_of_pos_right ?_ hPi⟩
      · split at hv <;> omega
      · split at hv <;> omega
  · have hl : Lib.bitLen (folded a).toNat ≤ 63 := Lib.bitLen_le _ 63 (by omega) (by omega)
    have hp : 2 ^ s ≤ 2 ^ 63 := pow_lt s 63 (by omega)
    rw [e, pow_int]
    generalize 2 ^ s = P at *
    have m1 : (a * (P : Int)).natAbs = a.natAbs * P := by rw [Int.natAbs_mul]; rfl
    have m2 : a.natAbs * P ≤ 9223372036854775808 * 9223372036854775808 := Nat.mul_le_mul (by omega) hp
    omega
theorem shift_top (a : Int) (s : Nat) (h64 : 64 ≤ s) (h : InW (a * 2 ^ s)) : wrap64 (a * 2 ^ (s - 64)) = wh (a * 2 ^ s) ∧ 0 = wl (a * 2 ^ s) := by
  have e : (2 : Int) ^ s = 2 ^ (s - 64) * 18446744073709551616 := by
    rw [show s = s - 64 + 64 by omega, Int.pow_add, show s - 64 + 64 - 64 = s - 64 by omega]
    rfl
  have l := h.lo
  have u := h.hi
  rw [e, ← Int.mul_assoc] at *
  generalize a * 2 ^ (s - 64) = c at *
  unfold wrap64 wh wl
  omega
theorem shift_low (a : Int) (s : Nat) (h64 : s < 64) : a / 2 ^ (64 - s) = wh (a * 2 ^ s) ∧ IntKind.u64.wrap (IntKind.u64.wrap a * 2 ^ s) = wl (a * 2 ^ s) := by
  have hp : (2 : Int) ^ (64 - s) * 2 ^ s = 18446744073709551616 := by rw [← Int.pow_add, show 64 - s + s = 64 by omega]; rfl
  constructor
  · unfold wh
    rw [← hp, Int.mul_ediv_mul_of_pos_left _ _ (Int.pow_pos (by decide))]
  · unfold wl
    simp only [IntKind.wrap_u64]
    rw [Int.mul_emod, Int.emod_emod_of_dvd _ (by exact ⟨1, by omega⟩), ← Int.mul_emod]
theorem wshift_out (a s : Int) (w : World) (hs : s < 0 ∨ 127 < s) :
    Calls Try.prog 25 #[.int .i64 a, .int .i64 s] w fun e w' => e = .returned (.tuple #[.agg #[.int .i64 0, .int .u64 0], .bool false]) ∧ Below w.heap.size w w' := by
  rcases hs with hs | hs
  · go_enter Try.func25, Try.ntmps25
    go_wp2_with fail
    exact bodyPost_ret (v := .tuple #[.agg #[.int .i64 0, .int .u64 0], .bool false]) (by simp [results, Try.results25, go_sem]) rfl ⟨rfl, (Below.refl _ _).alloc (Nat.le_refl _) _⟩
  · have hs2 : ¬ s < 0 := by omega
    go_enter Try.func25, Try.ntmps25
    go_wp2_with fail
    exact bodyPost_ret (v := .tuple #[.agg #[.int .i64 0, .int .u64 0], .bool false]) (by simp [results, Try.results25, go_sem]) rfl ⟨rfl, (Below.refl _ _).alloc (Nat.le_refl _) _⟩
theorem wshift_no (a : Int) (s : Nat) (w : World) (h1 : -9223372036854775808 ≤ a) (h2 : a ≤ 9223372036854775807) (hs : s ≤ 127) (h : ¬ InW (a * 2 ^ s)) :
    Calls Try.prog 25 #[.int .i64 a, .int .i64 s] w fun e w' => e = .returned (.tuple #[.agg #[.int .i64 0, .int .u64 0], .bool false]) ∧ Below w.heap.size w w' := by
  have g1 : ¬ (s : Int) < 0 := by omega
  have g2 : ¬ (127 : Int) < s := by omega
  have ht := (shift_fits a s h1 h2 hs).2 h
  have hb := folded_bd a h1 h2
  have hl := len_le64 (folded a) hb.1 (by omega)
  clear h
  go_enter Try.func25, Try.ntmps25
  go_wp2_with fail
  refine (len64_int (folded a) _ hb.1 (by omega)).mono ?_
  rintro e w' ⟨rfl, rfl⟩
  go_wp2_with fail
  exact bodyPost_ret (v := .tuple #[.agg #[.int .i64 0, .int .u64 0], .bool false]) (by simp [results, Try.results25, go_sem]) rfl ⟨rfl, (Below.refl _ _).alloc (Nat.le_refl _) _⟩
theorem wshift_yes (a : Int) (s : Nat) (w : World) (h1 : -9223372036854775808 ≤ a) (h2 : a ≤ 9223372036854775807) (hs : s ≤ 127) (h : InW (a * 2 ^ s)) :
    Calls Try.prog 25 #[.int .i64 a, .int .i64 s] w fun e w' => e = .returned (.tuple #[Wv (a * 2 ^ s), .bool true]) ∧ Below w.heap.size w w' := by
  have g1 : ¬ (s : Int) < 0 := by omega
  have g2 : ¬ (127 : Int) < s := by omega
  have ht := mt (shift_fits a s h1 h2 hs).1 (fun f => f h)
  have hb := folded_bd a h1 h2
  have hl := len_le64 (folded a) hb.1 (by omega)
  by_cases h64 : 64 ≤ s
  · have g3 : (64 : Int) ≤ s := by omega
    have HT := Lib.hid (shift_top a s h64 h)
    clear h
    go_enter Try.func25, Try.ntmps25
    go_wp2_with fail
    refine (len64_int (folded a) _ hb.1 (by omega)).mono ?_
    rintro e w' ⟨rfl, rfl⟩
    go_wp2_with fail
    refine bodyPost_ret (v := .tuple #[.agg #[.int .i64 (wrap64 (a * 2 ^ (s - 64))), .int .u64 0], .bool true]) (by simp [results, Try.results25, go_sem]) rfl ⟨?_, (Below.refl _ _).alloc (Nat.le_refl _) _⟩
    rw [HT.out.1]
    exact congrArg (fun z => Ending.returned (Value.tuple #[Value.agg #[Value.int .i64 (wh (a * 2 ^ s)), Value.int .u64 z], Value.bool true])) HT.out.2
  · have g3 : ¬ (64 : Int) ≤ s := by omega
    have g4 : (s : Int) < 64 := by omega
    have g5 : (0 : Int) ≤ s := by omega
    have HT := Lib.hid (shift_low a s (by omega))
    clear h
    go_enter Try.func25, Try.ntmps25
    go_wp2_with fail
    refine (len64_int (folded a) _ hb.1 (by omega)).mono ?_
    rintro e w' ⟨rfl, rfl⟩
    go_wp2_with fail
    have g6 : IntKind.i64.wrap (64 - (s : Int)) = 64 - s := by rw [IntKind.wrap_i64]; omega
    have g7 : (0 : Int) ≤ 64 - s := by omega
    have g8 : ¬ (64 - (s : Int)) < 0 := by omega
    go_region_with (fail)
    go_wp2_with fail
    refine bodyPost_ret (v := .tuple #[.agg #[.int .i64 (a / 2 ^ (64 - s)), .int .u64 (IntKind.u64.wrap (IntKind.u64.wrap a * 2 ^ s))], .bool true]) (by simp [results, Try.results25, go_sem]) rfl ⟨?_, ((Below.refl _ _).alloc (Nat.le_refl _) _).drew⟩
    rw [HT.out.1, HT.out.2]
end Go.Proofs.Ytahedampmjfoeaa
