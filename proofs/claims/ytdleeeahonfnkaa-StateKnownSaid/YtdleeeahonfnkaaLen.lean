/- How many bits a number of 64 bits has. -/
import Derived.Test.YtdleeeahonfnkaaChecked
import Derived.Lib.Strings
import Derived.Lib.Slices
import Derived.Lib.Small
import Derived.Lib.Walk
import Derived.Lib.BitFns
namespace Go.Proofs.Ytdleeeahonfnkaa

/-- The table's byte at x / 2^k, with k added, is the length of x. -/
theorem len_at (x : Int) (k : Nat) (y : Int) (h0 : 0 ≤ x) (h1 : x ≤ 18446744073709551615) (hy : y = x / 2 ^ k) (hb : y ≤ 255) (hk : 2 ^ k ≤ x.toNat ∨ k = 0) (hk2 : k ≤ 56) :
    (k : Int) + Lib.len8 (y % 256) = Lib.bitLen x.toNat := by
  have hp : (0 : Int) < 2 ^ k := Int.pow_pos (by decide)
  have hy0 : 0 ≤ y := by rw [hy]; exact Int.ediv_nonneg h0 (Int.le_of_lt hp)
  rw [Int.emod_eq_of_lt hy0 (by omega), Lib.len8_of y hy0 hb]
  have e : y.toNat = x.toNat / 2 ^ k := by
    rw [hy]
    obtain ⟨n, rfl⟩ := Int.eq_ofNat_of_zero_le h0
    have : ((n : Int) / 2 ^ k) = ((n / 2 ^ k : Nat) : Int) := by simp
    rw [this, Int.toNat_natCast, Int.toNat_natCast]
  rw [e]
  rcases hk with hk | rfl
  · rw [Lib.bitLen_shift k x.toNat hk (by omega)]; omega
  · simp
theorem len_le64 (x : Int) (h0 : 0 ≤ x) (h1 : x ≤ 18446744073709551615) : Lib.bitLen x.toNat ≤ 64 := Lib.bitLen_le x.toNat 64 (by omega) (by omega)
set_option maxHeartbeats 4000000 in
set_option maxRecDepth 100000 in
theorem len64_int (x : Int) (w : World) (h0 : 0 ≤ x) (h1 : x ≤ 18446744073709551615) :
    Calls Try.prog 138 #[.int .u64 x] w fun e w' => e = .returned (.int .i64 (Lib.bitLen x.toNat)) ∧ w = w' := by
  go_enter Try.func138, Try.ntmps138
  go_wp2
  all_goals go_ret
  all_goals refine ⟨congrArg Ending.returned (congrArg (Value.int .i64) ?_), rfl⟩
  · have A := len_at x 56 (x / 4294967296 / 65536 / 256) h0 h1 (by omega) (by omega) (by left; omega) (by omega)
    have B := len_le64 x h0 h1
    omega
  · have A := len_at x 48 (x / 4294967296 / 65536) h0 h1 (by omega) (by omega) (by left; omega) (by omega)
    have B := len_le64 x h0 h1
    omega
  · have A := len_at x 40 (x / 4294967296 / 256) h0 h1 (by omega) (by omega) (by left; omega) (by omega)
    have B := len_le64 x h0 h1
    omega
  · have A := len_at x 32 (x / 4294967296) h0 h1 (by omega) (by omega) (by left; omega) (by omega)
    have B := len_le64 x h0 h1
    omega
  · have A := len_at x 24 (x / 65536 / 256) h0 h1 (by omega) (by omega) (by left; omega) (by omega)
    have B := len_le64 x h0 h1
    omega
  · have A := len_at x 16 (x / 65536) h0 h1 (by omega) (by omega) (by left; omega) (by omega)
    have B := len_le64 x h0 h1
    omega
  · have A := len_at x 8 (x / 256) h0 h1 (by omega) (by omega) (by left; omega) (by omega)
    have B := len_le64 x h0 h1
    omega
  · have A := len_at x 0 (x) h0 h1 (by simp) (by omega) (by right; rfl) (by omega)
    have B := len_le64 x h0 h1
    omega
end Go.Proofs.Ytdleeeahonfnkaa
