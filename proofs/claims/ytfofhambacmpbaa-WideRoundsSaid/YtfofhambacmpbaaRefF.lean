/- The document's own numbers: divided by a power of two, rounded. -/
import Derived.Test.YtfofhambacmpbaaRefE
import Derived.Test.YtfofhambacmpbaaMem
import Derived.Test.YtfofhambacmpbaaFxN
import Derived.Deep.DeepCutAuto
namespace Go.Proofs.Ytfofhambacmpbaa
open Go.RowKit

theorem blk_set8 {w : World} {B : Nat} {t : TypeId} {c0 c1 c2 c3 c4 c5 c6 c7 : Value} (h : Blk w B #[c0, c1, c2, c3, c4, c5, c6, c7] t) (v0 v1 v2 v3 v4 v5 v6 v7 : Value) :
    Blk ((((((((w.setCell ⟨B, 0, none⟩ v0).setCell ⟨B, 1, none⟩ v1).setCell ⟨B, 2, none⟩ v2).setCell ⟨B, 3, none⟩ v3).setCell ⟨B, 4, none⟩ v4).setCell ⟨B, 5, none⟩ v5).setCell ⟨B, 6, none⟩ v6).setCell ⟨B, 7, none⟩ v7) B #[v0, v1, v2, v3, v4, v5, v6, v7] t := by
  unfold Blk
  simp [World.setCell, Array.getElem?_modify, show w.heap[B]? = _ from h]
/-! Shifting digits -/
def shD (N s i : Nat) : Int := dg (N / 2 ^ s) i
theorem shD_eq (N s i : Nat) : shD N s i = ((N / 2 ^ (32 * (i + s / 32) + s % 32) % 4294967296 : Nat) : Int) := by
  unfold shD dg
  rw [pow32, Nat.div_div_eq_div_mul, ← Nat.pow_add, show s + 32 * i = 32 * (i + s / 32) + s % 32 by omega]
theorem dg_top (N k : Nat) (hN : N < B8) (hk : 8 ≤ k) : dg N k = 0 := by
  unfold dg
  unfold B8 at hN
  rw [Nat.div_eq_of_lt (Nat.lt_of_lt_of_le hN (Nat.pow_le_pow_right (by omega) hk))]
  rfl
theorem shD_split (N s i : Nat) : shD N s i = dg N (i + s / 32) / 2 ^ (s % 32) + (dg N (i + s / 32 + 1) * 2 ^ (32 - s % 32)) % 4294967296 := by
  rw [shD_eq]
  unfold dg
  have hr : s % 32 < 32 := Nat.mod_lt _ (by omega)
  generalize s % 32 = r at *
  generalize i + s / 32 = k
  rw [pow32, pow32, show 32 * (k + 1) = 32 * k + 32 by omega, Nat.pow_add, Nat.pow_add, ← Nat.div_div_eq_div_mul, ← Nat.div_div_eq_div_mul]
  generalize N / 2 ^ (32 * k) = M
  have h1 : (((M % 4294967296 : Nat) : Int) / 2 ^ r) = ((M % 4294967296 / 2 ^ r : Nat) : Int) := by simp
  have h2 : (((M / 2 ^ 32 % 4294967296 : Nat) : Int) * 2 ^ (32 - r)) % 4294967296 = ((M / 2 ^ 32 % 4294967296 * 2 ^ (32 - r) % 4294967296 : Nat) : Int) := by
    have e : ((2 : Int) ^ (32 - r)) = ((2 ^ (32 - r) : Nat) : Int) := by simp
    rw [e]
    generalize M / 2 ^ 32 % 4294967296 = x
    generalize 2 ^ (32 - r) = P
    have e2 : ((x : Int) * (P : Int)) = ((x * P : Nat) : Int) := by simp
    rw [e2]
    omega
  rw [h1, h2]
  have h3 : (4294967296 : Nat) = 2 ^ r * 2 ^ (32 - r) := by rw [← Nat.pow_add, show r + (32 - r) = 32 by omega]
  have h4 : M / 2 ^ r % 4294967296 = M % 4294967296 / 2 ^ r + M / 2 ^ 32 % 4294967296 * 2 ^ (32 - r) % 4294967296 := by
    have a1 : M % 4294967296 / 2 ^ r = M / 2 ^ r % 2 ^ (32 - r) := by
      conv => lhs; rw [h3]
      rw [Nat.mod_mul_right_div_self]
    have a2 : M / 2 ^ 32 % 4294967296 * 2 ^ (32 - r) % 4294967296 = M / 2 ^ 32 % 2 ^ r * 2 ^ (32 - r) := by
      have b1 : M / 2 ^ 32 % 4294967296 * 2 ^ (32 - r) % 4294967296 = M / 2 ^ 32 * 2 ^ (32 - r) % 4294967296 := by
        rw [Nat.mul_mod, Nat.mod_mod, ← Nat.mul_mod]
      rw [b1]
      conv => lhs; rw [h3]
      rw [Nat.mul_comm (2 ^ r), Nat.mul_comm (M / 2 ^ 32), Nat.mul_mod_mul_left, Nat.mul_comm]
    have a3 : M / 2 ^ 32 = M / 2 ^ r / 2 ^ (32 - r) := by rw [Nat.div_div_eq_div_mul, ← Nat.pow_add, show r + (32 - r) = 32 by omega]
    rw [a1, a2, a3]
    conv => lhs; rw [h3, Nat.mul_comm (2 ^ r), Nat.mod_mul]
    rw [Nat.mul_comm]
  rw [h4]
  simp
theorem shD_high (N s i : Nat) (hN : N < B8) (hk : 8 ≤ i + s / 32) : shD N s i = 0 := by
  rw [shD_split, dg_top N _ hN hk, dg_top N _ hN (by omega)]
  simp
theorem shD_last (N s i : Nat) (hN : N < B8) (hk : i + s / 32 = 7) : shD N s i = dg N (i + s / 32) / 2 ^ (s % 32) := by
  rw [shD_split, dg_top N (i + s / 32 + 1) hN (by omega)]
  simp
theorem low_bd (N k r : Nat) (hr : r ≤ 32) : 0 ≤ dg N k / 2 ^ r ∧ dg N k / 2 ^ r < 2 ^ (32 - r) := by
  unfold dg
  have h1 : (((N / 4294967296 ^ k % 4294967296 : Nat) : Int) / 2 ^ r) = ((N / 4294967296 ^ k % 4294967296 / 2 ^ r : Nat) : Int) := by simp
  rw [h1]
  refine ⟨Int.natCast_nonneg _, ?_⟩
  have h3 : (4294967296 : Nat) = 2 ^ r * 2 ^ (32 - r) := by rw [← Nat.pow_add, show r + (32 - r) = 32 by omega]
  have h2 : N / 4294967296 ^ k % 4294967296 / 2 ^ r < 2 ^ (32 - r) := by
    refine Nat.div_lt_of_lt_mul ?_
    rw [← h3]
    exact Nat.mod_lt _ (by omega)
  have e : ((2 : Int) ^ (32 - r)) = ((2 ^ (32 - r) : Nat) : Int) := by simp
  rw [e]
  omega
theorem high_mask (d : Int) (h0 : 0 ≤ d) (h1 : d ≤ 4294967295) (r : Nat) (hr : r < 32) :
    bits .and .u64 (IntKind.u64.wrap (d * 2 ^ (32 - r))) 4294967295 = (d * 2 ^ (32 - r)) % 4294967296 := by
  rw [IntKind.wrap_u64, and_mask _ (by omega) (by omega)]
  omega
theorem or_digits (N k r : Nat) (hr : r < 32) :
    bits .or .u64 (dg N k / 2 ^ r) ((dg N (k + 1) * 2 ^ (32 - r)) % 4294967296) = dg N k / 2 ^ r + (dg N (k + 1) * 2 ^ (32 - r)) % 4294967296 := by
  obtain ⟨a0, a1⟩ := low_bd N k r (by omega)
  have e : ((2 : Int) ^ (32 - r)) = ((2 ^ (32 - r) : Nat) : Int) := by simp
  have hd0 := dg_lo N (k + 1)
  obtain ⟨a, ha⟩ := Int.eq_ofNat_of_zero_le a0
  obtain ⟨d, hd⟩ := Int.eq_ofNat_of_zero_le hd0
  rw [ha] at a1 ⊢
  rw [hd, e]
  rw [e] at a1
  have hp : 2 ^ (32 - r) ≤ 4294967296 := pow_lt (32 - r) 32 (by omega)
  have hb : (((d : Nat) : Int) * ((2 ^ (32 - r) : Nat) : Int)) % 4294967296 = ((d * 2 ^ (32 - r) % 4294967296 : Nat) : Int) := by simp
  rw [hb]
  have h1 : a < 2 ^ (32 - r) := by omega
  have h2 : d * 2 ^ (32 - r) % 4294967296 < 4294967296 := Nat.mod_lt _ (by omega)
  have h := bits_or_u64_nat a (d * 2 ^ (32 - r) % 4294967296) (by omega) (by omega)
  refine h.trans ?_
  have hdv : d * 2 ^ (32 - r) % 4294967296 = 2 ^ (32 - r) * (d % 2 ^ r) := by
    have h3 : (4294967296 : Nat) = 2 ^ (32 - r) * 2 ^ r := by rw [← Nat.pow_add, show 32 - r + r = 32 by omega]
    conv => lhs; rw [h3]
    rw [Nat.mul_comm d, Nat.mul_mod_mul_left]
  rw [hdv, Nat.or_comm, ← Nat.two_pow_add_eq_or_of_lt h1]
  simp
  omega
end Go.Proofs.Ytfofhambacmpbaa
