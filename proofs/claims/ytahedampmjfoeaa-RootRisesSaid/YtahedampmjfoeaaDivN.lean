/- The school's division of two digits by two digits: a digit of the quotient, guessed too great, is brought down to the true one. Nothing of a program is used. -/
import Derived.Test.YtahedampmjfoeaaWnum
namespace Go.Proofs.Ytahedampmjfoeaa

def qt (U a b c : Nat) : Nat := (U * 4294967296 + c) / (a * 4294967296 + b)
theorem qt_key {U a b q r : Nat} (h : q * a + r = U) : q * (a * 4294967296 + b) + r * 4294967296 = U * 4294967296 + q * b := by
  subst h; grind
theorem qt_stop {U a b c q r : Nat} (h : q * a + r = U) (ha : 0 < a) (hs : q * b ≤ 4294967296 * r + c) (hq : qt U a b c ≤ q) : q = qt U a b c := by
  refine Nat.le_antisymm ?_ hq
  refine (Nat.le_div_iff_mul_le (by omega)).2 ?_
  have := qt_key (b := b) h
  omega
theorem qt_step {U a b c q r : Nat} (h : q * a + r = U) (ha : 0 < a) (hc : c < 4294967296) (hU : U < a * 4294967296 + b) (hs : 4294967296 ≤ q ∨ 4294967296 * r + c < q * b) : qt U a b c ≤ q - 1 ∧ 1 ≤ q := by
  have hlt : qt U a b c < q := by
    refine (Nat.div_lt_iff_lt_mul (by omega)).2 ?_
    rcases hs with hs | hs
    · have h1 : (U + 1) * 4294967296 ≤ (a * 4294967296 + b) * 4294967296 := Nat.mul_le_mul_right _ hU
      have h2 : 4294967296 * (a * 4294967296 + b) ≤ q * (a * 4294967296 + b) := Nat.mul_le_mul_right _ hs
      omega
    · have := qt_key (b := b) h
      omega
  omega
theorem qt_brk {U a b c q r : Nat} (h : q * a + r = U) (ha : 0 < a) (hb : b < 4294967296) (hU : U < a * 4294967296 + b) (hr : 4294967296 ≤ r) (hq : qt U a b c ≤ q) : q = qt U a b c := by
  refine qt_stop h ha ?_ hq
  have h1 : q * a < 4294967296 * a := by omega
  have h2 : q < 4294967296 := Nat.lt_of_mul_lt_mul_right h1
  have h3 : q * b ≤ 4294967296 * 4294967296 := Nat.mul_le_mul (by omega) (by omega)
  have h4 : 4294967296 * 4294967296 ≤ 4294967296 * r := Nat.mul_le_mul_left _ hr
  omega
theorem dec_mul {U a q r : Nat} (h1 : 1 ≤ q) (h : q * a + r = U) : (q - 1) * a + (r + a) = U := by
  have e : (q - 1) * a + a = q * a := by rw [← Nat.succ_mul]; congr 1; omega
  omega
theorem qt_first {U a b c : Nat} (ha : 0 < a) (hc : c < 4294967296) (hU : U < a * 4294967296 + b) : qt U a b c ≤ U / a := by
  refine Nat.le_of_lt_succ ((Nat.div_lt_iff_lt_mul (by omega)).2 ?_)
  have h1 := Nat.lt_div_mul_add (a := U) ha
  have h2 : U + 1 ≤ (U / a + 1) * a := by rw [Nat.add_mul]; omega
  have h3 := Nat.mul_le_mul_right 4294967296 h2
  have h4 : (U / a + 1) * (a * 4294967296 + b) = (U / a + 1) * a * 4294967296 + (U / a + 1) * b := by rw [Nat.mul_add, Nat.mul_assoc]
  have h5 : 0 ≤ (U / a + 1) * b := Nat.zero_le _
  rw [show (U / a).succ = U / a + 1 from rfl, h4]
  omega
theorem qt_small {U a b c : Nat} (ha : 0 < a) (hc : c < 4294967296) (hU : U < a * 4294967296 + b) : qt U a b c < 4294967296 := by
  refine (Nat.div_lt_iff_lt_mul (by omega)).2 ?_
  have h1 : (U + 1) * 4294967296 ≤ (a * 4294967296 + b) * 4294967296 := Nat.mul_le_mul_right _ hU
  rw [Nat.mul_comm 4294967296]
  omega
def rt (U a b c : Nat) : Nat := (U * 4294967296 + c) % (a * 4294967296 + b)
theorem rt_lt {U a b c : Nat} (ha : 0 < a) : rt U a b c < a * 4294967296 + b := Nat.mod_lt _ (by omega)
theorem rt_wrap (U a b c Y : Nat) (hY : Y = a * 4294967296 + b) (hY2 : Y < 18446744073709551616) (ha : 0 < a) :
    IntKind.u64.wrap (IntKind.u64.wrap (IntKind.u64.wrap ((U : Int) * 4294967296) + c) - IntKind.u64.wrap ((qt U a b c : Int) * Y)) = (rt U a b c : Int) := by
  have h2 := rt_lt (U := U) (b := b) (c := c) ha
  have e1 : ((qt U a b c : Int) * Y) = ((qt U a b c * Y : Nat) : Int) := by simp
  rw [e1]
  have e2 : qt U a b c * Y + rt U a b c = U * 4294967296 + c := by
    unfold qt rt
    rw [← hY]
    exact Nat.div_add_mod' _ _
  generalize qt U a b c * Y = X at *
  simp only [IntKind.wrap_u64]
  omega
/-- Both digits together, to any base. -/
theorem two_core (B Y c d U T2 : Nat) (hT : T2 = (U * B + c) * B + d) (hY : 0 < Y) :
    ((U * B + c) / Y) * B + (((U * B + c) % Y) * B + d) / Y = T2 / Y ∧ (((U * B + c) % Y) * B + d) % Y = T2 % Y := by
  subst hT
  have k1 := Nat.div_add_mod (U * B + c) Y
  generalize (U * B + c) = M at *
  have k2 := Nat.div_add_mod (M % Y * B + d) Y
  have k3 := Nat.mod_lt (M % Y * B + d) hY
  have key : M * B + d = (M % Y * B + d) % Y + Y * (M / Y * B + (M % Y * B + d) / Y) := by
    have h1 : M * B = Y * (M / Y) * B + M % Y * B := by rw [← Nat.add_mul, k1]
    rw [Nat.mul_add, ← Nat.mul_assoc]
    omega
  constructor
  · rw [key, Nat.add_mul_div_left _ _ hY, Nat.div_eq_of_lt k3]
    omega
  · rw [key, Nat.add_mul_mod_self_left, Nat.mod_eq_of_lt k3]
theorem two_qt (T y s U L a b Y : Nat) (hT : T * 2 ^ s = (U * 4294967296 + L / 4294967296) * 4294967296 + L % 4294967296) (hY : Y = a * 4294967296 + b) (hy : y * 2 ^ s = Y) (ha : 0 < a) :
    qt U a b (L / 4294967296) * 4294967296 + qt (rt U a b (L / 4294967296)) a b (L % 4294967296) = T / y ∧ rt (rt U a b (L / 4294967296)) a b (L % 4294967296) / 2 ^ s = T % y := by
  have hP : 0 < 2 ^ s := Nat.two_pow_pos s
  have e1 : T / y = (T * 2 ^ s) / (y * 2 ^ s) := (Nat.mul_div_mul_right _ _ hP).symm
  have e2 : (T * 2 ^ s) % (y * 2 ^ s) = T % y * 2 ^ s := Nat.mul_mod_mul_right _ _ _
  rw [hy] at e1 e2
  obtain ⟨c1, c2⟩ := two_core 4294967296 Y (L / 4294967296) (L % 4294967296) U (T * 2 ^ s) hT (by omega)
  unfold qt rt
  rw [← hY, e1]
  refine ⟨c1, ?_⟩
  rw [c2, e2, Nat.mul_div_cancel _ hP]
end Go.Proofs.Ytahedampmjfoeaa
