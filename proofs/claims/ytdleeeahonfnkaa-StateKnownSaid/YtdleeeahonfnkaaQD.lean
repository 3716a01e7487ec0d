/- The document's own numbers of 128 bits with a sign: rounded halves. -/
import Derived.Test.YtdleeeahonfnkaaQC
import Derived.Test.YtdleeeahonfnkaaPB
namespace Go.Proofs.Ytdleeeahonfnkaa
open Go.RowKit

def qs (b c : Bool) (n m : Int) : Bool := if b = c then b else if n < m then c else b
def qn (b c : Bool) (n m : Int) : Int := if b = c then n + m else if n < m then m - n else n - m
theorem q_add (b c : Bool) (n m : Int) (w : World) (hn : InQ n) (hm : InQ m) (hs : b = c → InQ (n + m)) :
    Calls Try.prog 120 #[Qv b n, Qv c m] w fun e w' => e = .returned (Qv (qs b c n m) (qn b c n m)) ∧ Below w.heap.size w w' := by
  by_cases h : b = c
  · subst h
    unfold qs qn
    rw [if_pos rfl, if_pos rfl]
    exact q_add_same n m b w hn hm (hs rfl)
  · have hb : (b == c) = false := by simpa using h
    unfold qs qn
    rw [if_neg h, if_neg h]
    by_cases k : n < m
    · rw [if_pos k, if_pos k]; exact q_add_less n m b c hb w hn hm k
    · rw [if_neg k, if_neg k]; exact q_add_more n m b c hb w hn hm k
/-- What a size with a sign stands for. -/
def qval (b : Bool) (n : Int) : Int := if b = true then -n else n
theorem qval_add (b c : Bool) (n m : Int) : qval (qs b c n m) (qn b c n m) = qval b n + qval c m := by
  unfold qval qs qn
  cases b <;> cases c <;> simp <;> repeat split
  all_goals omega
theorem qn_in {b c : Bool} {n m : Int} (hn : InQ n) (hm : InQ m) (hs : b = c → InQ (n + m)) : InQ (qn b c n m) := by
  have := hn.lo; have := hn.hi; have := hm.lo; have := hm.hi
  unfold qn
  split
  · rename_i h; exact hs h
  · split <;> constructor <;> omega

/-! A power of two, and a division by it, in halves -/
theorem half_far (s : Nat) (h1 : 65 ≤ s) (h2 : s ≤ 126) : IntKind.u64.wrap (2 ^ (s - 65)) = wh ((2 ^ (s - 1) : Nat) : Int) ∧ 0 = wl ((2 ^ (s - 1) : Nat) : Int) := by
  have hp := pow_lt (s - 65) 61 (by omega)
  have e1 : 2 ^ (s - 1) = 2 ^ (s - 65) * 18446744073709551616 := by rw [show s - 1 = (s - 65) + 64 by omega, Nat.pow_add]
  rw [e1, pow_int]
  generalize 2 ^ (s - 65) = q at *
  simp only [IntKind.wrap_u64]
  unfold wh wl
  omega
theorem half_near (s : Nat) (h1 : 1 ≤ s) (h2 : s ≤ 64) : 0 = wh ((2 ^ (s - 1) : Nat) : Int) ∧ IntKind.u64.wrap (2 ^ (s - 1)) = wl ((2 ^ (s - 1) : Nat) : Int) := by
  have hp := pow_lt (s - 1) 63 (by omega)
  rw [pow_int]
  generalize 2 ^ (s - 1) = q at *
  simp only [IntKind.wrap_u64]
  unfold wh wl
  omega
theorem over_far (n s : Nat) (h1 : 64 ≤ s) (hn : n < 340282366920938463463374607431768211456) : 0 = wh ((n / 2 ^ s : Nat) : Int) ∧ wh n / 2 ^ (s - 64) = wl ((n / 2 ^ s : Nat) : Int) := by
  have e1 : n / 2 ^ s = n / 18446744073709551616 / 2 ^ (s - 64) := by
    rw [Nat.div_div_eq_div_mul, show (18446744073709551616 : Nat) = 2 ^ 64 by decide, ← Nat.pow_add, show 64 + (s - 64) = s by omega]
  have hq : n / 18446744073709551616 < 18446744073709551616 := by omega
  have hlt : n / 18446744073709551616 / 2 ^ (s - 64) < 18446744073709551616 := Nat.lt_of_le_of_lt (Nat.div_le_self _ _) hq
  constructor
  · rw [e1, whN, Nat.div_eq_of_lt hlt]; rfl
  · rw [e1, wlN, whN, Nat.mod_eq_of_lt hlt, div_pow_int]
theorem or_comm64 (a b : Int) : bits .or .u64 a b = bits .or .u64 b a := by
  show IntKind.u64.wrap ((BitVec.ofInt 64 a ||| BitVec.ofInt 64 b).toNat : Int) = IntKind.u64.wrap ((BitVec.ofInt 64 b ||| BitVec.ofInt 64 a).toNat : Int)
  rw [BitVec.or_comm]
theorem over_near (n s : Nat) (h1 : s < 64) (hn : n < 340282366920938463463374607431768211456) :
    wh n / 2 ^ s = wh ((n / 2 ^ s : Nat) : Int) ∧ bits .or .u64 (wl n / 2 ^ s) (IntKind.u64.wrap (wh n * 2 ^ (64 - s))) = wl ((n / 2 ^ s : Nat) : Int) := by
  have hq : n / 18446744073709551616 < 18446744073709551616 := by omega
  constructor
  · rw [whN, whN, div_pow_int, Nat.div_div_eq_div_mul, Nat.div_div_eq_div_mul, Nat.mul_comm]
  · have hP : 0 < 2 ^ s := Nat.two_pow_pos s
    have hPQ : 2 ^ s * 2 ^ (64 - s) = 18446744073709551616 := by rw [← Nat.pow_add, show s + (64 - s) = 64 by omega]
    have eh : IntKind.u64.wrap (wh n * 2 ^ (64 - s)) = ((n / 18446744073709551616 * 2 ^ (64 - s) % 18446744073709551616 : Nat) : Int) := by
      rw [IntKind.wrap_u64, whN, pow_int, ← Int.natCast_mul]; omega
    rw [or_comm64, eh, wlN, wlN, div_pow_int, or_parts _ _ (64 - s) (Nat.mod_lt _ (by omega)) ?_ (by omega) ?_]
    · congr 1
      have e2 : n = n % 18446744073709551616 + 2 ^ s * (2 ^ (64 - s) * (n / 18446744073709551616)) := by rw [← Nat.mul_assoc, hPQ]; omega
      have e3 : n / 2 ^ s = n % 18446744073709551616 / 2 ^ s + 2 ^ (64 - s) * (n / 18446744073709551616) := by
        rw [show n / 2 ^ s = (n % 18446744073709551616 + 2 ^ s * (2 ^ (64 - s) * (n / 18446744073709551616))) / 2 ^ s by rw [← e2], Nat.add_mul_div_left _ _ hP]
      have hlo : n % 18446744073709551616 / 2 ^ s < 2 ^ (64 - s) := by
        refine (Nat.div_lt_iff_lt_mul hP).2 ?_
        rw [Nat.mul_comm, hPQ]; omega
      have hd : (n / 18446744073709551616 * 2 ^ (64 - s) % 18446744073709551616) % 2 ^ (64 - s) = 0 := by
        rw [Nat.mod_mod_of_dvd _ ⟨2 ^ s, by rw [Nat.mul_comm, hPQ]⟩]; exact Nat.mul_mod_left _ _
      rw [e3, Nat.mul_comm (2 ^ (64 - s))]
      generalize n / 18446744073709551616 * 2 ^ (64 - s) = X at *
      generalize n % 18446744073709551616 / 2 ^ s = Y at *
      have hm : X % 18446744073709551616 + Y < 18446744073709551616 := by
        have d1 : X % 18446744073709551616 ≤ 18446744073709551616 - 2 ^ (64 - s) := by
          have h3 := Nat.mod_lt X (show 0 < 18446744073709551616 by omega)
          obtain ⟨c, hc⟩ := Nat.dvd_of_mod_eq_zero hd
          rw [hc] at h3 ⊢
          have h4 : 2 ^ (64 - s) * c < 2 ^ (64 - s) * 2 ^ s := by rw [Nat.mul_comm _ (2 ^ s), hPQ]; exact h3
          have h5 : c < 2 ^ s := Nat.lt_of_mul_lt_mul_left h4
          have h6 : 2 ^ (64 - s) * (c + 1) ≤ 2 ^ (64 - s) * 2 ^ s := Nat.mul_le_mul_left _ h5
          rw [Nat.mul_comm _ (2 ^ s), hPQ, Nat.mul_add] at h6
          omega
        have : 2 ^ (64 - s) ≤ 18446744073709551616 := pow_lt (64 - s) 64 (by omega)
        omega
      omega
    · refine (Nat.div_lt_iff_lt_mul hP).2 ?_
      rw [Nat.mul_comm, hPQ]; omega
    · rw [Nat.mod_mod_of_dvd _ ⟨2 ^ s, by rw [Nat.mul_comm, hPQ]⟩]; exact Nat.mul_mod_left _ _
end Go.Proofs.Ytdleeeahonfnkaa
