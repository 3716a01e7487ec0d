/- Whole numbers of 128 bits in two parts of 64. Nothing of a program is used. -/
import Derived.Test.YtahedampmjfoeaaNum
namespace Go.Proofs.Ytahedampmjfoeaa
open Go.RowKit

def wh (v : Int) : Int := v / 18446744073709551616
def wl (v : Int) : Int := v % 18446744073709551616
abbrev Wv (v : Int) : Value := .agg #[.int .i64 (wh v), .int .u64 (wl v)]
structure InW (v : Int) : Prop where
  lo : -170141183460469231731687303715884105728 ≤ v
  hi : v < 170141183460469231731687303715884105728
theorem wl_lo (v : Int) : 0 ≤ wl v := by unfold wl; omega
theorem wl_hi (v : Int) : wl v < 18446744073709551616 := by unfold wl; omega
theorem wh_lo {v : Int} (h : InW v) : -9223372036854775808 ≤ wh v := by have := h.lo; unfold wh; omega
theorem wh_hi {v : Int} (h : InW v) : wh v ≤ 9223372036854775807 := by have := h.hi; unfold wh; omega
theorem wh_neg (v : Int) : wh v < 0 ↔ v < 0 := by unfold wh; omega
theorem ret_val {a b : Value} (h : a = b) : Ending.returned a = .returned b := by rw [h]
theorem ret_int {k : IntKind} {a b : Int} (h : a = b) : Ending.returned (.int k a) = .returned (.int k b) := by rw [h]
theorem agg2 {k l : IntKind} {a b c d : Int} (h1 : a = c) (h2 : b = d) : Value.agg #[.int k a, .int l b] = Value.agg #[.int k c, .int l d] := by rw [h1, h2]
theorem tuple2 {k l : IntKind} {a b c d : Int} (h1 : a = c) (h2 : b = d) : Ending.returned (.tuple #[.int k a, .int l b]) = Ending.returned (.tuple #[.int k c, .int l d]) := by rw [h1, h2]
theorem tupleb {k : IntKind} {a c : Int} {b d : Bool} (h1 : a = c) (h2 : b = d) : Ending.returned (.tuple #[.int k a, .bool b]) = Ending.returned (.tuple #[.int k c, .bool d]) := by rw [h1, h2]

/-! Sums and differences with a carry -/
def addLo (x y : Int) : Int := (x + y) % 18446744073709551616
def addHi (x y : Int) : Int := (x + y) / 18446744073709551616
def subLo (y : Int) : Int := (-y) % 18446744073709551616
def subBo (y : Int) : Int := (y + 18446744073709551615) / 18446744073709551616

/-! The other sign; the size -/
def nneg (v : Int) : Int := if v = -170141183460469231731687303715884105728 then v else -v
theorem neg_hi {v : Int} (h : InW v) : wrap64 (wrap64 (-wh v) - wrap64 (subBo (wl v))) = wh (nneg v) := by
  have := h.lo; have := h.hi
  unfold wrap64 subBo nneg wh wl
  split <;> omega
theorem neg_lo (v : Int) : subLo (wl v) = wl (nneg v) := by
  unfold subLo nneg wl
  split <;> omega
theorem nneg_in {v : Int} (h : InW v) : InW (nneg v) := by
  have := h.lo; have := h.hi
  unfold nneg
  split <;> constructor <;> omega
theorem size_neg {v : Int} (h : InW v) (hn : v < 0) : IntKind.u64.wrap (wh (nneg v)) = wh v.natAbs ∧ wl (nneg v) = wl v.natAbs := by
  have := h.lo; have := h.hi
  simp only [IntKind.wrap_u64]
  unfold nneg wh wl
  split <;> constructor <;> omega
theorem size_pos {v : Int} (h : InW v) (hn : ¬ v < 0) : IntKind.u64.wrap (wh v) = wh v.natAbs ∧ wl v = wl v.natAbs := by
  have := h.lo; have := h.hi
  simp only [IntKind.wrap_u64]
  unfold wh wl
  constructor <;> omega

/-! A size with its sign again -/
def sok (z : Int) : Bool := decide (-9223372036854775808 ≤ z) && decide (z ≤ 9223372036854775807)
def sval (z : Int) : Int := if sok z = true then z else 0
theorem sok_yes {z : Int} (h1 : -9223372036854775808 ≤ z) (h2 : z ≤ 9223372036854775807) : true = sok z ∧ z = sval z := by
  have : sok z = true := by unfold sok; simp [h1, h2]
  exact ⟨this.symm, by unfold sval; rw [if_pos this]⟩
theorem sok_no {z : Int} (h : z < -9223372036854775808 ∨ 9223372036854775807 < z) : false = sok z ∧ 0 = sval z := by
  have : sok z = false := by unfold sok; rcases h with h | h <;> simp <;> omega
  exact ⟨this.symm, by unfold sval; rw [if_neg (by rw [this]; simp)]⟩
def withSign (b : Bool) (n : Nat) : Int := if b = true then -(n : Int) else n
def cmpI (x y : Int) : Int := if x = y then 0 else if x < y then -1 else 1
end Go.Proofs.Ytahedampmjfoeaa
