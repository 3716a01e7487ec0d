/- Numbers, memory, a flag; bits of 64. -/
import Derived.Test.YtfkeljolpcbbkaaLen
import Derived.BigQuiet
import Derived.Deep.Cut
import Derived.Deep.LoopGhost
import Derived.Deep.MidRow
import Derived.Deep.QuietTactic
import Derived.Deep.RegionHeld3
import Derived.Deep.RegionWith
import Derived.Laws.Bits64b
import Derived.Laws.Externs
import Derived.Laws.MathBits
import Derived.Laws.Rows
import Derived.Lib.Hide
import Derived.Lib.Mul64
import Derived.StillTailTactics
import Derived.WalkKit
import Derived.WalkLawsBesides
import Derived.WalkSmall
import Derived.WalkSpells

/- Base -/
namespace Go.Proofs.Ytfkeljolpcbbkaa
open Go.RowKit

def upd (f : Nat → Int) (k : Nat) (v : Int) : Nat → Int := fun j => if j = k then v else f j
theorem and_mask (x : Int) (h0 : 0 ≤ x) (h1 : x < 18446744073709551616) : bits .and .u64 x 4294967295 = x % 4294967296 := by
  obtain ⟨a, rfl⟩ := Int.eq_ofNat_of_zero_le h0
  have h := bits_and_u64_nat a 4294967295 (by omega) (by omega)
  have e : a &&& 4294967295 = a % 4294967296 := Nat.and_two_pow_sub_one_eq_mod a 32
  rw [e] at h
  exact h

end Go.Proofs.Ytfkeljolpcbbkaa

/- Num -/
namespace Go.Proofs.Ytfkeljolpcbbkaa

/-! Adding -/
def cy (m n k : Nat) : Int := (((m % 4294967296 ^ k + n % 4294967296 ^ k) / 4294967296 ^ k : Nat) : Int)
/-! Taking away: the borrow is 1 or 0 -/
/-! Comparing -/
@[irreducible] def B8 : Nat := 4294967296 ^ 8
/-! Is it 0? -/
/-! Powers of two, bits -/
end Go.Proofs.Ytfkeljolpcbbkaa

/- Wnum -/
namespace Go.Proofs.Ytfkeljolpcbbkaa
open Go.RowKit

def wh (v : Int) : Int := v / 18446744073709551616
def wl (v : Int) : Int := v % 18446744073709551616
abbrev Wv (v : Int) : Value := .agg #[.int .i64 (wh v), .int .u64 (wl v)]
structure InW (v : Int) : Prop where
  lo : -170141183460469231731687303715884105728 ≤ v
  hi : v < 170141183460469231731687303715884105728
theorem wl_lo (v : Int) : 0 ≤ wl v := by unfold wl; omega
theorem wl_hi (v : Int) : wl v < 18446744073709551616 := by unfold wl; omega
theorem wh_lo {v : Int} (h : InW v) : -9223372036854775808 ≤ wh v := by have := h.lo; unfold wh; omega
theorem wh_hi {v : Int} (h : InW v) : wh v ≤ 9223372036854775807 := by have := h.hi; unfold wh; omega
theorem wh_neg (v : Int) : wh v < 0 ↔ v < 0 := by unfold wh; omega
theorem ret_val {a b : Value} (h : a = b) : Ending.returned a = .returned b := by rw [h]
theorem ret_int {k : IntKind} {a b : Int} (h : a = b) : Ending.returned (.int k a) = .returned (.int k b) := by rw [h]
theorem agg2 {k l : IntKind} {a b c d : Int} (h1 : a = c) (h2 : b = d) : Value.agg #[.int k a, .int l b] = Value.agg #[.int k c, .int l d] := by rw [h1, h2]
theorem tuple2 {k l : IntKind} {a b c d : Int} (h1 : a = c) (h2 : b = d) : Ending.returned (.tuple #[.int k a, .int l b]) = Ending.returned (.tuple #[.int k c, .int l d]) := by rw [h1, h2]
theorem tupleb {k : IntKind} {a c : Int} {b d : Bool} (h1 : a = c) (h2 : b = d) : Ending.returned (.tuple #[.int k a, .bool b]) = Ending.returned (.tuple #[.int k c, .bool d]) := by rw [h1, h2]

/-! Sums and differences with a carry -/
def addLo (x y : Int) : Int := (x + y) % 18446744073709551616
def addHi (x y : Int) : Int := (x + y) / 18446744073709551616
def subLo (y : Int) : Int := (-y) % 18446744073709551616
def subBo (y : Int) : Int := (y + 18446744073709551615) / 18446744073709551616

/-! The other sign; the size -/
def nneg (v : Int) : Int := if v = -170141183460469231731687303715884105728 then v else -v
theorem neg_hi {v : Int} (h : InW v) : wrap64 (wrap64 (-wh v) - wrap64 (subBo (wl v))) = wh (nneg v) := by
  have := h.lo; have := h.hi
  unfold wrap64 subBo nneg wh wl
  split <;> omega
theorem neg_lo (v : Int) : subLo (wl v) = wl (nneg v) := by
  unfold subLo nneg wl
  split <;> omega
theorem size_neg {v : Int} (h : InW v) (hn : v < 0) : IntKind.u64.wrap (wh (nneg v)) = wh v.natAbs ∧ wl (nneg v) = wl v.natAbs := by
  have := h.lo; have := h.hi
  simp only [IntKind.wrap_u64]
  unfold nneg wh wl
  split <;> constructor <;> omega
theorem size_pos {v : Int} (h : InW v) (hn : ¬ v < 0) : IntKind.u64.wrap (wh v) = wh v.natAbs ∧ wl v = wl v.natAbs := by
  have := h.lo; have := h.hi
  simp only [IntKind.wrap_u64]
  unfold wh wl
  constructor <;> omega

/-! A size with its sign again -/
def sok (z : Int) : Bool := decide (-9223372036854775808 ≤ z) && decide (z ≤ 9223372036854775807)
def sval (z : Int) : Int := if sok z = true then z else 0
theorem sok_yes {z : Int} (h1 : -9223372036854775808 ≤ z) (h2 : z ≤ 9223372036854775807) : true = sok z ∧ z = sval z := by
  have : sok z = true := by unfold sok; simp [h1, h2]
  exact ⟨this.symm, by unfold sval; rw [if_pos this]⟩
theorem sok_no {z : Int} (h : z < -9223372036854775808 ∨ 9223372036854775807 < z) : false = sok z ∧ 0 = sval z := by
  have : sok z = false := by unfold sok; rcases h with h | h <;> simp <;> omega
  exact ⟨this.symm, by unfold sval; rw [if_neg (by rw [this]; simp)]⟩
def withSign (b : Bool) (n : Nat) : Int := if b = true then -(n : Int) else n
def cmpI (x y : Int) : Int := if x = y then 0 else if x < y then -1 else 1
end Go.Proofs.Ytfkeljolpcbbkaa

/- Inv -/
namespace Go.Proofs.Ytfkeljolpcbbkaa
open Go.RowKit
theorem ret_bool {a b : Bool} (h : a = b) : Ending.returned (.bool a) = .returned (.bool b) := by rw [h]

theorem Below.setCells {B : Nat} {a : World} {b : Nat} (hB : B ≤ b) : ∀ (vs : List Value) (o : Nat) (w : World), Below B a w → Below B a (w.setCells b o vs)
  | [], _, _, h => h
  | v :: r, o, w, h => by rw [World.setCells]; exact Below.setCells hB r (o + 1) _ (h.setCell hB v)
theorem heap_setCells (b : Nat) : ∀ (vs : List Value) (o : Nat) (w : World), (w.setCells b o vs).heap.size = w.heap.size
  | [], _, _ => rfl
  | v :: r, o, w => by rw [World.setCells, heap_setCells b r (o + 1)]; simp [World.setCell]

abbrev Ext (w W : World) (w' : World) : Prop := (∀ b o, b < W.heap.size → w'.cell? ⟨b, o, none⟩ = W.cell? ⟨b, o, none⟩) ∧ Below w.heap.size w w' ∧ W.heap.size ≤ w'.heap.size
theorem Ext.start0 {w W : World} (h2 : Below w.heap.size w W) : Ext w W W := ⟨fun _ _ _ => rfl, h2, Nat.le_refl _⟩
theorem Ext.call {w W w1 w2 : World} (hw : w.heap.size ≤ W.heap.size) (h : Ext w W w1) (hb : Below w1.heap.size w1 w2) : Ext w W w2 := by
  obtain ⟨h1, h4, h5⟩ := h
  refine ⟨fun b o hlt => ?_, h4.trans (hb.mono (by omega)), Nat.le_trans h5 hb.size⟩
  rw [hb.cell (p := ⟨b, o, none⟩) (by show b < _; omega)]; exact h1 b o hlt
end Go.Proofs.Ytfkeljolpcbbkaa

/- Bits -/
namespace Go.Proofs.Ytfkeljolpcbbkaa
open Go.RowKit

theorem lead_any (n : Int) (w : World) (h0 : 0 ≤ n) (h1 : n ≤ 18446744073709551615) :
    Calls Try.prog 180 #[.int .u64 n] w fun e w' => e = .returned (.int .i64 (64 - (Lib.bitLen n.toNat : Int))) ∧ w = w' := by
  have hl := len_le64 n h0 h1
  go_enter Try.func180, Try.ntmps180
  go_wp2_with fail
  refine (len64_int n _ h0 h1).mono ?_
  rintro e w' ⟨rfl, rfl⟩
  go_wp2
  go_ret
  exact ⟨rfl, rfl⟩

/-! Sums and differences with a carry -/
theorem add64_run (x y : Int) (w : World) (hx : 0 ≤ x) (hy : 0 ≤ y) :
    (callFunc 122 #[.int .u64 x, .int .u64 y, .int .u64 0]).run Try.prog w = .ok (.value (.tuple #[.int .u64 (addLo x y), .int .u64 (addHi x y)])) w := by
  rw [run_callFunc_extern Try.func122 (by kernel_rfl) (by kernel_rfl) (by kernel_rfl) (e := add64Entry) (by kernel_rfl), run_add64 x y 0 hx hy (by omega) (by omega)]
  simp only [Result.andThen, Int.add_zero]
  rfl
def sub64Entry : Array Value → Sem Value := fun args => do
  let (x, y, b) ← Extern.MathBitsCarry.three "Sub64" args
  pure (Extern.MathBitsCarry.pair ((x + Extern.MathBitsCarry.m64 - y - b) % Extern.MathBitsCarry.m64) (if x < y + b then 1 else 0))
theorem run_sub64 (y : Nat) (w : World) (P : Program) :
    (sub64Entry #[.int .u64 0, .int .u64 y, .int .u64 0]).run P w = .ok (.tuple #[.int .u64 (((18446744073709551616 - y) % 18446744073709551616 : Nat) : Int), .int .u64 ((if 0 < y then 1 else 0 : Nat) : Int)]) w := by
  have : (sub64Entry #[.int .u64 0, .int .u64 y, .int .u64 0]).run P w = .ok (Extern.MathBitsCarry.pair ((0 + Extern.MathBitsCarry.m64 - y - 0) % Extern.MathBitsCarry.m64) (if 0 < y + 0 then 1 else 0)) w := rfl
  rw [this]
  simp only [Extern.MathBitsCarry.pair, Extern.MathBitsCarry.m64, Nat.zero_add, Nat.sub_zero, Nat.add_zero]
  rfl
theorem sub64_run (y : Int) (w : World) (h0 : 0 ≤ y) (h1 : y < 18446744073709551616) :
    (callFunc 179 #[.int .u64 0, .int .u64 y, .int .u64 0]).run Try.prog w = .ok (.value (.tuple #[.int .u64 (subLo y), .int .u64 (subBo y)])) w := by
  obtain ⟨n, rfl⟩ := Int.eq_ofNat_of_zero_le h0
  rw [run_callFunc_extern Try.func179 (by kernel_rfl) (by kernel_rfl) (by kernel_rfl) (e := sub64Entry) (by kernel_rfl), run_sub64]
  have e1 : (((18446744073709551616 - n) % 18446744073709551616 : Nat) : Int) = subLo n := by unfold subLo; omega
  have e2 : ((if 0 < n then 1 else 0 : Nat) : Int) = subBo n := by unfold subBo; split <;> omega
  rw [e1, e2]
  rfl

/-! The product -/
theorem mask_mod (e : Int) : bits .and .u64 (e % 18446744073709551616) 4294967295 = e % 18446744073709551616 % 4294967296 :=
  and_mask _ (Int.emod_nonneg _ (by decide)) (Int.emod_lt_of_pos _ (by decide))
set_option maxHeartbeats 1000000 in
theorem mul64_any (x y : Int) (w : World) (x0 : 0 ≤ x) (x1 : x < 18446744073709551616) (y0 : 0 ≤ y) (y1 : y < 18446744073709551616) :
    Calls Try.prog 115 #[.int .u64 x, .int .u64 y] w fun e w' => e = .returned (.tuple #[.int .u64 (x * y / 18446744073709551616), .int .u64 (x * y % 18446744073709551616)]) ∧ w = w' := by
  go_enter Try.func115, Try.ntmps115
  go_wp2
  go_ret2
  refine ⟨tuple2 ?_ (IntKind.wrap_u64 _), rfl⟩
  refine Eq.trans ?_ (mul64_arith x y x0 x1 y0 y1)
  simp only [IntKind.wrap_u64, and_mask x x0 x1, and_mask y y0 y1, mask_mod]
end Go.Proofs.Ytfkeljolpcbbkaa

/- DivN -/
namespace Go.Proofs.Ytfkeljolpcbbkaa

def qt (U a b c : Nat) : Nat := (U * 4294967296 + c) / (a * 4294967296 + b)
theorem qt_key {U a b q r : Nat} (h : q * a + r = U) : q * (a * 4294967296 + b) + r * 4294967296 = U * 4294967296 + q * b := by
  subst h; grind
theorem qt_stop {U a b c q r : Nat} (h : q * a + r = U) (ha : 0 < a) (hs : q * b ≤ 4294967296 * r + c) (hq : qt U a b c ≤ q) : q = qt U a b c := by
  refine Nat.le_antisymm ?_ hq
  refine (Nat.le_div_iff_mul_le (by omega)).2 ?_
  have := qt_key (b := b) h
  omega
theorem qt_step {U a b c q r : Nat} (h : q * a + r = U) (_ : 0 < a) (hc : c < 4294967296) (hU : U < a * 4294967296 + b) (hs : 4294967296 ≤ q ∨ 4294967296 * r + c < q * b) : qt U a b c ≤ q - 1 ∧ 1 ≤ q := by
  have hlt : qt U a b c < q := by
    refine (Nat.div_lt_iff_lt_mul (by omega)).2 ?_
    rcases hs with hs | hs
    · have h1 : (U + 1) * 4294967296 ≤ (a * 4294967296 + b) * 4294967296 := Nat.mul_le_mul_right _ hU
      have h2 : 4294967296 * (a * 4294967296 + b) ≤ q * (a * 4294967296 + b) := Nat.mul_le_mul_right _ hs
      omega
    · have := qt_key (b := b) h
      omega
  omega
theorem qt_brk {U a b c q r : Nat} (h : q * a + r = U) (ha : 0 < a) (hb : b < 4294967296) (hU : U < a * 4294967296 + b) (hr : 4294967296 ≤ r) (hq : qt U a b c ≤ q) : q = qt U a b c := by
  refine qt_stop h ha ?_ hq
  have h1 : q * a < 4294967296 * a := by omega
  have h2 : q < 4294967296 := Nat.lt_of_mul_lt_mul_right h1
  have h3 : q * b ≤ 4294967296 * 4294967296 := Nat.mul_le_mul (by omega) (by omega)
  have h4 : 4294967296 * 4294967296 ≤ 4294967296 * r := Nat.mul_le_mul_left _ hr
  omega
theorem dec_mul {U a q r : Nat} (h1 : 1 ≤ q) (h : q * a + r = U) : (q - 1) * a + (r + a) = U := by
  have e : (q - 1) * a + a = q * a := by rw [← Nat.succ_mul]; congr 1; omega
  omega
theorem qt_first {U a b c : Nat} (ha : 0 < a) (hc : c < 4294967296) (hU : U < a * 4294967296 + b) : qt U a b c ≤ U / a := by
  refine Nat.le_of_lt_succ ((Nat.div_lt_iff_lt_mul (by omega)).2 ?_)
  have h1 := Nat.lt_div_mul_add (a := U) ha
  have h2 : U + 1 ≤ (U / a + 1) * a := by rw [Nat.add_mul]; omega
  have h3 := Nat.mul_le_mul_right 4294967296 h2
  have h4 : (U / a + 1) * (a * 4294967296 + b) = (U / a + 1) * a * 4294967296 + (U / a + 1) * b := by rw [Nat.mul_add, Nat.mul_assoc]
  have h5 : 0 ≤ (U / a + 1) * b := Nat.zero_le _
  rw [show (U / a).succ = U / a + 1 from rfl, h4]
  omega
theorem qt_small {U a b c : Nat} (_ : 0 < a) (hc : c < 4294967296) (hU : U < a * 4294967296 + b) : qt U a b c < 4294967296 := by
  refine (Nat.div_lt_iff_lt_mul (by omega)).2 ?_
  have h1 : (U + 1) * 4294967296 ≤ (a * 4294967296 + b) * 4294967296 := Nat.mul_le_mul_right _ hU
  rw [Nat.mul_comm 4294967296]
  omega
def rt (U a b c : Nat) : Nat := (U * 4294967296 + c) % (a * 4294967296 + b)
theorem rt_lt {U a b c : Nat} (ha : 0 < a) : rt U a b c < a * 4294967296 + b := Nat.mod_lt _ (by omega)
theorem rt_wrap (U a b c Y : Nat) (hY : Y = a * 4294967296 + b) (hY2 : Y < 18446744073709551616) (ha : 0 < a) :
    IntKind.u64.wrap (IntKind.u64.wrap (IntKind.u64.wrap ((U : Int) * 4294967296) + c) - IntKind.u64.wrap ((qt U a b c : Int) * Y)) = (rt U a b c : Int) := by
  have h2 := rt_lt (U := U) (b := b) (c := c) ha
  have e1 : ((qt U a b c : Int) * Y) = ((qt U a b c * Y : Nat) : Int) := by simp
  rw [e1]
  have e2 : qt U a b c * Y + rt U a b c = U * 4294967296 + c := by
    unfold qt rt
    rw [← hY]
    exact Nat.div_add_mod' _ _
  generalize qt U a b c * Y = X at *
  simp only [IntKind.wrap_u64]
  omega
theorem two_core (B Y c d U T2 : Nat) (hT : T2 = (U * B + c) * B + d) (hY : 0 < Y) :
    ((U * B + c) / Y) * B + (((U * B + c) % Y) * B + d) / Y = T2 / Y ∧ (((U * B + c) % Y) * B + d) % Y = T2 % Y := by
  subst hT
  have k1 := Nat.div_add_mod (U * B + c) Y
  generalize (U * B + c) = M at *
  have k2 := Nat.div_add_mod (M % Y * B + d) Y
  have k3 := Nat.mod_lt (M % Y * B + d) hY
  have key : M * B + d = (M % Y * B + d) % Y + Y * (M / Y * B + (M % Y * B + d) / Y) := by
    have h1 : M * B = Y * (M / Y) * B + M % Y * B := by rw [← Nat.add_mul, k1]
    rw [Nat.mul_add, ← Nat.mul_assoc]
    omega
  constructor
  · rw [key, Nat.add_mul_div_left _ _ hY, Nat.div_eq_of_lt k3]
    omega
  · rw [key, Nat.add_mul_mod_self_left, Nat.mod_eq_of_lt k3]
theorem two_qt (T y s U L a b Y : Nat) (hT : T * 2 ^ s = (U * 4294967296 + L / 4294967296) * 4294967296 + L % 4294967296) (hY : Y = a * 4294967296 + b) (hy : y * 2 ^ s = Y) (ha : 0 < a) :
    qt U a b (L / 4294967296) * 4294967296 + qt (rt U a b (L / 4294967296)) a b (L % 4294967296) = T / y ∧ rt (rt U a b (L / 4294967296)) a b (L % 4294967296) / 2 ^ s = T % y := by
  have hP : 0 < 2 ^ s := Nat.two_pow_pos s
  have e1 : T / y = (T * 2 ^ s) / (y * 2 ^ s) := (Nat.mul_div_mul_right _ _ hP).symm
  have e2 : (T * 2 ^ s) % (y * 2 ^ s) = T % y * 2 ^ s := Nat.mul_mod_mul_right _ _ _
  rw [hy] at e1 e2
  obtain ⟨c1, c2⟩ := two_core 4294967296 Y (L / 4294967296) (L % 4294967296) U (T * 2 ^ s) hT (by omega)
  unfold qt rt
  rw [← hY, e1]
  refine ⟨c1, ?_⟩
  rw [c2, e2, Nat.mul_div_cancel _ hP]
end Go.Proofs.Ytfkeljolpcbbkaa

/- RootN -/
namespace Go.Proofs.Ytfkeljolpcbbkaa

def dq (n D : Nat) : Nat := n / D + (if D ≤ 2 * (n % D) then 1 else 0)

/-! The root, by steps from above -/
def isq : Nat → Nat
  | 0 => 0
  | n + 1 => if (isq n + 1) * (isq n + 1) ≤ n + 1 then isq n + 1 else isq n
theorem isq_spec : ∀ n, isq n * isq n ≤ n ∧ n < (isq n + 1) * (isq n + 1)
  | 0 => by simp [isq]
  | n + 1 => by
    obtain ⟨h1, h2⟩ := isq_spec n
    unfold isq
    split
    · rename_i h
      refine ⟨h, ?_⟩
      have : (isq n + 1 + 1) * (isq n + 1 + 1) = (isq n + 1) * (isq n + 1) + 2 * (isq n + 1) + 1 := by grind
      omega
    · rename_i h
      exact ⟨by omega, by omega⟩
theorem isq_uniq {n r : Nat} (h1 : r * r ≤ n) (h2 : n < (r + 1) * (r + 1)) : r = isq n := by
  obtain ⟨g1, g2⟩ := isq_spec n
  rcases Nat.lt_trichotomy r (isq n) with h | h | h
  · have := Nat.mul_le_mul (show r + 1 ≤ isq n from h) (show r + 1 ≤ isq n from h)
    omega
  · exact h
  · have := Nat.mul_le_mul (show isq n + 1 ≤ r from h) (show isq n + 1 ≤ r from h)
    omega
theorem isq_le {n x : Nat} (h : n < (x + 1) * (x + 1)) : isq n ≤ x := by
  obtain ⟨g1, _⟩ := isq_spec n
  rcases Nat.lt_or_ge x (isq n) with h2 | h2
  · have := Nat.mul_le_mul (show x + 1 ≤ isq n from h2) (show x + 1 ≤ isq n from h2)
    omega
  · exact h2
end Go.Proofs.Ytfkeljolpcbbkaa

/- Flag -/
namespace Go.Proofs.Ytfkeljolpcbbkaa
open Go.RowKit

structure Fl (p o : Nat) (h : Bool) (w : World) : Prop where
  cell : w.cell? ⟨p, o, none⟩ = some (.bool h)
  free : w.frozen? ⟨p, o, none⟩ = false
  lt : p < w.heap.size
structure FlW (p o : Nat) (h : Bool) (w w' : World) : Prop where
  out : Below w.heap.size (w.setCell ⟨p, o, none⟩ (.bool h)) w'

theorem size_set (w : World) (a : Addr) (v : Value) : (w.setCell a v).heap.size = w.heap.size := by simp [World.setCell]
theorem block_cell {w : World} {p o : Nat} {h : Value} (hc : w.cell? ⟨p, o, none⟩ = some h) : ∃ c t f, w.heap[p]? = some (.cells c t f) ∧ c[o]? = some h := by
  unfold World.cell? at hc
  split at hc
  · rename_i c t f hb
    exact ⟨c, t, f, hb, by simpa using hc⟩
  · cases hc
theorem set_block {w : World} {p o : Nat} {c : Array Value} {t : TypeId} {f : Nat × Nat} (hb : w.heap[p]? = some (.cells c t f)) (v : Value) : (w.setCell ⟨p, o, none⟩ v).heap[p]? = some (.cells (c.setIfInBounds o v) t f) := by
  simp [World.setCell, Array.getElem?_modify, hb]
theorem set_cell_same {w : World} {p o : Nat} {h : Value} (hc : w.cell? ⟨p, o, none⟩ = some h) (v : Value) : (w.setCell ⟨p, o, none⟩ v).cell? ⟨p, o, none⟩ = some v := by
  obtain ⟨c, t, f, hb, hget⟩ := block_cell hc
  have ho : o < c.size := by
    rcases Nat.lt_or_ge o c.size with h1 | h1
    · exact h1
    · rw [Array.getElem?_eq_none_iff.2 h1] at hget; cases hget
  unfold World.cell?
  rw [set_block hb v]
  simp [ho]
theorem set_cell_other {w : World} {p o b i : Nat} (hne : b ≠ p ∨ i ≠ o) (v : Value) : (w.setCell ⟨p, o, none⟩ v).cell? ⟨b, i, none⟩ = w.cell? ⟨b, i, none⟩ :=
  World.cell?_setCell_other _ _ _ _ (fun e => by have h1 := congrArg Addr.block e; have h2 := congrArg Addr.off e; simp at h1 h2; rcases hne with h | h <;> omega)
theorem set_frozen (w : World) (p o b i : Nat) (v : Value) : (w.setCell ⟨p, o, none⟩ v).frozen? ⟨b, i, none⟩ = w.frozen? ⟨b, i, none⟩ := by
  have := World.frozen?_setCells p [v] o w ⟨b, i, none⟩
  exact this

theorem FlW.size {p o : Nat} {h : Bool} {w w' : World} (k : FlW p o h w w') : w.heap.size ≤ w'.heap.size := by have := k.out.size; rwa [size_set] at this
theorem FlW.fl {p o : Nat} {h g : Bool} {w w' : World} (f : Fl p o g w) (k : FlW p o h w w') : Fl p o h w' :=
  ⟨by rw [k.out.cell (p := ⟨p, o, none⟩) f.lt]; exact set_cell_same f.cell _, by rw [k.out.frozen (p := ⟨p, o, none⟩) f.lt, set_frozen]; exact f.free, Nat.lt_of_lt_of_le f.lt k.size⟩
theorem FlW.cell {p o : Nat} {h : Bool} {w w' : World} (k : FlW p o h w w') {b i : Nat} (hb : b < w.heap.size) (hne : b ≠ p ∨ i ≠ o) : w'.cell? ⟨b, i, none⟩ = w.cell? ⟨b, i, none⟩ := by
  rw [k.out.cell (p := ⟨b, i, none⟩) hb]; exact set_cell_other hne _
theorem FlW.frozen {p o : Nat} {h : Bool} {w w' : World} (k : FlW p o h w w') {b i : Nat} (hb : b < w.heap.size) : w'.frozen? ⟨b, i, none⟩ = w.frozen? ⟨b, i, none⟩ := by
  rw [k.out.frozen (p := ⟨b, i, none⟩) hb]; exact set_frozen _ _ _ _ _ _
theorem FlW.block {p o : Nat} {h : Bool} {w w' : World} (k : FlW p o h w w') {b : Nat} (hb : b < w.heap.size) (hne : b ≠ p) : w'.heap[b]? = w.heap[b]? := by
  rw [k.out.block b hb, Below.heap_setCell _ _ _ _ hne]
theorem set_again (w : World) (p o : Nat) (u v : Value) (b : Nat) : ((w.setCell ⟨p, o, none⟩ u).setCell ⟨p, o, none⟩ v).heap[b]? = (w.setCell ⟨p, o, none⟩ v).heap[b]? := by
  by_cases h : b = p
  · subst h
    cases hb : w.heap[b]? with
    | none => simp [World.setCell, Array.getElem?_modify, hb]
    | some x => cases x <;> simp [World.setCell, Array.getElem?_modify, hb]
  · rw [Below.heap_setCell _ _ _ _ h, Below.heap_setCell _ _ _ _ h, Below.heap_setCell _ _ _ _ h]
theorem set_heap_congr {w w' : World} {p o : Nat} {v : Value} {b : Nat} (h : w'.heap[b]? = w.heap[b]?) : (w'.setCell ⟨p, o, none⟩ v).heap[b]? = (w.setCell ⟨p, o, none⟩ v).heap[b]? := by
  simp only [World.setCell, Array.getElem?_modify, h]
theorem FlW.set {p o : Nat} (h : Bool) (w : World) : FlW p o h w (w.setCell ⟨p, o, none⟩ (.bool h)) := ⟨Below.refl _ _⟩
theorem FlW.refl {p o : Nat} {h : Bool} {w : World} (f : Fl p o h w) : FlW p o h w w := by
  refine ⟨⟨rfl, rfl, rfl, by rw [size_set]; exact Nat.le_refl _, fun b hb => ?_⟩⟩
  by_cases hp : b = p
  · subst hp
    obtain ⟨c, t, fr, hbk, hget⟩ := block_cell f.cell
    rw [set_block hbk, hbk]
    congr 2
    refine Array.ext_getElem? fun i => ?_
    rw [Array.getElem?_setIfInBounds]
    split
    · rename_i e; subst e
      split
      · exact hget
      · rename_i hl; rw [Array.getElem?_eq_none_iff.2 (by omega)]
    · rfl
  · rw [Below.heap_setCell _ _ _ _ hp]
theorem FlW.then {p o : Nat} {h : Bool} {w w1 w2 : World} (k : FlW p o h w w1) (hb : Below w1.heap.size w1 w2) : FlW p o h w w2 := ⟨k.out.trans (hb.mono k.size)⟩
theorem FlW.trans {p o : Nat} {h g : Bool} {w w1 w2 : World} (k : FlW p o h w w1) (l : FlW p o g w1 w2) : FlW p o g w w2 := by
  refine ⟨⟨l.out.os.trans k.out.os, l.out.tape.trans k.out.tape, l.out.output.trans k.out.output, ?_, fun b hb => ?_⟩⟩
  · rw [size_set]; exact Nat.le_trans k.size l.size
  · rw [l.out.block b (Nat.lt_of_lt_of_le hb k.size), ← set_again w p o (.bool h) (.bool g) b]
    exact set_heap_congr (k.out.block b hb)
theorem FlW.after {p o : Nat} {h g : Bool} {w w1 w2 : World} (f : Fl p o g w) (hb : Below w.heap.size w w1) (l : FlW p o h w1 w2) : FlW p o h w w2 :=
  ((FlW.refl f).then hb).trans l
theorem FlW.below {p o N : Nat} {h : Bool} {w w' : World} (k : FlW p o h w w') (hN : N ≤ w.heap.size) (hp : N ≤ p) : Below N w w' :=
  ((Below.refl N w).setCell (p := ⟨p, o, none⟩) hp (.bool h)).trans (k.out.mono hN)
theorem FlW.alloc {p o : Nat} {h : Bool} {w w1 : World} (k : FlW p o h w w1) (x : Obj) : FlW p o h w (w1.alloc x) := k.then ((Below.refl _ _).alloc (Nat.le_refl _) _)
theorem FlW.drew {p o : Nat} {h : Bool} {w w1 : World} (k : FlW p o h w w1) : FlW p o h w w1.drew := ⟨k.out.drew⟩
theorem FlW.other {p o b i : Nat} {h : Bool} {w w1 : World} (k : FlW p o h w w1) (hb : w.heap.size ≤ b) (v : Value) : FlW p o h w (w1.setCell ⟨b, i, none⟩ v) := ⟨k.out.setCell (p := ⟨b, i, none⟩) hb v⟩
theorem Fl.below {p o : Nat} {h : Bool} {w w1 : World} (f : Fl p o h w) (hb : Below w.heap.size w w1) : Fl p o h w1 := FlW.fl f ((FlW.refl f).then hb)
theorem Fl.alloc {p o : Nat} {h : Bool} {w : World} (f : Fl p o h w) (x : Obj) : Fl p o h (w.alloc x) := f.below ((Below.refl _ _).alloc (Nat.le_refl _) _)
theorem Fl.drew {p o : Nat} {h : Bool} {w : World} (f : Fl p o h w) : Fl p o h w.drew := ⟨f.cell, f.free, f.lt⟩
theorem Fl.made (w : World) (t : TypeId) (h : Bool) : Fl w.heap.size 0 h (w.alloc (.cells #[.bool h] t)) := by
  have e : (w.alloc (.cells #[.bool h] t)).heap[w.heap.size]? = some (.cells #[.bool h] t (0, 0)) := heap_alloc_new w _
  exact ⟨by rw [cell_of_row _ _ _ _ _ _ e]; rfl, by unfold World.frozen?; rw [e]; rfl, by simp⟩
theorem Fl.made_at (w : World) (t : TypeId) (h : Bool) {B : Nat} (hB : w.heap.size = B) : Fl B 0 h (w.alloc (.cells #[.bool h] t)) := by subst hB; exact Fl.made w t h
abbrev FExt (p : Nat) (W w' : World) : Prop := (∀ b i, b ≠ p → b < W.heap.size → w'.cell? ⟨b, i, none⟩ = W.cell? ⟨b, i, none⟩) ∧ W.heap.size ≤ w'.heap.size
theorem FExt.start (p : Nat) (W : World) : FExt p W W.drew := ⟨fun _ _ _ _ => by simp, Nat.le_refl _⟩
theorem FExt.call {p : Nat} {W w1 w2 : World} (h : FExt p W w1) (hb : Below w1.heap.size w1 w2) : FExt p W w2 :=
  ⟨fun b i hne hlt => (hb.cell (p := ⟨b, i, none⟩) (Nat.lt_of_lt_of_le hlt h.2)).trans (h.1 b i hne hlt), Nat.le_trans h.2 hb.size⟩
theorem FExt.flag {p o : Nat} {g : Bool} {W w1 w2 : World} (h : FExt p W w1) (k : FlW p o g w1 w2) : FExt p W w2 :=
  ⟨fun b i hne hlt => (k.cell (Nat.lt_of_lt_of_le hlt h.2) (.inl hne)).trans (h.1 b i hne hlt), Nat.le_trans h.2 k.size⟩
end Go.Proofs.Ytfkeljolpcbbkaa

/- Mem -/
namespace Go.Proofs.Ytfkeljolpcbbkaa
open Go.RowKit

theorem cellAt {N b i : Nat} {w w' : World} (h : Below N w w') (hb : b < N) : w'.cell? ⟨b, i, none⟩ = w.cell? ⟨b, i, none⟩ := h.cell (p := ⟨b, i, none⟩) hb
theorem i64_id (x : Int) (h1 : -9223372036854775808 ≤ x) (h2 : x ≤ 9223372036854775807) : IntKind.i64.wrap x = x := by
  rw [IntKind.wrap_i64]; omega
theorem alloc_old {w : World} {B : Nat} {o : Obj} (h : w.heap[B]? = some o) (x : Obj) : (w.alloc x).heap[B]? = some o := by
  have hl : B < w.heap.size := by
    rcases Nat.lt_or_ge B w.heap.size with h1 | h1
    · exact h1
    · rw [Array.getElem?_eq_none_iff.2 h1] at h; cases h
  rw [Below.heap_alloc _ _ _ hl]; exact h
theorem size_alloc (w : World) (o : Obj) : (w.alloc o).heap.size = w.heap.size + 1 := by simp
structure Mem (w : World) (L : List (Nat × Nat × Value)) : Prop where
  all : ∀ x ∈ L, x.1 < w.heap.size ∧ w.cell? ⟨x.1, x.2.1, none⟩ = some x.2.2
def Blk (w : World) (B : Nat) (c : Array Value) (t : TypeId) : Prop := w.heap[B]? = some (.cells c t (0, 0))
theorem Blk.lt {w : World} {B : Nat} {c : Array Value} {t : TypeId} (h : Blk w B c t) : B < w.heap.size := by
  rcases Nat.lt_or_ge B w.heap.size with h1 | h1
  · exact h1
  · have := (Array.getElem?_eq_none_iff.2 h1).symm.trans h
    cases this
theorem Blk.made (w : World) (c : Array Value) (t : TypeId) {B : Nat} (hB : w.heap.size = B) : Blk (w.alloc (.cells c t)) B c t := by subst hB; exact heap_alloc_new w _
theorem Blk.below {w w' : World} {B N : Nat} {c : Array Value} {t : TypeId} (h : Blk w B c t) (hb : Below N w w') (hB : B < N) : Blk w' B c t := (hb.block _ hB).trans h
theorem Blk.call {w w' : World} {B : Nat} {c : Array Value} {t : TypeId} (h : Blk w B c t) (hb : Below w.heap.size w w') : Blk w' B c t := h.below hb h.lt
theorem Blk.flag {w w' : World} {B p o : Nat} {f : Bool} {c : Array Value} {t : TypeId} (h : Blk w B c t) (hp : B ≠ p) (k : FlW p o f w w') : Blk w' B c t := (k.block h.lt hp).trans h
theorem Blk.alloc {w : World} {B : Nat} {c : Array Value} {t : TypeId} (h : Blk w B c t) (o : Obj) : Blk (w.alloc o) B c t := alloc_old h o
theorem Blk.drew {w : World} {B : Nat} {c : Array Value} {t : TypeId} (h : Blk w B c t) : Blk w.drew B c t := h
theorem Blk.other {w : World} {B b i : Nat} {c : Array Value} {t : TypeId} (h : Blk w B c t) (hb : B ≠ b) (v : Value) : Blk (w.setCell ⟨b, i, none⟩ v) B c t := (Below.heap_setCell _ _ _ _ hb).trans h
theorem Blk.set {w : World} {B i : Nat} {c : Array Value} {t : TypeId} (h : Blk w B c t) (v : Value) : Blk (w.setCell ⟨B, i, none⟩ v) B (c.setIfInBounds i v) t := set_block h v
theorem Blk.cell {w : World} {B : Nat} {c : Array Value} {t : TypeId} (h : Blk w B c t) (i : Nat) : w.cell? ⟨B, i, none⟩ = c[i]? := cell_of_row _ _ _ _ _ _ h
theorem Blk.free {w : World} {B : Nat} {c : Array Value} {t : TypeId} (h : Blk w B c t) (i : Nat) : w.frozen? ⟨B, i, none⟩ = false := by
  unfold World.frozen?
  rw [show w.heap[B]? = _ from h]
  simp
end Go.Proofs.Ytfkeljolpcbbkaa
