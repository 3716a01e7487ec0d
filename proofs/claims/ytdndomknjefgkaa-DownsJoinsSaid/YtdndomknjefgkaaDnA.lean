/- Cut out of the chain: add_fx rnd_zero rnd0 Ints. -/
import Derived.Test.YtdndomknjefgkaaRgA
import Derived.Test.YtdndomknjefgkaaChecked
import Derived.Lib.Strings
import Derived.Lib.Slices
import Derived.Lib.Small
import Derived.Lib.Walk
import Derived.Lib.BitFns
import Derived.WalkKit
import Derived.WalkLawsBesides
import Derived.WalkSpells
import Derived.Laws.Rows
import Derived.Lib.Hide
import Derived.WalkSmall
import Derived.Laws.Bits64b
import Derived.Deep.MidRow
import Derived.Deep.QuietTactic
import Derived.BigQuiet
import Derived.StillTailTactics
import Derived.Deep.LoopGhost
import Derived.Deep.RegionHeld3
import Derived.Deep.RegionWith
import Derived.Deep.Cut
import Derived.Lib.Mul64
import Derived.Laws.Externs
import Derived.Laws.MathBits
import Derived.Deep.DeepCutAuto
import Derived.Deep.CutBlock
namespace Go.Proofs.Ytdndomknjefgkaa

end Go.Proofs.Ytdndomknjefgkaa

namespace Go.Proofs.Ytdndomknjefgkaa
open Go.RowKit

end Go.Proofs.Ytdndomknjefgkaa

namespace Go.Proofs.Ytdndomknjefgkaa

@[irreducible] def B8 : Nat := 4294967296 ^ 8
end Go.Proofs.Ytdndomknjefgkaa

namespace Go.Proofs.Ytdndomknjefgkaa
open Go.RowKit

def wh (v : Int) : Int := v / 18446744073709551616
def wl (v : Int) : Int := v % 18446744073709551616
abbrev Wv (v : Int) : Value := .agg #[.int .i64 (wh v), .int .u64 (wl v)]
structure InW (v : Int) : Prop where
  lo : -170141183460469231731687303715884105728 ≤ v
  hi : v < 170141183460469231731687303715884105728
theorem wl_lo (v : Int) : 0 ≤ wl v := by unfold wl; omega
theorem wl_hi (v : Int) : wl v < 18446744073709551616 := by unfold wl; omega
theorem wh_lo {v : Int} (h : InW v) : -9223372036854775808 ≤ wh v := by have := h.lo; unfold wh; omega
theorem wh_hi {v : Int} (h : InW v) : wh v ≤ 9223372036854775807 := by have := h.hi; unfold wh; omega
theorem wh_neg (v : Int) : wh v < 0 ↔ v < 0 := by unfold wh; omega
theorem ret_val {a b : Value} (h : a = b) : Ending.returned a = .returned b := by rw [h]
theorem ret_int {k : IntKind} {a b : Int} (h : a = b) : Ending.returned (.int k a) = .returned (.int k b) := by rw [h]
theorem agg2 {k l : IntKind} {a b c d : Int} (h1 : a = c) (h2 : b = d) : Value.agg #[.int k a, .int l b] = Value.agg #[.int k c, .int l d] := by rw [h1, h2]
theorem tuple2 {k l : IntKind} {a b c d : Int} (h1 : a = c) (h2 : b = d) : Ending.returned (.tuple #[.int k a, .int l b]) = Ending.returned (.tuple #[.int k c, .int l d]) := by rw [h1, h2]
theorem tupleb {k : IntKind} {a c : Int} {b d : Bool} (h1 : a = c) (h2 : b = d) : Ending.returned (.tuple #[.int k a, .bool b]) = Ending.returned (.tuple #[.int k c, .bool d]) := by rw [h1, h2]

def addLo (x y : Int) : Int := (x + y) % 18446744073709551616
def addHi (x y : Int) : Int := (x + y) / 18446744073709551616
def subLo (y : Int) : Int := (-y) % 18446744073709551616
def subBo (y : Int) : Int := (y + 18446744073709551615) / 18446744073709551616

def nneg (v : Int) : Int := if v = -170141183460469231731687303715884105728 then v else -v
theorem neg_hi {v : Int} (h : InW v) : wrap64 (wrap64 (-wh v) - wrap64 (subBo (wl v))) = wh (nneg v) := by
  have := h.lo; have := h.hi
  unfold wrap64 subBo nneg wh wl
  split <;> omega
theorem neg_lo (v : Int) : subLo (wl v) = wl (nneg v) := by
  unfold subLo nneg wl
  split <;> omega
theorem size_neg {v : Int} (h : InW v) (hn : v < 0) : IntKind.u64.wrap (wh (nneg v)) = wh v.natAbs ∧ wl (nneg v) = wl v.natAbs := by
  have := h.lo; have := h.hi
  simp only [IntKind.wrap_u64]
  unfold nneg wh wl
  split <;> constructor <;> omega
theorem size_pos {v : Int} (h : InW v) (hn : ¬ v < 0) : IntKind.u64.wrap (wh v) = wh v.natAbs ∧ wl v = wl v.natAbs := by
  have := h.lo; have := h.hi
  simp only [IntKind.wrap_u64]
  unfold wh wl
  constructor <;> omega

def sok (z : Int) : Bool := decide (-9223372036854775808 ≤ z) && decide (z ≤ 9223372036854775807)
def sval (z : Int) : Int := if sok z = true then z else 0
theorem sok_yes {z : Int} (h1 : -9223372036854775808 ≤ z) (h2 : z ≤ 9223372036854775807) : true = sok z ∧ z = sval z := by
  have : sok z = true := by unfold sok; simp [h1, h2]
  exact ⟨this.symm, by unfold sval; rw [if_pos this]⟩
theorem sok_no {z : Int} (h : z < -9223372036854775808 ∨ 9223372036854775807 < z) : false = sok z ∧ 0 = sval z := by
  have : sok z = false := by unfold sok; rcases h with h | h <;> simp <;> omega
  exact ⟨this.symm, by unfold sval; rw [if_neg (by rw [this]; simp)]⟩
def withSign (b : Bool) (n : Nat) : Int := if b = true then -(n : Int) else n
def cmpI (x y : Int) : Int := if x = y then 0 else if x < y then -1 else 1
end Go.Proofs.Ytdndomknjefgkaa

namespace Go.Proofs.Ytdndomknjefgkaa
open Go.RowKit
end Go.Proofs.Ytdndomknjefgkaa

namespace Go.Proofs.Ytdndomknjefgkaa
open Go.RowKit

theorem add64_run (x y : Int) (w : World) (hx : 0 ≤ x) (hy : 0 ≤ y) :
    (callFunc 51 #[.int .u64 x, .int .u64 y, .int .u64 0]).run Try.prog w = .ok (.value (.tuple #[.int .u64 (addLo x y), .int .u64 (addHi x y)])) w := by
  rw [run_callFunc_extern Try.func51 (by kernel_rfl) (by kernel_rfl) (by kernel_rfl) (e := add64Entry) (by kernel_rfl), run_add64 x y 0 hx hy (by omega) (by omega)]
  simp only [Result.andThen, Int.add_zero]
  rfl
def sub64Entry : Array Value → Sem Value := fun args => do
  let (x, y, b) ← Extern.MathBitsCarry.three "Sub64" args
  pure (Extern.MathBitsCarry.pair ((x + Extern.MathBitsCarry.m64 - y - b) % Extern.MathBitsCarry.m64) (if x < y + b then 1 else 0))
theorem run_sub64 (y : Nat) (w : World) (P : Program) :
    (sub64Entry #[.int .u64 0, .int .u64 y, .int .u64 0]).run P w = .ok (.tuple #[.int .u64 (((18446744073709551616 - y) % 18446744073709551616 : Nat) : Int), .int .u64 ((if 0 < y then 1 else 0 : Nat) : Int)]) w := by
  have : (sub64Entry #[.int .u64 0, .int .u64 y, .int .u64 0]).run P w = .ok (Extern.MathBitsCarry.pair ((0 + Extern.MathBitsCarry.m64 - y - 0) % Extern.MathBitsCarry.m64) (if 0 < y + 0 then 1 else 0)) w := rfl
  rw [this]
  simp only [Extern.MathBitsCarry.pair, Extern.MathBitsCarry.m64, Nat.zero_add, Nat.sub_zero, Nat.add_zero]
  rfl
theorem sub64_run (y : Int) (w : World) (h0 : 0 ≤ y) (h1 : y < 18446744073709551616) :
    (callFunc 62 #[.int .u64 0, .int .u64 y, .int .u64 0]).run Try.prog w = .ok (.value (.tuple #[.int .u64 (subLo y), .int .u64 (subBo y)])) w := by
  obtain ⟨n, rfl⟩ := Int.eq_ofNat_of_zero_le h0
  rw [run_callFunc_extern Try.func62 (by kernel_rfl) (by kernel_rfl) (by kernel_rfl) (e := sub64Entry) (by kernel_rfl), run_sub64]
  have e1 : (((18446744073709551616 - n) % 18446744073709551616 : Nat) : Int) = subLo n := by unfold subLo; omega
  have e2 : ((if 0 < n then 1 else 0 : Nat) : Int) = subBo n := by unfold subBo; split <;> omega
  rw [e1, e2]
  rfl

end Go.Proofs.Ytdndomknjefgkaa

namespace Go.Proofs.Ytdndomknjefgkaa

end Go.Proofs.Ytdndomknjefgkaa

namespace Go.Proofs.Ytdndomknjefgkaa
open Go.RowKit

theorem wof_any (a : Int) (w : World) (h1 : -9223372036854775808 ≤ a) (h2 : a ≤ 9223372036854775807) :
    Calls Try.prog 46 #[.int .i64 a] w fun e w' => e = .returned (Wv a) ∧ Below w.heap.size w w' := by
  go_enter Try.func46, Try.ntmps46
  go_wp2
  refine bodyPost_ret (v := Value.agg #[.int .i64 (a / 9223372036854775808), .int .u64 (IntKind.u64.wrap a)]) (by simp [results, Try.results46, go_sem]) rfl ⟨ret_val (agg2 ?_ ?_), (Below.refl _ _).alloc (Nat.le_refl _) _⟩
  · unfold wh; omega
  · unfold wl; exact IntKind.wrap_u64 a

theorem negate_any (v : Int) (w : World) (h : InW v) :
    Calls Try.prog 61 #[Wv v] w fun e w' => e = .returned (Wv (nneg v)) ∧ Below w.heap.size w w' := by
  have l1 := wh_lo h
  have l2 := wh_hi h
  have l3 := wl_lo v
  have l4 := wl_hi v
  have hs := fun w => sub64_run (wl v) w l3 l4
  go_enter Try.func61, Try.ntmps61
  go_wp2
  refine bodyPost_ret (v := Value.agg #[.int .i64 (wrap64 (wrap64 (-wh v) - wrap64 (subBo (wl v)))), .int .u64 (subLo (wl v))]) (by simp [results, Try.results61, go_sem]) rfl ⟨ret_val (agg2 (neg_hi h) (neg_lo v)), ((Below.refl _ _).alloc (Nat.le_refl _) _).alloc (by simp) _⟩

set_option maxHeartbeats 1000000 in
theorem wsize_any (v : Int) (w : World) (h : InW v) :
    Calls Try.prog 56 #[Wv v] w fun e w' => e = .returned (.tuple #[.int .u64 (wh v.natAbs), .int .u64 (wl v.natAbs)]) ∧ Below w.heap.size w w' := by
  by_cases hn : v < 0
  · have hn' : wh v < 0 := (wh_neg v).2 hn
    have HS := Lib.hid (size_neg h hn)
    clear hn
    go_enter Try.func56, Try.ntmps56
    go_wp2_with fail
    generalize hW : World.alloc w _ = W
    have e0 : W.heap[w.heap.size]? = some (.cells #[.int .i64 (wh v), .int .u64 (wl v)] 99 (0, 0)) := by subst hW; exact heap_alloc_new w _
    have hB : Below w.heap.size w W := by subst hW; exact (Below.refl _ _).alloc (Nat.le_refl _) _
    have hs : w.heap.size < W.heap.size := by subst hW; simp
    clear hW
    refine (negate_any v _ h).mono ?_
    rintro e w1 ⟨rfl, hb⟩
    have e1 := (hb.block _ hs).trans e0
    have a0 : w1.cell? ⟨w.heap.size, 0, none⟩ = some (.int .i64 (wh v)) := by rw [cell_of_row w1 _ _ _ _ _ e1]; rfl
    have a1 : w1.cell? ⟨w.heap.size, 1, none⟩ = some (.int .u64 (wl v)) := by rw [cell_of_row w1 _ _ _ _ _ e1]; rfl
    have g : ∀ o, w1.frozen? ⟨w.heap.size, o, none⟩ = false := fun o => by simp [World.frozen?, e1]
    have HB := hB.trans (hb.mono (Nat.le_of_lt hs))
    clear e0 e1 hb hB hs
    go_wp2
    go_quiet (fail)
    go_wp2
    go_ret2
    exact ⟨tuple2 HS.out.1 HS.out.2, below_drewN ((HB.setCell (Nat.le_refl _) _).setCell (Nat.le_refl _) _) _⟩
  · have hn' : ¬ wh v < 0 := fun x => hn ((wh_neg v).1 x)
    have HS := Lib.hid (size_pos h hn)
    clear hn
    go_enter Try.func56, Try.ntmps56
    go_wp2
    go_quiet (fail)
    go_wp2
    go_ret2
    exact ⟨tuple2 HS.out.1 HS.out.2, below_drewN ((Below.refl _ _).alloc (Nat.le_refl _) _) _⟩

set_option maxHeartbeats 1000000 in
theorem signed_any (n : Nat) (b : Bool) (w : World) (hn : n < 18446744073709551616) :
    Calls Try.prog 59 #[.int .u64 n, .bool b] w fun e w' => e = .returned (.tuple #[.int .i64 (sval (withSign b n)), .bool (sok (withSign b n))]) ∧ w = w' := by
  cases b
  · by_cases h1 : n ≤ 9223372036854775807
    · have h2 : (n : Int) ≤ 9223372036854775807 := by omega
      have HS := Lib.hid (sok_yes (z := withSign false n) (by unfold withSign; simp <;> omega) (by unfold withSign; simp <;> omega))
      go_enter Try.func59, Try.ntmps59
      go_wp2
      go_ret2
      exact ⟨tupleb ((by unfold withSign; simp : (n : Int) = withSign false n).trans HS.out.2) HS.out.1, rfl⟩
    · have h2 : ¬ (n : Int) ≤ 9223372036854775807 := by omega
      have HS := Lib.hid (sok_no (z := withSign false n) (.inr (by unfold withSign; simp <;> omega)))
      go_enter Try.func59, Try.ntmps59
      go_wp2
      go_ret2
      exact ⟨tupleb HS.out.2 HS.out.1, rfl⟩
  · by_cases h1 : n ≤ 9223372036854775808
    · have h2 : (n : Int) ≤ 9223372036854775808 := by omega
      have HS := Lib.hid (sok_yes (z := withSign true n) (by unfold withSign; simp <;> omega) (by unfold withSign; simp <;> omega))
      go_enter Try.func59, Try.ntmps59
      go_wp2
      go_ret2
      refine ⟨tupleb (Eq.trans ?_ HS.out.2) HS.out.1, rfl⟩
      unfold withSign wrap64
      simp
      omega
    · have h2 : ¬ (n : Int) ≤ 9223372036854775808 := by omega
      have HS := Lib.hid (sok_no (z := withSign true n) (.inl (by unfold withSign; simp <;> omega)))
      go_enter Try.func59, Try.ntmps59
      go_wp2
      go_ret2
      exact ⟨tupleb HS.out.2 HS.out.1, rfl⟩
end Go.Proofs.Ytdndomknjefgkaa

namespace Go.Proofs.Ytdndomknjefgkaa
open Go.RowKit

structure Le127 (n : Nat) : Prop where
  out : n ≤ 170141183460469231731687303715884105728
structure Lt128 (n : Nat) : Prop where
  out : n < 340282366920938463463374607431768211456
theorem wrap_lo (x : Int) : 0 ≤ IntKind.u64.wrap x := by rw [IntKind.wrap_u64]; omega
theorem half_hi (h l : Int) (s : Nat) (w : World) (h1 : 65 ≤ s) (h2 : s ≤ 126) :
    Calls Try.prog 57 #[.int .u64 h, .int .u64 l, .int .u64 s] w fun e w' => e = .returned (.tuple #[.int .u64 (IntKind.u64.wrap (h + IntKind.u64.wrap (2 ^ (s - 65)))), .int .u64 l]) ∧ w = w' := by
  have h3 : (64 : Int) < s := by omega
  go_enter Try.func57, Try.ntmps57
  go_wp2
  go_ret2
  exact ⟨rfl, rfl⟩
theorem half_lo (h l : Int) (s : Nat) (w : World) (h1 : 1 ≤ s) (h2 : s ≤ 64) (l3 : 0 ≤ l) :
    Calls Try.prog 57 #[.int .u64 h, .int .u64 l, .int .u64 s] w fun e w' => e = .returned (.tuple #[.int .u64 (IntKind.u64.wrap (h + addHi l (IntKind.u64.wrap (2 ^ (s - 1))))), .int .u64 (addLo l (IntKind.u64.wrap (2 ^ (s - 1))))]) ∧ w = w' := by
  have h3 : ¬ (64 : Int) < s := by omega
  have hx := fun w => add64_run l (IntKind.u64.wrap (2 ^ (s - 1))) w l3 (wrap_lo _)
  go_enter Try.func57, Try.ntmps57
  go_wp2
  go_ret2
  exact ⟨rfl, rfl⟩
theorem pow_int (k : Nat) : ((2 : Int) ^ k) = ((2 ^ k : Nat) : Int) := by simp
theorem pow_lt (k m : Nat) (h : k ≤ m) : 2 ^ k ≤ 2 ^ m := Nat.pow_le_pow_right (by omega) h
theorem half_any (n s : Nat) (w : World) (h1 : 1 ≤ s) (h2 : s ≤ 126) (hn : Le127 n) :
    Calls Try.prog 57 #[.int .u64 (wh n), .int .u64 (wl n), .int .u64 s] w fun e w' => e = .returned (.tuple #[.int .u64 (wh (n + 2 ^ (s - 1) : Nat)), .int .u64 (wl (n + 2 ^ (s - 1) : Nat))]) ∧ w = w' := by
  have hn' := hn.out
  have l3 := wl_lo n
  have l4 := wl_hi n
  have l5 : 0 ≤ wh n := by unfold wh; omega
  have l6 : wh n ≤ 9223372036854775808 := by unfold wh; omega
  by_cases hs : 65 ≤ s
  · refine (half_hi _ _ s w hs h2).mono fun e w' ⟨he, hw⟩ => ⟨he.trans (tuple2 ?_ ?_), hw⟩
    · have hp := pow_lt (s - 65) 61 (by omega)
      have e1 : 2 ^ (s - 1) = 2 ^ (s - 65) * 18446744073709551616 := by rw [show s - 1 = (s - 65) + 64 by omega, Nat.pow_add]
      rw [e1, pow_int]
      generalize 2 ^ (s - 65) = q at *
      simp only [IntKind.wrap_u64]
      unfold wh
      omega
    · have e1 : 2 ^ (s - 1) = 2 ^ (s - 65) * 18446744073709551616 := by rw [show s - 1 = (s - 65) + 64 by omega, Nat.pow_add]
      rw [e1]
      generalize 2 ^ (s - 65) = q at *
      unfold wl
      omega
  · refine (half_lo _ _ s w h1 (by omega) l3).mono fun e w' ⟨he, hw⟩ => ⟨he.trans (tuple2 ?_ ?_), hw⟩
    · have hp := pow_lt (s - 1) 63 (by omega)
      rw [pow_int]
      generalize 2 ^ (s - 1) = q at *
      simp only [IntKind.wrap_u64]
      unfold addHi wh wl
      omega
    · have hp := pow_lt (s - 1) 63 (by omega)
      rw [pow_int]
      generalize 2 ^ (s - 1) = q at *
      simp only [IntKind.wrap_u64]
      unfold addLo wl
      omega

theorem shr_hi (h l : Int) (s : Nat) (w : World) (h1 : 64 ≤ s) (h2 : s ≤ 127) :
    Calls Try.prog 58 #[.int .u64 h, .int .u64 l, .int .u64 s] w fun e w' => e = .returned (.tuple #[.int .u64 0, .int .u64 (h / 2 ^ (s - 64))]) ∧ w = w' := by
  have h3 : (64 : Int) ≤ s := by omega
  go_enter Try.func58, Try.ntmps58
  go_wp2
  go_ret2
  exact ⟨rfl, rfl⟩
theorem shr_lo (h l : Int) (s : Nat) (w : World) (h2 : s < 64) :
    Calls Try.prog 58 #[.int .u64 h, .int .u64 l, .int .u64 s] w fun e w' => e = .returned (.tuple #[.int .u64 (h / 2 ^ s), .int .u64 (bits .or .u64 (IntKind.u64.wrap (h * 2 ^ (64 - s))) (l / 2 ^ s))]) ∧ w = w' := by
  have h3 : ¬ (64 : Int) ≤ s := by omega
  go_enter Try.func58, Try.ntmps58
  go_wp2
  go_ret2
  exact ⟨rfl, rfl⟩
theorem or_parts (a b k : Nat) (ha : a < 18446744073709551616) (hb : b < 2 ^ k) (hk : k ≤ 64) (hd : a % 2 ^ k = 0) : bits .or .u64 (a : Int) (b : Int) = ((a + b : Nat) : Int) := by
  have hb2 : b < 18446744073709551616 := Nat.lt_of_lt_of_le hb (pow_lt k 64 hk)
  rw [bits_or_u64_nat a b ha hb2, nat_join k a b hd hb]
theorem div_pow_int (a k : Nat) : ((a : Int) / 2 ^ k) = ((a / 2 ^ k : Nat) : Int) := by simp
theorem whN (n : Nat) : wh n = ((n / 18446744073709551616 : Nat) : Int) := by unfold wh; omega
theorem wlN (n : Nat) : wl n = ((n % 18446744073709551616 : Nat) : Int) := by unfold wl; omega
theorem shr_any (n s : Nat) (w : World) (h2 : s ≤ 127) (hn : Lt128 n) :
    Calls Try.prog 58 #[.int .u64 (wh n), .int .u64 (wl n), .int .u64 s] w fun e w' => e = .returned (.tuple #[.int .u64 (wh (n / 2 ^ s : Nat)), .int .u64 (wl (n / 2 ^ s : Nat))]) ∧ w = w' := by
  have hn' := hn.out
  have hq : n / 18446744073709551616 < 18446744073709551616 := by omega
  by_cases hs : 64 ≤ s
  · have e1 : n / 2 ^ s = n / 18446744073709551616 / 2 ^ (s - 64) := by
      rw [Nat.div_div_eq_div_mul, show (18446744073709551616 : Nat) = 2 ^ 64 by decide, ← Nat.pow_add, show 64 + (s - 64) = s by omega]
    have hlt : n / 18446744073709551616 / 2 ^ (s - 64) < 18446744073709551616 := Nat.lt_of_le_of_lt (Nat.div_le_self _ _) hq
    refine (shr_hi _ _ s w hs h2).mono fun e w' ⟨he, hw⟩ => ⟨he.trans (tuple2 ?_ ?_), hw⟩
    · rw [e1, whN, Nat.div_eq_of_lt hlt]; rfl
    · rw [e1, wlN, whN, Nat.mod_eq_of_lt hlt, div_pow_int]
  · refine (shr_lo _ _ s w (by omega)).mono fun e w' ⟨he, hw⟩ => ⟨he.trans (tuple2 ?_ ?_), hw⟩
    · rw [whN, whN, div_pow_int, Nat.div_div_eq_div_mul, Nat.div_div_eq_div_mul, Nat.mul_comm]
    · have hP : 0 < 2 ^ s := Nat.two_pow_pos s
      have hPQ : 2 ^ s * 2 ^ (64 - s) = 18446744073709551616 := by rw [← Nat.pow_add, show s + (64 - s) = 64 by omega]
      have eh : IntKind.u64.wrap (wh n * 2 ^ (64 - s)) = ((n / 18446744073709551616 * 2 ^ (64 - s) % 18446744073709551616 : Nat) : Int) := by
        rw [IntKind.wrap_u64, whN, pow_int, ← Int.natCast_mul]; omega
      rw [eh, wlN, wlN, div_pow_int, or_parts _ _ (64 - s) (Nat.mod_lt _ (by omega)) ?_ (by omega) ?_]
      · congr 1
        have e2 : n = n % 18446744073709551616 + 2 ^ s * (2 ^ (64 - s) * (n / 18446744073709551616)) := by rw [← Nat.mul_assoc, hPQ]; omega
        have e3 : n / 2 ^ s = n % 18446744073709551616 / 2 ^ s + 2 ^ (64 - s) * (n / 18446744073709551616) := by
          rw [show n / 2 ^ s = (n % 18446744073709551616 + 2 ^ s * (2 ^ (64 - s) * (n / 18446744073709551616))) / 2 ^ s by rw [← e2], Nat.add_mul_div_left _ _ hP]
        have hlo : n % 18446744073709551616 / 2 ^ s < 2 ^ (64 - s) := by
          refine (Nat.div_lt_iff_lt_mul hP).2 ?_
          rw [Nat.mul_comm, hPQ]; omega
        have hd : (n / 18446744073709551616 * 2 ^ (64 - s) % 18446744073709551616) % 2 ^ (64 - s) = 0 := by
          rw [Nat.mod_mod_of_dvd _ ⟨2 ^ s, by rw [Nat.mul_comm, hPQ]⟩]; exact Nat.mul_mod_left _ _
        rw [e3, Nat.mul_comm (2 ^ (64 - s))]
        generalize n / 18446744073709551616 * 2 ^ (64 - s) = X at *
        generalize n % 18446744073709551616 / 2 ^ s = Y at *
        have hm : X % 18446744073709551616 + Y < 18446744073709551616 := by
          have d1 : X % 18446744073709551616 ≤ 18446744073709551616 - 2 ^ (64 - s) := by
            have h3 := Nat.mod_lt X (show 0 < 18446744073709551616 by omega)
            obtain ⟨c, hc⟩ := Nat.dvd_of_mod_eq_zero hd
            rw [hc] at h3 ⊢
            have h4 : 2 ^ (64 - s) * c < 2 ^ (64 - s) * 2 ^ s := by rw [Nat.mul_comm _ (2 ^ s), hPQ]; exact h3
            have h5 : c < 2 ^ s := Nat.lt_of_mul_lt_mul_left h4
            have h6 : 2 ^ (64 - s) * (c + 1) ≤ 2 ^ (64 - s) * 2 ^ s := Nat.mul_le_mul_left _ h5
            rw [Nat.mul_comm _ (2 ^ s), hPQ, Nat.mul_add] at h6
            omega
          have : 2 ^ (64 - s) ≤ 18446744073709551616 := pow_lt (64 - s) 64 (by omega)
          omega
        omega
      · refine (Nat.div_lt_iff_lt_mul hP).2 ?_
        rw [Nat.mul_comm, hPQ]; omega
      · rw [Nat.mod_mod_of_dvd _ ⟨2 ^ s, by rw [Nat.mul_comm, hPQ]⟩]; exact Nat.mul_mod_left _ _
end Go.Proofs.Ytdndomknjefgkaa

namespace Go.Proofs.Ytdndomknjefgkaa
open Go.RowKit

def halfOf (s : Nat) : Nat := if s = 0 then 0 else 2 ^ (s - 1)
def rq (n s : Nat) : Nat := (n + halfOf s) / 2 ^ s
theorem abs127 {v : Int} (h : InW v) : Le127 v.natAbs := ⟨by have := h.lo; have := h.hi; omega⟩
theorem abs128 {v : Int} (h : InW v) (s : Nat) (hs : s ≤ 126) : Lt128 (v.natAbs + halfOf s) := ⟨by
  have := (abs127 h).out
  have : halfOf s ≤ 85070591730234615865843651857942052864 := by
    unfold halfOf
    split
    · omega
    · exact pow_lt (s - 1) 126 (by omega)
  omega⟩
theorem signed_at (x : Int) (n : Nat) (b : Bool) (w : World) (hx : x = n) (hn : n < 18446744073709551616) :
    Calls Try.prog 59 #[.int .u64 x, .bool b] w fun e w' => e = .returned (.tuple #[.int .i64 (sval (withSign b n)), .bool (sok (withSign b n))]) ∧ w = w' := by
  subst hx; exact signed_any n b w hn

theorem round_end (q : Nat) (hq : q < 18446744073709551616) : wh q = 0 ∧ wl q = q := by unfold wh wl; omega
theorem sign_wh (v : Int) (q : Nat) : withSign (decide (wh v < 0)) q = withSign (decide (v < 0)) q := by
  rw [decide_eq_decide.2 (wh_neg v)]
set_option maxHeartbeats 2000000 in
theorem round_any (v : Int) (s : Nat) (w : World) (h : InW v) (hs : s ≤ 126) :
    Calls Try.prog 53 #[Wv v, .int .i64 s] w fun e w' => e = .returned (.tuple #[.int .i64 (sval (withSign (decide (v < 0)) (rq v.natAbs s))), .bool (sok (withSign (decide (v < 0)) (rq v.natAbs s)))]) ∧ Below w.heap.size w w' := by
  have g1 : ¬ (s : Int) < 0 := by omega
  have g2 : ¬ (126 : Int) < s := by omega
  have g3 : (0 : Int) ≤ s := by omega
  have l127 := abs127 h
  have l128 := abs128 h s hs
  have hs127 : s ≤ 127 := by omega
  go_enter Try.func53, Try.ntmps53
  go_wp2_with fail
  generalize hW : World.alloc w _ = W
  have e0 : W.heap[w.heap.size]? = some (.cells #[.int .i64 (wh v), .int .u64 (wl v)] 99 (0, 0)) := by subst hW; exact heap_alloc_new w _
  have hB : Below w.heap.size w W := by subst hW; exact (Below.refl _ _).alloc (Nat.le_refl _) _
  have hw : w.heap.size < W.heap.size := by subst hW; simp
  clear hW
  refine (wsize_any v _ h).mono ?_
  rintro e w1 ⟨rfl, hb⟩
  have e1 := (hb.block _ hw).trans e0
  have a0 : w1.cell? ⟨w.heap.size, 0, none⟩ = some (.int .i64 (wh v)) := by rw [cell_of_row w1 _ _ _ _ _ e1]; rfl
  have a1 : w1.cell? ⟨w.heap.size, 1, none⟩ = some (.int .u64 (wl v)) := by rw [cell_of_row w1 _ _ _ _ _ e1]; rfl
  have HB := hB.trans (hb.mono (Nat.le_of_lt hw))
  clear e0 e1 hb hB hw
  by_cases h0 : s = 0
  · have g4 : ¬ (0 : Int) < s := by omega
    have hrq : rq v.natAbs s = v.natAbs / 2 ^ s := by unfold rq halfOf; rw [if_pos h0]; rfl
    have HQ := Lib.hid hrq
    have hl : Lt128 v.natAbs := ⟨by have := l127.out; omega⟩
    clear hrq h0
    go_wp2_with fail
    refine (shr_any v.natAbs s _ hs127 hl).mono ?_
    rintro e w2 ⟨rfl, rfl⟩
    by_cases hq : rq v.natAbs s < 18446744073709551616
    · rw [← HQ.out]
      have HE := Lib.hid (round_end _ hq)
      have t1 : (wh (rq v.natAbs s) != 0) = false := by rw [HE.out.1]; rfl
      have HQ2 := Lib.hid hq
      clear hq
      go_wp2_with fail
      refine (signed_at _ _ _ _ HE.out.2 HQ2.out).mono ?_
      rintro e w3 ⟨rfl, rfl⟩
      rw [sign_wh]
      go_wp2_with fail
      go_ret2
      exact ⟨rfl, HB⟩
    · rw [← HQ.out]
      have t1 : (wh (rq v.natAbs s) != 0) = true := by rw [bne_iff_ne]; unfold wh; omega
      have HN := Lib.hid (sok_no (z := withSign (decide (v < 0)) (rq v.natAbs s)) (by unfold withSign; split <;> omega))
      clear hq
      go_wp2_with fail
      go_ret2
      exact ⟨tupleb HN.out.2 HN.out.1, HB⟩
  · have g4 : (0 : Int) < s := by omega
    have hs1 : 1 ≤ s := by omega
    have hho : halfOf s = 2 ^ (s - 1) := by unfold halfOf; rw [if_neg h0]
    have HH := Lib.hid hho
    clear hho h0
    go_wp2_with fail
    refine (half_any v.natAbs s _ hs1 hs l127).mono ?_
    rintro e w2 ⟨rfl, rfl⟩
    rw [← HH.out]
    go_wp2_with fail
    refine (shr_any (v.natAbs + halfOf s) s _ hs127 l128).mono ?_
    rintro e w2 ⟨rfl, rfl⟩
    by_cases hq : rq v.natAbs s < 18446744073709551616
    · have HE := Lib.hid (round_end _ hq)
      have t1 : (wh (rq v.natAbs s) != 0) = false := by rw [HE.out.1]; rfl
      have HQ2 := Lib.hid hq
      clear hq
      show _
      rw [show (v.natAbs + halfOf s) / 2 ^ s = rq v.natAbs s from rfl]
      go_wp2_with fail
      refine (signed_at _ _ _ _ HE.out.2 HQ2.out).mono ?_
      rintro e w3 ⟨rfl, rfl⟩
      rw [sign_wh]
      go_wp2_with fail
      go_ret2
      exact ⟨rfl, HB⟩
    · rw [show (v.natAbs + halfOf s) / 2 ^ s = rq v.natAbs s from rfl]
      have t1 : (wh (rq v.natAbs s) != 0) = true := by rw [bne_iff_ne]; unfold wh; omega
      have HN := Lib.hid (sok_no (z := withSign (decide (v < 0)) (rq v.natAbs s)) (by unfold withSign; split <;> omega))
      clear hq
      go_wp2_with fail
      go_ret2
      exact ⟨tupleb HN.out.2 HN.out.1, HB⟩
end Go.Proofs.Ytdndomknjefgkaa

namespace Go.Proofs.Ytdndomknjefgkaa
open Go.RowKit

theorem cmp_val (x y : Int) : cmpI x y = if wh x < wh y then -1 else if wh x = wh y then (if wl x < wl y then -1 else if wl x = wl y then 0 else 1) else 1 := by
  unfold cmpI wh wl
  repeat split
  all_goals omega
theorem wcmp_any (x y : Int) (w : World) :
    Calls Try.prog 60 #[Wv x, Wv y] w fun e w' => e = .returned (.int .i64 (cmpI x y)) ∧ Below w.heap.size w w' := by
  have HC := Lib.hid (cmp_val x y)
  by_cases h1 : wh x < wh y
  · go_enter Try.func60, Try.ntmps60
    go_wp2_with fail
    go_ret
    exact ⟨ret_int (by rw [HC.out, if_pos h1]), ((Below.refl _ _).alloc (Nat.le_refl _) _).alloc (by simp) _⟩
  · by_cases h2 : wh x = wh y
    · have t1 : (wh x == wh y) = true := by rw [beq_iff_eq]; exact h2
      have H2 := Lib.hid h2
      clear h2
      by_cases h3 : wl x < wl y
      · go_enter Try.func60, Try.ntmps60
        go_wp2_with fail
        go_ret
        exact ⟨ret_int (by rw [HC.out, if_neg (Int.not_lt.2 h1), if_pos H2.out, if_pos h3]), ((Below.refl _ _).alloc (Nat.le_refl _) _).alloc (by simp) _⟩
      · by_cases h4 : wl x = wl y
        · have t2 : (wl x == wl y) = true := by rw [beq_iff_eq]; exact h4
          have H4 := Lib.hid h4
          clear h4
          go_enter Try.func60, Try.ntmps60
          go_wp2_with fail
          go_ret
          exact ⟨ret_int (by rw [HC.out, if_neg (Int.not_lt.2 h1), if_pos H2.out, if_neg (Int.not_lt.2 h3), if_pos H4.out]), ((Below.refl _ _).alloc (Nat.le_refl _) _).alloc (by simp) _⟩
        · have t2 : (wl x == wl y) = false := by rw [beq_eq_false_iff_ne]; exact h4
          have H4 := Lib.hid h4
          clear h4
          go_enter Try.func60, Try.ntmps60
          go_wp2_with fail
          go_ret
          exact ⟨ret_int (by rw [HC.out, if_neg (Int.not_lt.2 h1), if_pos H2.out, if_neg (Int.not_lt.2 h3), if_neg H4.out]), ((Below.refl _ _).alloc (Nat.le_refl _) _).alloc (by simp) _⟩
    · have t1 : (wh x == wh y) = false := by rw [beq_eq_false_iff_ne]; exact h2
      have H2 := Lib.hid h2
      clear h2
      go_enter Try.func60, Try.ntmps60
      go_wp2_with fail
      go_ret
      exact ⟨ret_int (by rw [HC.out, if_neg (Int.not_lt.2 h1), if_neg H2.out]), ((Below.refl _ _).alloc (Nat.le_refl _) _).alloc (by simp) _⟩
end Go.Proofs.Ytdndomknjefgkaa

namespace Go.Proofs.Ytdndomknjefgkaa
open Go.RowKit

theorem bits_sign (x : BitVec 64) : IntKind.i64.wrap (x.toNat : Int) < 0 ↔ x.msb = true := by
  rw [BitVec.msb_eq_decide, IntKind.wrap_i64]
  have := x.isLt
  simp only [decide_eq_true_eq]
  omega
theorem msb_int (a : Int) (h1 : -9223372036854775808 ≤ a) (h2 : a ≤ 9223372036854775807) : (BitVec.ofInt 64 a).msb = decide (a < 0) := by
  rw [BitVec.msb_eq_decide, BitVec.toNat_ofInt]
  by_cases h : a < 0
  · rw [decide_eq_true h]; simp only [decide_eq_true_eq]; omega
  · rw [decide_eq_false h]; simp only [decide_eq_false_iff_not]; omega
theorem wrap_bv (x : BitVec 64) : BitVec.ofInt 64 (IntKind.i64.wrap (x.toNat : Int)) = x := by
  apply BitVec.eq_of_toNat_eq
  rw [BitVec.toNat_ofInt, IntKind.wrap_i64]
  have := x.isLt
  omega
theorem turned (p q n : Int) (p1 : -9223372036854775808 ≤ p) (p2 : p ≤ 9223372036854775807) (q1 : -9223372036854775808 ≤ q) (q2 : q ≤ 9223372036854775807) (n1 : -9223372036854775808 ≤ n) (n2 : n ≤ 9223372036854775807) :
    bits .and .i64 (bits .xor .i64 p n) (bits .xor .i64 q n) < 0 ↔ ((p < 0) ↔ ¬ n < 0) ∧ ((q < 0) ↔ ¬ n < 0) := by
  have e : bits .and .i64 (bits .xor .i64 p n) (bits .xor .i64 q n) = IntKind.i64.wrap (((BitVec.ofInt 64 p ^^^ BitVec.ofInt 64 n) &&& (BitVec.ofInt 64 q ^^^ BitVec.ofInt 64 n)).toNat : Int) := by
    show IntKind.i64.wrap ((BitVec.ofInt 64 (IntKind.i64.wrap ((BitVec.ofInt 64 p ^^^ BitVec.ofInt 64 n).toNat : Int)) &&& BitVec.ofInt 64 (IntKind.i64.wrap ((BitVec.ofInt 64 q ^^^ BitVec.ofInt 64 n).toNat : Int))).toNat : Int) = _
    rw [wrap_bv, wrap_bv]
  rw [e, bits_sign, BitVec.msb_and, BitVec.msb_xor, BitVec.msb_xor, msb_int p p1 p2, msb_int q q1 q2, msb_int n n1 n2]
  by_cases a : p < 0 <;> by_cases b : q < 0 <;> by_cases c : n < 0 <;> simp [a, b, c]

def nextHi (x y : Int) : Int := wrap64 (wrap64 (wh x + wh y) + wrap64 (addHi (wl x) (wl y)))
theorem next_lo (x y : Int) : addLo (wl x) (wl y) = wl (x + y) := by unfold addLo wl; omega
theorem next_hi {x y : Int} (hx : InW x) (hy : InW y) (hs : InW (x + y)) : nextHi x y = wh (x + y) := by
  have := hx.lo; have := hx.hi; have := hy.lo; have := hy.hi; have := hs.lo; have := hs.hi
  unfold nextHi wrap64 addHi wh wl
  omega
theorem next_bd (x y : Int) : -9223372036854775808 ≤ nextHi x y ∧ nextHi x y ≤ 9223372036854775807 := by unfold nextHi wrap64; omega
theorem next_ok {x y : Int} (hx : InW x) (hy : InW y) : bits .and .i64 (bits .xor .i64 (wh x) (nextHi x y)) (bits .xor .i64 (wh y) (nextHi x y)) < 0 ↔ ¬ InW (x + y) := by
  rw [turned _ _ _ (wh_lo hx) (wh_hi hx) (wh_lo hy) (wh_hi hy) (next_bd x y).1 (next_bd x y).2]
  have := hx.lo; have := hx.hi; have := hy.lo; have := hy.hi
  have e : InW (x + y) ↔ -170141183460469231731687303715884105728 ≤ x + y ∧ x + y < 170141183460469231731687303715884105728 := ⟨fun h => ⟨h.lo, h.hi⟩, fun h => ⟨h.1, h.2⟩⟩
  rw [e]
  unfold nextHi wrap64 addHi wh wl
  omega
def accum (xs : Nat → Int) : Nat → Int
  | 0 => 0
  | k + 1 => accum xs k + xs k
theorem inW_zero : InW 0 := ⟨by omega, by omega⟩
structure Holds (w : World) (b o n : Nat) (xs : Nat → Int) : Prop where
  hi : ∀ i, i < n → w.cell? ⟨b, o + i * 2, none⟩ = some (.int .i64 (wh (xs i)))
  lo : ∀ i, i < n → w.cell? ⟨b, o + i * 2 + 1, none⟩ = some (.int .u64 (wl (xs i)))
theorem heap_set2 {w : World} {B : Nat} {a b : Value} {t : TypeId} {fr : Nat × Nat} (h : w.heap[B]? = some (.cells #[a, b] t fr)) (x y : Value) : ((w.setCell ⟨B, 0, none⟩ x).setCell ⟨B, 1, none⟩ y).heap[B]? = some (.cells #[x, y] t fr) := by
  simp [World.setCell, Array.getElem?_modify, h]
def addRes (xs : Nat → Int) (n m : Nat) : Value := if m = n then .tuple #[Wv (accum xs n), .bool true] else .tuple #[.agg #[.int .i64 0, .int .u64 0], .bool false]
set_option maxHeartbeats 2000000 in
theorem wadd_any (b o n c m : Nat) (xs : Nat → Int) (w : World) (hn : n ≤ 9223372036854775807) (hb : b < w.heap.size) (hx : ∀ i, i < n → InW (xs i)) (hm : m ≤ n) (hok : ∀ k, k ≤ m → InW (accum xs k)) (hend : m = n ∨ ¬ InW (accum xs (m + 1))) (hc : Holds w b o n xs) :
    Calls Try.prog 45 #[.slice (some ⟨b, o, none⟩) n c] w fun e w' => e = .returned (addRes xs n m) ∧ Below w.heap.size w w' := by
  go_enter Try.func45, Try.ntmps45
  go_wp2
  go_loopw [12] (fun i wr => ∃ k : Nat, k ≤ m ∧ i = .int .i64 k ∧ wr.heap[w.heap.size]? = some (.cells #[.int .i64 0, .int .u64 0] 99 (0, 0)) ∧ wr.heap[w.heap.size + 1]? = some (.cells #[.int .i64 (wh (accum xs k)), .int .u64 (wl (accum xs k))] 99 (0, 0)) ∧ w.heap.size + 1 < wr.heap.size ∧ Below w.heap.size w wr) (fun i _ => n - (intOf i).toNat)
  case atStart =>
    refine ⟨0, Nat.zero_le _, rfl, ?_, ?_, by simp, ((Below.refl _ _).alloc (Nat.le_refl _) _).alloc (by simp) _⟩
    · exact heap_alloc2_old w _ _
    · exact heap_alloc2_new w _ _
  case round =>
    obtain ⟨k, hk, rfl, e0, e1, hz, hB⟩ := hrel
    have c0 : wr.cell? ⟨w.heap.size, 0, none⟩ = some (.int .i64 0) := by rw [cell_of_row wr _ _ _ _ _ e0]; rfl
    have c1 : wr.cell? ⟨w.heap.size, 1, none⟩ = some (.int .u64 0) := by rw [cell_of_row wr _ _ _ _ _ e0]; rfl
    have a0 : wr.cell? ⟨w.heap.size + 1, 0, none⟩ = some (.int .i64 (wh (accum xs k))) := by rw [cell_of_row wr _ _ _ _ _ e1]; rfl
    have a1 : wr.cell? ⟨w.heap.size + 1, 1, none⟩ = some (.int .u64 (wl (accum xs k))) := by rw [cell_of_row wr _ _ _ _ _ e1]; rfl
    have g : ∀ o, wr.frozen? ⟨w.heap.size + 1, o, none⟩ = false := fun o => by simp [World.frozen?, e1]
    have g0 : ∀ o, wr.frozen? ⟨w.heap.size, o, none⟩ = false := fun o => by simp [World.frozen?, e0]
    have E0 := Lib.hid e0
    have E1 := Lib.hid e1
    clear e0 e1
    have hz0 : w.heap.size < wr.heap.size := by omega
    have h0 : (0 : Int) ≤ k := by omega
    by_cases hlt : k < n
    · have b0 := (hB.cell (p := ⟨b, o + k * 2, none⟩) hb).trans (hc.hi k hlt)
      have b1 := (hB.cell (p := ⟨b, o + k * 2 + 1, none⟩) hb).trans (hc.lo k hlt)
      have hrun := fun w => add64_run (wl (accum xs k)) (wl (xs k)) w (wl_lo _) (wl_lo _)
      have h8 : (k : Int) < n := by omega
      have HX := Lib.hid (hx k hlt)
      have HK := Lib.hid (hok k hk)
      by_cases hkm : k < m
      · have H := Lib.hid (hok (k + 1) hkm)
        have ht := mt (next_ok HK.out HX.out).1 (fun f => f H.out)
        unfold nextHi at ht
        clear hok hx hc hend
        go_wp2
        go_roundw
        case rel =>
          refine ⟨k + 1, hkm, by go_num, ?_, ?_, ?_, ?_⟩
          · rw [Below.heap_alloc _ _ _ (by simp [World.setCell]; omega), Below.heap_alloc _ _ _ (by simp [World.setCell]; omega), Below.heap_setCell _ _ _ _ (by simp), Below.heap_setCell _ _ _ _ (by simp)]
            exact E0.out
          · rw [Below.heap_alloc _ _ _ (by simp [World.setCell]; omega), Below.heap_alloc _ _ _ (by simp [World.setCell]; omega), heap_set2 E1.out, next_lo]
            rw [show wrap64 (wrap64 (wh (accum xs k) + wh (xs k)) + wrap64 (addHi (wl (accum xs k)) (wl (xs k)))) = wh (accum xs (k + 1)) from next_hi HK.out HX.out H.out]
            rfl
          · simp [World.setCell]; omega
          · exact (((hB.setCell (Nat.le_add_right _ _) _).setCell (Nat.le_add_right _ _) _).alloc (by simp [World.setCell]; omega) _).alloc (by simp [World.setCell]; omega) _
        case measure => simp [intOf]; omega
      · obtain rfl : k = m := by omega
        have hne : ¬ k = n := by omega
        have H := Lib.hid (hend.resolve_left hne)
        have HR := Lib.hid (show addRes xs n k = .tuple #[.agg #[.int .i64 0, .int .u64 0], .bool false] by unfold addRes; rw [if_neg hne])
        have ht := (next_ok HK.out HX.out).2 H.out
        unfold nextHi at ht
        clear hok hx hc hend hne hm
        go_wp2
        rw [HR.out]
        exact bodyPost_ret (v := .tuple #[.agg #[.int .i64 0, .int .u64 0], .bool false]) (by simp [results, Try.results45, go_sem, c0, c1, hz0]) rfl ⟨rfl, (((hB.setCell (Nat.le_refl _) _).setCell (Nat.le_refl _) _).alloc (by simp [World.setCell]; omega) _).alloc (by simp [World.setCell]; omega) _⟩
    · obtain rfl : k = n := by omega
      obtain rfl : k = m := by omega
      have HR := Lib.hid (show addRes xs k k = .tuple #[Wv (accum xs k), .bool true] by unfold addRes; rw [if_pos rfl])
      clear hok hx hc hend hm
      go_wp2
      rw [HR.out]
      exact bodyPost_ret (v := .tuple #[Wv (accum xs k), .bool true]) (by simp [results, Try.results45, go_sem, c0, c1]) rfl ⟨rfl, (hB.setCell (Nat.le_refl _) _).setCell (Nat.le_refl _) _⟩
end Go.Proofs.Ytdndomknjefgkaa

namespace Go.Proofs.Ytdndomknjefgkaa
open Go.RowKit

end Go.Proofs.Ytdndomknjefgkaa

namespace Go.Proofs.Ytdndomknjefgkaa
open Go.RowKit

end Go.Proofs.Ytdndomknjefgkaa

namespace Go.Proofs.Ytdndomknjefgkaa

end Go.Proofs.Ytdndomknjefgkaa

namespace Go.Proofs.Ytdndomknjefgkaa
open Go.RowKit

end Go.Proofs.Ytdndomknjefgkaa

namespace Go.Proofs.Ytdndomknjefgkaa
open Go.RowKit

def satv (a : Int) : Int := if a < -1152921504606846976 then -1152921504606846976 else if 1152921504606846976 < a then 1152921504606846976 else a
def sath (a : Int) : Bool := decide (a < -1152921504606846976) || decide (1152921504606846976 < a)
theorem satv_lo (a : Int) : -1152921504606846976 ≤ satv a := by unfold satv; split <;> (try split) <;> omega
theorem satv_hi (a : Int) : satv a ≤ 1152921504606846976 := by unfold satv; split <;> (try split) <;> omega
theorem satv_under {a : Int} (h : a < -1152921504606846976) : satv a = -1152921504606846976 ∧ sath a = true := by
  unfold satv sath
  rw [if_pos h, decide_eq_true h]
  exact ⟨rfl, rfl⟩
theorem satv_over {a : Int} (h : 1152921504606846976 < a) : satv a = 1152921504606846976 ∧ sath a = true := by
  unfold satv sath
  rw [if_neg (by omega), if_pos h, decide_eq_true h]
  exact ⟨rfl, Bool.or_true _⟩
def clampv (a lo hi : Int) : Int := if hi < lo then lo else if a < lo then lo else if hi < a then hi else a
def clamph (a lo hi : Int) : Bool := decide (hi < lo) || decide (a < lo) || decide (hi < a)
theorem clamp_sat (a : Int) : clampv a (-1152921504606846976) 1152921504606846976 = satv a ∧ clamph a (-1152921504606846976) 1152921504606846976 = sath a := by
  unfold clampv clamph satv sath
  constructor
  · rw [if_neg (by omega)]
  · rw [decide_eq_false (by omega : ¬ (1152921504606846976 : Int) < -1152921504606846976)]; rfl

def rnd (v : Int) (s : Nat) : Int := withSign (decide (v < 0)) (rq v.natAbs s)
def sideOf (v : Int) : Int := cmpI v 0 * 1152921504606846976
theorem side_neg {v : Int} (h : v < 0) : sideOf v = -1152921504606846976 := by unfold sideOf cmpI; rw [if_neg (by omega), if_pos h]; omega
theorem side_pos {v : Int} (h : 0 < v) : sideOf v = 1152921504606846976 := by unfold sideOf cmpI; rw [if_neg (by omega), if_neg (by omega)]; omega
theorem rq_zero (s : Nat) : rq 0 s = 0 := by
  unfold rq halfOf
  split
  · rename_i h; subst h; rfl
  · rw [Nat.zero_add]
    exact Nat.div_eq_of_lt (Nat.pow_lt_pow_right (by omega) (by omega))
theorem sok_iff (z : Int) : sok z = true ↔ -9223372036854775808 ≤ z ∧ z ≤ 9223372036854775807 := by unfold sok; simp
theorem round_far {v : Int} {s : Nat} (h : sok (rnd v s) = false) : satv (rnd v s) = sideOf v ∧ sath (rnd v s) = true := by
  have h1 : ¬ (-9223372036854775808 ≤ rnd v s ∧ rnd v s ≤ 9223372036854775807) := fun h2 => by rw [(sok_iff _).2 h2] at h; cases h
  rcases Int.lt_trichotomy v 0 with hv | hv | hv
  · have e : rnd v s = -(rq v.natAbs s : Nat) := by unfold rnd withSign; rw [decide_eq_true hv]; rfl
    rw [side_neg hv]
    exact satv_under (by omega)
  · subst hv
    have e : rnd 0 s = 0 := by unfold rnd withSign; rw [show (0 : Int).natAbs = 0 from rfl, rq_zero]; rfl
    rw [e] at h1; omega
  · have e : rnd v s = (rq v.natAbs s : Nat) := by unfold rnd withSign; rw [decide_eq_false (by omega)]; rfl
    rw [side_pos hv]
    exact satv_over (by omega)
end Go.Proofs.Ytdndomknjefgkaa

namespace Go.Proofs.Ytdndomknjefgkaa
open Go.RowKit

end Go.Proofs.Ytdndomknjefgkaa

namespace Go.Proofs.Ytdndomknjefgkaa
open Go.RowKit

theorem wcmp_at (x y : Int) (V : Value) (w : World) (hV : V = Wv y) :
    Calls Try.prog 60 #[Wv x, V] w fun e w' => e = .returned (.int .i64 (cmpI x y)) ∧ Below w.heap.size w w' := by
  subst hV; exact wcmp_any x y w
end Go.Proofs.Ytdndomknjefgkaa

namespace Go.Proofs.Ytdndomknjefgkaa
open Go.RowKit

end Go.Proofs.Ytdndomknjefgkaa

namespace Go.Proofs.Ytdndomknjefgkaa
open Go.RowKit

def pairF (x y : Int) (i : Nat) : Int := if i = 0 then x else y
theorem wadd_two (b : Nat) (x y : Int) (w : World) (hb : b < w.heap.size) (hx : InW x) (hy : InW y) (hs : InW (x + y))
    (h0 : w.cell? ⟨b, 0, none⟩ = some (.int .i64 (wh x))) (h1 : w.cell? ⟨b, 1, none⟩ = some (.int .u64 (wl x))) (h2 : w.cell? ⟨b, 2, none⟩ = some (.int .i64 (wh y))) (h3 : w.cell? ⟨b, 3, none⟩ = some (.int .u64 (wl y))) :
    Calls Try.prog 45 #[.slice (some ⟨b, 0, none⟩) 2 2] w fun e w' => e = .returned (.tuple #[Wv (x + y), .bool true]) ∧ Below w.heap.size w w' := by
  have e0 : accum (pairF x y) 0 = 0 := rfl
  have e1 : accum (pairF x y) 1 = x := by show 0 + x = x; omega
  have e2 : accum (pairF x y) 2 = x + y := by show accum (pairF x y) 1 + y = _; rw [e1]
  have hin : ∀ k, k ≤ 2 → InW (accum (pairF x y) k) := fun k hk => by
    match k, hk with
    | 0, _ => rw [e0]; exact inW_zero
    | 1, _ => rw [e1]; exact hx
    | 2, _ => rw [e2]; exact hs
  have htw : ∀ i, i < 2 → InW (pairF x y i) := fun i hi => by
    match i, hi with
    | 0, _ => exact hx
    | 1, _ => exact hy
  have hc : Holds w b 0 2 (pairF x y) := ⟨fun i hi => by
    match i, hi with
    | 0, _ => exact h0
    | 1, _ => exact h2, fun i hi => by
    match i, hi with
    | 0, _ => exact h1
    | 1, _ => exact h3⟩
  refine (wadd_any b 0 2 2 2 (pairF x y) w (by decide) hb htw (Nat.le_refl _) hin (.inl rfl) hc).mono fun e w' ⟨he, hb'⟩ => ⟨he.trans (ret_val ?_), hb'⟩
  rw [show addRes (pairF x y) 2 2 = .tuple #[Wv (accum (pairF x y) 2), .bool true] from rfl, e2]
theorem two_cells (w : World) (x y : Int) (t : TypeId) : let W := w.alloc (.cells #[.int .i64 (wh x), .int .u64 (wl x), .int .i64 (wh y), .int .u64 (wl y)] t)
    W.cell? ⟨w.heap.size, 0, none⟩ = some (.int .i64 (wh x)) ∧ W.cell? ⟨w.heap.size, 1, none⟩ = some (.int .u64 (wl x)) ∧ W.cell? ⟨w.heap.size, 2, none⟩ = some (.int .i64 (wh y)) ∧ W.cell? ⟨w.heap.size, 3, none⟩ = some (.int .u64 (wl y)) := by
  intro W
  have h : W.heap[w.heap.size]? = some (.cells #[.int .i64 (wh x), .int .u64 (wl x), .int .i64 (wh y), .int .u64 (wl y)] t (0, 0)) := heap_alloc_new w _
  exact ⟨by rw [cell_of_row W _ _ _ _ _ h]; rfl, by rw [cell_of_row W _ _ _ _ _ h]; rfl, by rw [cell_of_row W _ _ _ _ _ h]; rfl, by rw [cell_of_row W _ _ _ _ _ h]; rfl⟩
theorem wadd_made (N : Nat) (t : TypeId) (x y : Int) (w : World) (hN : w.heap.size = N) (hx : InW x) (hy : InW y) (hs : InW (x + y)) :
    Calls Try.prog 45 #[.slice (some ⟨N, 0, none⟩) 2 2] (w.alloc (.cells #[.int .i64 (wh x), .int .u64 (wl x), .int .i64 (wh y), .int .u64 (wl y)] t)) fun e w' => e = .returned (.tuple #[Wv (x + y), .bool true]) ∧ Below w.heap.size w w' := by
  subst hN
  obtain ⟨h0, h1, h2, h3⟩ := two_cells w x y t
  refine (wadd_two w.heap.size x y _ (by simp) hx hy hs h0 h1 h2 h3).mono fun e w' ⟨he, hb⟩ => ⟨he, ?_⟩
  exact ((Below.refl _ _).alloc (Nat.le_refl _) _).trans (hb.mono (by simp))
end Go.Proofs.Ytdndomknjefgkaa

namespace Go.Proofs.Ytdndomknjefgkaa
open Go.RowKit

theorem flag_or {p o : Nat} {g h : Bool} {w w' : World} (hh : h = true) (k : FlW p o true w w') : FlW p o (g || h) w w' := by subst hh; rw [Bool.or_true]; exact k
theorem flag_keep {p o : Nat} {g h : Bool} {w w' : World} (hh : h = false) (k : FlW p o g w w') : FlW p o (g || h) w w' := by subst hh; rw [Bool.or_false]; exact k
theorem clamp_any (p o : Nat) (a lo hi : Int) (h : Bool) (w : World) (f : Fl p o h w) :
    Calls Try.prog 52 #[.pointer (some ⟨p, o, none⟩), .int .i64 a, .int .i64 lo, .int .i64 hi] w fun e w' => e = .returned (.int .i64 (clampv a lo hi)) ∧ FlW p o (h || clamph a lo hi) w w' := by
  obtain ⟨fc, ff, fl⟩ := f
  have f : Fl p o h w := ⟨fc, ff, fl⟩
  by_cases h1 : hi < lo
  · have HV := Lib.hid (show clampv a lo hi = lo ∧ clamph a lo hi = true by unfold clampv clamph; rw [if_pos h1, decide_eq_true h1]; exact ⟨rfl, rfl⟩)
    go_enter Try.func52, Try.ntmps52
    go_wp2
    go_ret
    exact ⟨ret_int HV.out.1.symm, flag_or HV.out.2 (FlW.set _ _)⟩
  · by_cases h2 : a < lo
    · have HV := Lib.hid (show clampv a lo hi = lo ∧ clamph a lo hi = true by unfold clampv clamph; rw [if_neg h1, if_pos h2, decide_eq_false h1, decide_eq_true h2]; exact ⟨rfl, rfl⟩)
      go_enter Try.func52, Try.ntmps52
      go_wp2
      go_ret
      exact ⟨ret_int HV.out.1.symm, flag_or HV.out.2 (FlW.set _ _)⟩
    · by_cases h3 : hi < a
      · have HV := Lib.hid (show clampv a lo hi = hi ∧ clamph a lo hi = true by unfold clampv clamph; rw [if_neg h1, if_neg h2, if_pos h3, decide_eq_false h1, decide_eq_false h2, decide_eq_true h3]; exact ⟨rfl, rfl⟩)
        go_enter Try.func52, Try.ntmps52
        go_wp2
        go_ret
        exact ⟨ret_int HV.out.1.symm, flag_or HV.out.2 (FlW.set _ _)⟩
      · have HV := Lib.hid (show clampv a lo hi = a ∧ clamph a lo hi = false by unfold clampv clamph; rw [if_neg h1, if_neg h2, if_neg h3, decide_eq_false h1, decide_eq_false h2, decide_eq_false h3]; exact ⟨rfl, rfl⟩)
        go_enter Try.func52, Try.ntmps52
        go_wp2
        go_ret
        exact ⟨ret_int HV.out.1.symm, flag_keep HV.out.2 (FlW.refl f)⟩
theorem clamp_max (p o : Nat) (a : Int) (h : Bool) (w : World) (f : Fl p o h w) :
    Calls Try.prog 52 #[.pointer (some ⟨p, o, none⟩), .int .i64 a, .int .i64 (-1152921504606846976), .int .i64 1152921504606846976] w fun e w' => e = .returned (.int .i64 (satv a)) ∧ FlW p o (h || sath a) w w' := by
  rw [← (clamp_sat a).1, ← (clamp_sat a).2]
  exact clamp_any p o a _ _ h w f
theorem sat_any (p o : Nat) (a : Int) (h : Bool) (w : World) (f : Fl p o h w) :
    Calls Try.prog 47 #[.pointer (some ⟨p, o, none⟩), .int .i64 a] w fun e w' => e = .returned (.int .i64 (satv a)) ∧ FlW p o (h || sath a) w w' := by
  go_enter Try.func47, Try.ntmps47
  go_wp2_with fail
  refine (clamp_max p o a h _ f).mono ?_
  rintro e w1 ⟨rfl, k⟩
  go_wp2_with fail
  go_ret
  exact ⟨rfl, k⟩
theorem sat_at (p o : Nat) (x a : Int) (h : Bool) (w : World) (f : Fl p o h w) (hx : x = a) :
    Calls Try.prog 47 #[.pointer (some ⟨p, o, none⟩), .int .i64 x] w fun e w' => e = .returned (.int .i64 (satv a)) ∧ FlW p o (h || sath a) w w' := by
  subst hx; exact sat_any p o x h w f
theorem cmp_bd (x y : Int) : -1 ≤ cmpI x y ∧ cmpI x y ≤ 1 := by unfold cmpI; repeat split <;> omega
theorem zero_Wv : Value.agg #[.int .i64 0, .int .u64 0] = Wv 0 := agg2 rfl rfl
theorem bound_any (p o : Nat) (v : Int) (h : Bool) (w : World) (f : Fl p o h w) (hv : InW v) :
    Calls Try.prog 54 #[.pointer (some ⟨p, o, none⟩), Wv v] w fun e w' => e = .returned (.int .i64 (sideOf v)) ∧ FlW p o true w w' := by
  obtain ⟨fc, ff, fl⟩ := f
  have l1 := wh_lo hv
  have l2 := wh_hi hv
  have l3 := wl_lo v
  have l4 := wl_hi v
  have c1 := (cmp_bd v 0).1
  have c2 := (cmp_bd v 0).2
  go_enter Try.func54, Try.ntmps54
  go_wp2_with fail
  refine (wcmp_at v 0 _ _ zero_Wv).mono ?_
  rintro e w1 ⟨rfl, hb⟩
  have hb2 := ((FlW.set (p := p) (o := o) true w).alloc _).then hb
  clear hb
  go_wp2_with fail
  go_ret
  exact ⟨rfl, hb2⟩
end Go.Proofs.Ytdndomknjefgkaa

namespace Go.Proofs.Ytdndomknjefgkaa
open Go.RowKit

theorem flag_is {p o : Nat} {g h : Bool} {w w' : World} (hh : h = g) (k : FlW p o h w w') : FlW p o g w w' := by subst hh; exact k
theorem box_at {w : World} {h l : Int} {t : TypeId} {B : Nat} (hB : w.heap.size = B) : (w.alloc (.cells #[.int .i64 h, .int .u64 l] t)).cell? ⟨B, 0, none⟩ = some (.int .i64 h) ∧ (w.alloc (.cells #[.int .i64 h, .int .u64 l] t)).cell? ⟨B, 1, none⟩ = some (.int .u64 l) := by
  subst hB
  have e := heap_alloc_new w (.cells #[.int .i64 h, .int .u64 l] t)
  exact ⟨by rw [cell_of_row _ _ _ _ _ _ e]; rfl, by rw [cell_of_row _ _ _ _ _ _ e]; rfl⟩
set_option maxHeartbeats 1000000 in
theorem round_fx (p o : Nat) (v : Int) (s : Nat) (h : Bool) (w : World) (f : Fl p o h w) (hv : InW v) (hs : s ≤ 126) :
    Calls Try.prog 48 #[.pointer (some ⟨p, o, none⟩), Wv v, .int .i64 s] w fun e w' => e = .returned (.int .i64 (satv (rnd v s))) ∧ FlW p o (h || sath (rnd v s)) w w' := by
  have hsv := show sok (rnd v s) = true → sval (rnd v s) = rnd v s from fun x => by unfold sval; rw [if_pos x]
  have HS := Lib.hid hsv
  clear hsv
  cases hk : sok (rnd v s)
  · have HF := Lib.hid (round_far hk)
    have HK := Lib.hid hk
    clear hk
    go_enter Try.func48, Try.ntmps48
    go_wp2_with fail
    generalize hW : World.alloc w _ = W
    obtain ⟨a0, a1⟩ : W.cell? ⟨w.heap.size, 0, none⟩ = some (.int .i64 (wh v)) ∧ W.cell? ⟨w.heap.size, 1, none⟩ = some (.int .u64 (wl v)) := by subst hW; exact box_at rfl
    have hz : w.heap.size < W.heap.size := by subst hW; simp
    have hB : Below w.heap.size w W := by subst hW; exact (Below.refl _ _).alloc (Nat.le_refl _) _
    clear hW
    refine (round_any v s _ hv hs).mono ?_
    rintro e w1 ⟨rfl, hb⟩
    rw [show withSign (decide (v < 0)) (rq v.natAbs s) = rnd v s from rfl, HK.out]
    have a0 := (hb.cell (p := ⟨w.heap.size, 0, none⟩) hz).trans a0
    have a1 := (hb.cell (p := ⟨w.heap.size, 1, none⟩) hz).trans a1
    have hB := hB.trans (hb.mono (Nat.le_of_lt hz))
    have f1 := f.below hB
    clear hb hz
    go_wp2_with fail
    refine (bound_any p o v h _ f1 hv).mono ?_
    rintro e w2 ⟨rfl, k⟩
    go_wp2_with fail
    go_ret
    exact ⟨ret_int HF.out.1.symm, flag_or HF.out.2 (((FlW.refl f).then hB).trans k)⟩
  · have hq := HS.out hk
    have HQ := Lib.hid hq
    have HK := Lib.hid hk
    clear hk hq
    go_enter Try.func48, Try.ntmps48
    go_wp2_with fail
    generalize hW : World.alloc w _ = W
    have hB : Below w.heap.size w W := by subst hW; exact (Below.refl _ _).alloc (Nat.le_refl _) _
    have hz : w.heap.size < W.heap.size := by subst hW; simp
    clear hW
    refine (round_any v s _ hv hs).mono ?_
    rintro e w1 ⟨rfl, hb⟩
    rw [show withSign (decide (v < 0)) (rq v.natAbs s) = rnd v s from rfl, HK.out]
    have hB := hB.trans (hb.mono (Nat.le_of_lt hz))
    have f1 := f.below hB
    clear hb hz
    go_wp2_with fail
    refine (sat_at p o _ (rnd v s) h _ f1 HQ.out).mono ?_
    rintro e w2 ⟨rfl, k⟩
    go_wp2_with fail
    go_ret
    exact ⟨rfl, ((FlW.refl f).then hB).trans k⟩
end Go.Proofs.Ytdndomknjefgkaa

namespace Go.Proofs.Ytdndomknjefgkaa
open Go.RowKit

end Go.Proofs.Ytdndomknjefgkaa

namespace Go.Proofs.Ytdndomknjefgkaa
open Go.RowKit

end Go.Proofs.Ytdndomknjefgkaa

namespace Go.Proofs.Ytdndomknjefgkaa
open Go.RowKit

def sumS (xs : Nat → Int) : Nat → Int
  | 0 => 0
  | k + 1 => sumS xs k + satv (xs k)
def anyS (xs : Nat → Int) : Nat → Bool
  | 0 => false
  | k + 1 => anyS xs k || sath (xs k)
theorem sumS_bd (xs : Nat → Int) (k : Nat) : -(1152921504606846976 * (k : Int)) ≤ sumS xs k ∧ sumS xs k ≤ 1152921504606846976 * (k : Int) := by
  induction k with
  | zero => simp [sumS]
  | succ k ih =>
    have h1 := satv_lo (xs k)
    have h2 := satv_hi (xs k)
    simp only [sumS]
    omega
theorem sumS_in (xs : Nat → Int) (k : Nat) (hk : k ≤ 9223372036854775807) : InW (sumS xs k) := by
  have := sumS_bd xs k
  exact ⟨by omega, by omega⟩
theorem satv_inW (a : Int) : InW (satv a) := by
  have h1 := satv_lo a
  have h2 := satv_hi a
  exact ⟨by omega, by omega⟩
theorem free_of_block {w : World} {B : Nat} {c : Array Value} {t : TypeId} (h : w.heap[B]? = some (.cells c t (0, 0))) (i : Nat) : w.frozen? ⟨B, i, none⟩ = false := by
  unfold World.frozen?
  rw [h]
  simp
set_option maxHeartbeats 2000000 in
theorem add_fx (p o : Nat) (b ob n c : Nat) (xs : Nat → Int) (h : Bool) (w : World) (f : Fl p o h w) (hn : n ≤ 9223372036854775807) (hb : b < w.heap.size) (hbp : b ≠ p) (hx : Ints w b ob n xs) :
    Calls Try.prog 37 #[.pointer (some ⟨p, o, none⟩), .slice (some ⟨b, ob, none⟩) n c] w fun e w' => e = .returned (.int .i64 (satv (rnd (sumS xs n) 0))) ∧ FlW p o (h || anyS xs n || sath (rnd (sumS xs n) 0)) w w' := by
  go_enter Try.func37, Try.ntmps37
  go_wp2
  go_loopw [10] (fun i wr => ∃ k : Nat, k ≤ n ∧ i = .int .i64 k ∧ FlW p o (h || anyS xs k) w wr ∧ w.heap.size < wr.heap.size ∧ wr.heap[w.heap.size]? = some (.cells #[.int .i64 (wh (sumS xs k)), .int .u64 (wl (sumS xs k))] 99 (0, 0))) (fun i _ => n - (intOf i).toNat)
  case atStart =>
    refine ⟨0, Nat.zero_le _, rfl, flag_is (by simp [anyS]) ((FlW.refl f).alloc _), by simp, heap_alloc_new w _⟩
  case round =>
    obtain ⟨k, hk, rfl, hF, hz, hc⟩ := hrel
    by_cases hlt : k < n
    · have hxk := (hF.cell (b := b) (i := ob + k) hb (.inl hbp)).trans (hx.at_ k hlt)
      have e0 : wr.cell? ⟨w.heap.size, 0, none⟩ = some (.int .i64 (wh (sumS xs k))) := by rw [cell_of_row wr _ _ _ _ _ hc]; rfl
      have e1 : wr.cell? ⟨w.heap.size, 1, none⟩ = some (.int .u64 (wl (sumS xs k))) := by rw [cell_of_row wr _ _ _ _ _ hc]; rfl
      have fr := hF.fl f
      have hRp : w.heap.size ≠ p := by have := f.lt; omega
      have l1 := satv_lo (xs k)
      have l2 := satv_hi (xs k)
      have hltI : (k : Int) < (n : Int) := by omega
      have hI1 := sumS_in xs k (by omega)
      have hI2 := satv_inW (xs k)
      have hI3 : InW (sumS xs k + satv (xs k)) := sumS_in xs (k + 1) (by omega)
      go_wp2_with fail
      go_region_with (first
        | (go_at_call 47; refine (sat_any p o (xs k) _ _ (by first | exact fr | exact fr.drew)).mono ?_; rintro e w4 ⟨rfl, kk⟩; have c0 := (kk.cell hz (.inl hRp)).trans e0; have c1 := (kk.cell hz (.inl hRp)).trans e1; have z4 := Nat.lt_of_lt_of_le hz kk.size; have b4 := (kk.block hz hRp).trans hc)
        | (go_at_call 46; refine (wof_any (satv (xs k)) _ (by omega) (by omega)).mono ?_; rintro e w5 ⟨rfl, hb5⟩; have d0 := (hb5.cell z4).trans c0; have d1 := (hb5.cell z4).trans c1; have z5 := Nat.lt_of_lt_of_le z4 hb5.size; have b5 := (hb5.block _ z4).trans b4)
        | (go_at_call 45; refine (wadd_made _ _ (sumS xs k) (satv (xs k)) _ rfl hI1 hI2 hI3).mono ?_; rintro e w6 ⟨rfl, hb6⟩; have g0 := (hb6.cell z5).trans d0; have g1 := (hb6.cell z5).trans d1; have z6 := Nat.lt_of_lt_of_le z5 hb6.size; have b6 := (hb6.block _ z5).trans b5; have m6 := ((kk.then hb5).then hb6); have r0 : w6.frozen? ⟨w.heap.size, 0, none⟩ = false := free_of_block b6 0; have r1 : w6.frozen? ⟨w.heap.size, 1, none⟩ = false := free_of_block b6 1))
      all_goals
        have HE := Lib.hid (show sumS xs k + satv (xs k) = sumS xs (k + 1) from rfl)
        go_wp2_with fail
        go_roundw
        case rel =>
          refine ⟨k + 1, by omega, by go_num, flag_is (by simp [anyS, Bool.or_assoc]) (((FlW.trans (by first | exact hF.drew | exact hF) m6).other (Nat.le_refl _) _).other (Nat.le_refl _) _), ?_, ?_⟩
          · rw [size_set, size_set]; exact z6
          · exact heap_set2 b6 _ _
        case measure => simp [intOf]; omega
    · have hge : ¬ (k : Int) < (n : Int) := by omega
      obtain rfl : k = n := by omega
      have e0 : wr.cell? ⟨w.heap.size, 0, none⟩ = some (.int .i64 (wh (sumS xs k))) := by rw [cell_of_row wr _ _ _ _ _ hc]; rfl
      have e1 : wr.cell? ⟨w.heap.size, 1, none⟩ = some (.int .u64 (wl (sumS xs k))) := by rw [cell_of_row wr _ _ _ _ _ hc]; rfl
      have fr := hF.fl f
      go_wp2_with fail
      refine (round_fx p o (sumS xs k) 0 _ _ fr (sumS_in xs k hn) (by omega)).mono ?_
      rintro e w7 ⟨rfl, kk⟩
      go_wp2_with fail
      go_ret
      exact ⟨rfl, hF.trans kk⟩
end Go.Proofs.Ytdndomknjefgkaa

