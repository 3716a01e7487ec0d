/- Numbers, memory, a flag; bits of 64. -/
import Derived.Test.YtdleeeahonfnkaaLen
import Derived.BigQuiet
import Derived.Deep.Cut
import Derived.Deep.LoopGhost
import Derived.Deep.MidRow
import Derived.Deep.QuietTactic
import Derived.Deep.RegionHeld3
import Derived.Deep.RegionWith
import Derived.Laws.Bits64b
import Derived.Laws.Externs
import Derived.Laws.MathBits
import Derived.Laws.Rows
import Derived.Lib.Hide
import Derived.Lib.Mul64
import Derived.StillTailTactics
import Derived.WalkKit
import Derived.WalkLawsBesides
import Derived.WalkSmall
import Derived.WalkSpells

/- Base -/
namespace Go.Proofs.Ytdleeeahonfnkaa
open Go.RowKit

/-- Digit i of n to the base 2^32. -/
def dg (n : Nat) (i : Nat) : Int := ((n / 4294967296 ^ i % 4294967296 : Nat) : Int)
theorem dg_lo (n i : Nat) : 0 ≤ dg n i := by unfold dg; omega
theorem dg_hi (n i : Nat) : dg n i ≤ 4294967295 := by unfold dg; omega
def row8 (f : Nat → Int) : Array Value := #[.int .u64 (f 0), .int .u64 (f 1), .int .u64 (f 2), .int .u64 (f 3), .int .u64 (f 4), .int .u64 (f 5), .int .u64 (f 6), .int .u64 (f 7)]
theorem row8_get (f : Nat → Int) (j : Nat) (h : j < 8) : (row8 f)[j]? = some (.int .u64 (f j)) := by
  match j, h with
  | 0, _ => rfl
  | 1, _ => rfl
  | 2, _ => rfl
  | 3, _ => rfl
  | 4, _ => rfl
  | 5, _ => rfl
  | 6, _ => rfl
  | 7, _ => rfl
theorem row8_congr (f g : Nat → Int) (h : ∀ j, j < 8 → f j = g j) : row8 f = row8 g := by
  unfold row8
  rw [h 0 (by omega), h 1 (by omega), h 2 (by omega), h 3 (by omega), h 4 (by omega), h 5 (by omega), h 6 (by omega), h 7 (by omega)]
/-- The block B holds eight numbers. -/
def Has8 (w : World) (t : TypeId) (B : Nat) (f : Nat → Int) : Prop := w.heap[B]? = some (.cells (row8 f) t (0, 0))
theorem Has8.cell {w : World} {t : TypeId} {B : Nat} {f : Nat → Int} (h : Has8 w t B f) (j : Nat) (hj : j < 8) : w.cell? ⟨B, j, none⟩ = some (.int .u64 (f j)) := by
  rw [cell_of_row w B j _ t _ h, row8_get f j hj]
theorem Has8.free {w : World} {t : TypeId} {B : Nat} {f : Nat → Int} (h : Has8 w t B f) (j : Nat) : w.frozen? ⟨B, j, none⟩ = false := by
  simp [World.frozen?, show w.heap[B]? = _ from h]
theorem Has8.drew {w : World} {t : TypeId} {B : Nat} {f : Nat → Int} (h : Has8 w t B f) : Has8 w.drew t B f := h
theorem Has8.drewN {w : World} {t : TypeId} {B n : Nat} {f : Nat → Int} (h : Has8 w t B f) : Has8 (w.drewN n) t B f := by
  induction n generalizing w with
  | zero => exact h
  | succ n ih => exact ih (w := w.drew) h
theorem Has8.lt {w : World} {t : TypeId} {B : Nat} {f : Nat → Int} (h : Has8 w t B f) : B < w.heap.size := by
  rcases Nat.lt_or_ge B w.heap.size with h1 | h1
  · exact h1
  · have := (Array.getElem?_eq_none_iff.2 h1).symm.trans h
    cases this
theorem Has8.alloc {w : World} {t : TypeId} {B : Nat} {f : Nat → Int} (h : Has8 w t B f) (o : Obj) : Has8 (w.alloc o) t B f := by
  unfold Has8
  rw [Below.heap_alloc w o B h.lt]; exact h
theorem Has8.made (w : World) (t : TypeId) (f : Nat → Int) : Has8 (w.alloc (.cells (row8 f) t)) t w.heap.size f := heap_alloc_new w _
theorem Has8.other {w : World} {t : TypeId} {B : Nat} {f : Nat → Int} (h : Has8 w t B f) {a : Addr} (ha : B ≠ a.block) (v : Value) : Has8 (w.setCell a v) t B f := by
  unfold Has8
  rw [Below.heap_setCell _ _ _ _ ha]; exact h
theorem Has8.below {w w' : World} {t : TypeId} {B N : Nat} {f : Nat → Int} (h : Has8 w t B f) (hb : Below N w w') (hB : B < N) : Has8 w' t B f := (hb.block B hB).trans h
theorem Has8.congr {w : World} {t : TypeId} {B : Nat} {f g : Nat → Int} (h : Has8 w t B f) (e : ∀ j, j < 8 → f j = g j) : Has8 w t B g := by
  unfold Has8 at *
  rw [h, row8_congr f g e]
def upd (f : Nat → Int) (k : Nat) (v : Int) : Nat → Int := fun j => if j = k then v else f j
theorem Has8.set {w : World} {t : TypeId} {B : Nat} {f : Nat → Int} (h : Has8 w t B f) (k : Nat) (hk : k < 8) (v : Int) : Has8 (w.setCell ⟨B, k, none⟩ (.int .u64 v)) t B (upd f k v) := by
  unfold Has8 World.setCell at *
  simp only [Array.getElem?_modify, if_pos, h, Option.map_some]
  match k, hk with
  | 0, _ => rfl
  | 1, _ => rfl
  | 2, _ => rfl
  | 3, _ => rfl
  | 4, _ => rfl
  | 5, _ => rfl
  | 6, _ => rfl
  | 7, _ => rfl
theorem Has8.cells {w : World} {t : TypeId} {B : Nat} {f : Nat → Int} (h : Has8 w t B f) :
    w.cell? ⟨B, 0, none⟩ = some (.int .u64 (f 0)) ∧ w.cell? ⟨B, 1, none⟩ = some (.int .u64 (f 1)) ∧ w.cell? ⟨B, 2, none⟩ = some (.int .u64 (f 2)) ∧ w.cell? ⟨B, 3, none⟩ = some (.int .u64 (f 3)) ∧
    w.cell? ⟨B, 4, none⟩ = some (.int .u64 (f 4)) ∧ w.cell? ⟨B, 5, none⟩ = some (.int .u64 (f 5)) ∧ w.cell? ⟨B, 6, none⟩ = some (.int .u64 (f 6)) ∧ w.cell? ⟨B, 7, none⟩ = some (.int .u64 (f 7)) :=
  ⟨h.cell 0 (by omega), h.cell 1 (by omega), h.cell 2 (by omega), h.cell 3 (by omega), h.cell 4 (by omega), h.cell 5 (by omega), h.cell 6 (by omega), h.cell 7 (by omega)⟩
theorem Has8.made_at (w : World) (t : TypeId) {B : Nat} (hB : w.heap.size = B) (f : Nat → Int) : Has8 (w.alloc (.cells (row8 f) t)) t B f := by subst hB; exact Has8.made w t f
theorem and_mask (x : Int) (h0 : 0 ≤ x) (h1 : x < 18446744073709551616) : bits .and .u64 x 4294967295 = x % 4294967296 := by
  obtain ⟨a, rfl⟩ := Int.eq_ofNat_of_zero_le h0
  have h := bits_and_u64_nat a 4294967295 (by omega) (by omega)
  have e : a &&& 4294967295 = a % 4294967296 := Nat.and_two_pow_sub_one_eq_mod a 32
  rw [e] at h
  exact h

abbrev A8 (n : Nat) : Value := .agg #[.int .u64 (dg n 0), .int .u64 (dg n 1), .int .u64 (dg n 2), .int .u64 (dg n 3), .int .u64 (dg n 4), .int .u64 (dg n 5), .int .u64 (dg n 6), .int .u64 (dg n 7)]
end Go.Proofs.Ytdleeeahonfnkaa

/- Num -/
namespace Go.Proofs.Ytdleeeahonfnkaa

/-! Adding -/
def cy (m n k : Nat) : Int := (((m % 4294967296 ^ k + n % 4294967296 ^ k) / 4294967296 ^ k : Nat) : Int)
theorem pow_pos32 (k : Nat) : 0 < 4294967296 ^ k := Nat.pow_pos (by omega)
theorem cy_zero (m n : Nat) : cy m n 0 = 0 := by unfold cy; simp [Nat.mod_one]
theorem cy_lo (m n k : Nat) : 0 ≤ cy m n k := Int.natCast_nonneg _
theorem cy_hi (m n k : Nat) : cy m n k ≤ 1 := by
  unfold cy
  have h1 := Nat.mod_lt m (pow_pos32 k)
  have h2 := Nat.mod_lt n (pow_pos32 k)
  have : (m % 4294967296 ^ k + n % 4294967296 ^ k) / 4294967296 ^ k < 2 := Nat.div_lt_of_lt_mul (by omega)
  omega
theorem add_step (m n k : Nat) : ((m % 4294967296 ^ k + n % 4294967296 ^ k) / 4294967296 ^ k + m / 4294967296 ^ k % 4294967296 + n / 4294967296 ^ k % 4294967296) / 4294967296 = (m % 4294967296 ^ (k + 1) + n % 4294967296 ^ (k + 1)) / 4294967296 ^ (k + 1) ∧
    ((m % 4294967296 ^ k + n % 4294967296 ^ k) / 4294967296 ^ k + m / 4294967296 ^ k % 4294967296 + n / 4294967296 ^ k % 4294967296) % 4294967296 = (m + n) / 4294967296 ^ k % 4294967296 := by
  have hP := pow_pos32 k
  rw [Nat.pow_succ]
  generalize 4294967296 ^ k = P at *
  constructor
  · rw [Nat.mod_mul, Nat.mod_mul, ← Nat.div_div_eq_div_mul]
    congr 1
    rw [show m % P + P * (m / P % 4294967296) + (n % P + P * (n / P % 4294967296)) = (m % P + n % P) + P * (m / P % 4294967296 + n / P % 4294967296) by rw [Nat.mul_add]; omega, Nat.add_mul_div_left _ _ hP]
    omega
  · have e : (m + n) / P = (m % P + n % P) / P + (m / P + n / P) := by
      have e0 : m + n = (m % P + n % P) + P * (m / P + n / P) := by
        have := Nat.mod_add_div m P; have := Nat.mod_add_div n P; rw [Nat.mul_add]; omega
      rw [show (m + n) / P = ((m % P + n % P) + P * (m / P + n / P)) / P by rw [← e0], Nat.add_mul_div_left _ _ hP]
    rw [e]
    omega
theorem add_dg (m n k : Nat) : (cy m n k + dg m k + dg n k) % 4294967296 = dg (m + n) k := by
  have := (add_step m n k).2
  unfold cy dg; omega
theorem add_cy (m n k : Nat) : (cy m n k + dg m k + dg n k) / 4294967296 = cy m n (k + 1) := by
  have := (add_step m n k).1
  unfold cy dg; omega
def mix (f g : Nat → Int) (k j : Nat) : Int := if j < k then f j else g j
theorem mix_at (f g : Nat → Int) (k : Nat) : mix f g k k = g k := by simp [mix]
theorem mix_zero (f g : Nat → Int) (j : Nat) : mix f g 0 j = g j := by simp [mix]
theorem mix_all (f g : Nat → Int) (k j : Nat) (h : j < k) : mix f g k j = f j := by simp [mix, h]
theorem mix_upd (f g : Nat → Int) (k j : Nat) : upd (mix f g k) k (f k) j = mix f g (k + 1) j := by
  unfold upd mix
  by_cases h : j = k
  · subst h; simp
  · rw [if_neg h]
    by_cases h2 : j < k
    · rw [if_pos h2, if_pos (by omega)]
    · rw [if_neg h2, if_neg (by omega)]

/-! Taking away: the borrow is 1 or 0 -/
def bw (m n k : Nat) : Int := if m % 4294967296 ^ k < n % 4294967296 ^ k then 1 else 0
theorem bw_lo (m n k : Nat) : 0 ≤ bw m n k := by unfold bw; split <;> omega
theorem bw_hi (m n k : Nat) : bw m n k ≤ 1 := by unfold bw; split <;> omega
theorem bw_zero (m n : Nat) : bw m n 0 = 0 := by unfold bw; simp [Nat.mod_one]
theorem sub_step (m n k : Nat) (h : n ≤ m) : ∃ q : Int, dg m k - dg n k - bw m n k = dg (m - n) k + 4294967296 * q ∧ bw m n (k + 1) = - q := by
  unfold dg bw
  rw [Nat.pow_succ]
  have hP := pow_pos32 k
  generalize 4294967296 ^ k = P at *
  rw [Nat.mod_mul, Nat.mod_mul]
  have a1 := Nat.mod_lt m hP
  have a2 := Nat.mod_lt n hP
  have a3 := Nat.div_add_mod m P
  have a4 := Nat.div_add_mod n P
  generalize m % P = mr at *
  generalize n % P = nr at *
  generalize m / P = mq at *
  generalize n / P = nq at *
  subst a3 a4
  have nqm : nq ≤ mq := by
    rcases Nat.lt_or_ge mq nq with hlt | hge
    · have : P * (mq + 1) ≤ P * nq := Nat.mul_le_mul_left P hlt
      rw [Nat.mul_add] at this
      omega
    · exact hge
  have key : ∀ x y : Nat, x < 4294967296 → y < 4294967296 → (mr + P * x < nr + P * y ↔ (x < y ∨ (x = y ∧ mr < nr))) := by
    intro x y _ _
    constructor
    · intro hh
      rcases Nat.lt_trichotomy x y with h1 | h1 | h1
      · exact .inl h1
      · subst h1; exact .inr ⟨rfl, by omega⟩
      · have : P * (y + 1) ≤ P * x := Nat.mul_le_mul_left P h1
        rw [Nat.mul_add] at this
        omega
    · rintro (h1 | ⟨rfl, h1⟩)
      · have : P * (x + 1) ≤ P * y := Nat.mul_le_mul_left P h1
        rw [Nat.mul_add] at this
        omega
      · omega
  have k1 := key (mq % 4294967296) (nq % 4294967296) (by omega) (by omega)
  have ed : (P * mq + mr - (P * nq + nr)) / P = mq - nq - (if mr < nr then 1 else 0) := by
    split
    · rename_i hh
      have hq : nq + 1 ≤ mq := by
        rcases Nat.lt_or_ge nq mq with hlt | hge
        · exact hlt
        · have : nq = mq := by omega
          subst this; omega
      have e1 : P * mq = P * nq + P + P * (mq - nq - 1) := by
        rw [← Nat.mul_succ, ← Nat.mul_add]; congr 1; omega
      rw [show P * mq + mr - (P * nq + nr) = (P + mr - nr) + P * (mq - nq - 1) by omega, Nat.add_mul_div_left _ _ hP, Nat.div_eq_of_lt (by omega)]
      omega
    · rename_i hh
      have e1 : P * mq = P * nq + P * (mq - nq) := by rw [← Nat.mul_add]; congr 1; omega
      rw [show P * mq + mr - (P * nq + nr) = (mr - nr) + P * (mq - nq) by omega, Nat.add_mul_div_left _ _ hP, Nat.div_eq_of_lt (by omega)]
      omega
  rw [ed]
  by_cases c : mr < nr
  · rw [if_pos c, if_pos c]
    have hq : nq + 1 ≤ mq := by
      rcases Nat.lt_or_ge nq mq with hlt | hge
      · exact hlt
      · have : nq = mq := by omega
        subst this; omega
    by_cases d : mr + P * (mq % 4294967296) < nr + P * (nq % 4294967296)
    · rw [if_pos d]; have := k1.1 d; exact ⟨-1, by omega, by omega⟩
    · rw [if_neg d]; have := mt k1.2 d; exact ⟨0, by omega, by omega⟩
  · rw [if_neg c, if_neg c]
    by_cases d : mr + P * (mq % 4294967296) < nr + P * (nq % 4294967296)
    · rw [if_pos d]; have := k1.1 d; exact ⟨-1, by omega, by omega⟩
    · rw [if_neg d]; have := mt k1.2 d; exact ⟨0, by omega, by omega⟩
theorem sub_out (m n k : Nat) (h : n ≤ m) : IntKind.u64.wrap (IntKind.u64.wrap (dg m k - dg n k) - bw m n k) % 4294967296 = dg (m - n) k ∧
    IntKind.u64.wrap (IntKind.u64.wrap (dg m k - dg n k) - bw m n k) / 9223372036854775808 = bw m n (k + 1) := by
  obtain ⟨q, e1, e2⟩ := sub_step m n k h
  have := dg_lo m k; have := dg_hi m k; have := dg_lo n k; have := dg_hi n k; have := bw_lo m n k; have := bw_hi m n k; have := bw_lo m n (k + 1); have := bw_hi m n (k + 1)
  have := dg_lo (m - n) k; have := dg_hi (m - n) k
  simp only [IntKind.wrap_u64]
  omega

/-! Comparing -/
@[irreducible] def B8 : Nat := 4294967296 ^ 8
theorem dg_split (n k : Nat) : (n / 4294967296 ^ k : Nat) = (n / 4294967296 ^ (k + 1)) * 4294967296 + (dg n k).toNat := by
  unfold dg
  rw [Nat.pow_succ, ← Nat.div_div_eq_div_mul]
  omega
theorem less_top (m n : Nat) (hm : m < B8) (hn : n < B8) : m / 4294967296 ^ 8 = n / 4294967296 ^ 8 := by
  unfold B8 at *
  rw [Nat.div_eq_of_lt hm, Nat.div_eq_of_lt hn]
theorem less_ne (m n k : Nat) (h : m / 4294967296 ^ (k + 1) = n / 4294967296 ^ (k + 1)) (hne : dg m k ≠ dg n k) : decide (dg m k < dg n k) = decide (m < n) := by
  have e1 := dg_split m k
  have e2 := dg_split n k
  have l1 := dg_lo m k; have l2 := dg_lo n k
  rw [h] at e1
  rcases Int.lt_or_gt_of_ne hne with hl | hl
  · rw [decide_eq_true hl, decide_eq_true]
    exact Nat.lt_of_not_le fun hle => by
      have := Nat.div_le_div_right (c := 4294967296 ^ k) hle
      omega
  · rw [decide_eq_false (by omega), decide_eq_false]
    intro hlt
    have := Nat.div_le_div_right (c := 4294967296 ^ k) (Nat.le_of_lt hlt)
    omega
theorem less_eq (m n k : Nat) (h : m / 4294967296 ^ (k + 1) = n / 4294967296 ^ (k + 1)) (he : dg m k = dg n k) : m / 4294967296 ^ k = n / 4294967296 ^ k := by
  rw [dg_split m k, dg_split n k, h, he]
theorem less_end (m n : Nat) (h : m / 4294967296 ^ 0 = n / 4294967296 ^ 0) : decide (m < n) = false := by
  simp only [Nat.pow_zero, Nat.div_one] at h
  simp [h]

theorem dg_zero64 (n : Nat) : dg n 0 = ((n % 4294967296 : Nat) : Int) := by unfold dg; simp
theorem dg_one64 (n : Nat) (h : n < 18446744073709551616) : dg n 1 = ((n / 4294967296 : Nat) : Int) := by
  unfold dg; rw [Nat.pow_one, Nat.mod_eq_of_lt (by omega)]
theorem dg_two64 (n : Nat) (h : n < 18446744073709551616) (k : Nat) : dg n (k + 2) = 0 := by
  unfold dg
  rw [Nat.pow_add, Nat.mul_comm, ← Nat.div_div_eq_div_mul, Nat.div_eq_of_lt (a := n) (b := 4294967296 ^ 2) (by omega)]
  simp
theorem A8_of64 (n : Nat) (h : n < 18446744073709551616) (p q : Int) (hp : p = (n : Int) % 4294967296) (hq : q = (n : Int) / 4294967296) :
    Value.agg #[.int .u64 p, .int .u64 q, .int .u64 0, .int .u64 0, .int .u64 0, .int .u64 0, .int .u64 0, .int .u64 0] = A8 n := by
  unfold A8
  rw [dg_zero64, dg_one64 n h, dg_two64 n h 0, dg_two64 n h 1, dg_two64 n h 2, dg_two64 n h 3, dg_two64 n h 4, dg_two64 n h 5, hp, hq]
  rfl
theorem B8_big : 18446744073709551616 < B8 := by unfold B8; decide
/-! Is it 0? -/
theorem zero_step (n k : Nat) (h : n % 4294967296 ^ k = 0) (hd : dg n k = 0) : n % 4294967296 ^ (k + 1) = 0 := by
  unfold dg at hd
  rw [Nat.pow_succ, Nat.mod_mul, h]
  have : n / 4294967296 ^ k % 4294967296 = 0 := by omega
  rw [this]; simp
theorem zero_ne (n k : Nat) (hd : dg n k ≠ 0) : decide (n = 0) = false := by
  refine decide_eq_false fun h => hd ?_
  subst h; unfold dg; simp
theorem zero_end (n : Nat) (hn : n < B8) (h : n % 4294967296 ^ 8 = 0) : decide (n = 0) = true := by
  unfold B8 at hn
  rw [Nat.mod_eq_of_lt hn] at h
  simp [h]

/-! Powers of two, bits -/
theorem pow32 (j : Nat) : 4294967296 ^ j = 2 ^ (32 * j) := by rw [Nat.pow_mul]
theorem pow_dg (k j : Nat) : dg (2 ^ k) j = if j = k / 32 then IntKind.u64.wrap (2 ^ (k % 32)) else 0 := by
  have hl : 2 ^ (k % 32) < 4294967296 := Nat.pow_lt_pow_right (m := k % 32) (n := 32) (a := 2) (by omega) (by omega)
  unfold dg
  rw [pow32]
  split
  · rename_i h
    subst h
    rw [Nat.pow_div (by omega) (by omega), show k - 32 * (k / 32) = k % 32 by omega, Nat.mod_eq_of_lt hl, IntKind.wrap_u64]
    have e : ((2 : Int) ^ (k % 32)) = ((2 ^ (k % 32) : Nat) : Int) := by simp
    rw [e]
    generalize 2 ^ (k % 32) = q at *
    omega
  · rename_i h
    rcases Nat.lt_or_gt_of_ne h with h1 | h1
    · rw [Nat.pow_div (by omega) (by omega), show k - 32 * j = (k - 32 * j - 32) + 32 by omega, Nat.pow_add]
      have : 2 ^ (k - 32 * j - 32) * 2 ^ 32 % 4294967296 = 0 := Nat.mul_mod_left _ _
      rw [this]; rfl
    · rw [Nat.div_eq_of_lt (Nat.pow_lt_pow_right (by omega) (by omega))]
      rfl
theorem pow_row (k j : Nat) : upd (fun _ => 0) (k / 32) (IntKind.u64.wrap (2 ^ (k % 32))) j = dg (2 ^ k) j := by
  rw [pow_dg]; rfl
theorem bit_dg (n k : Nat) : bits .and .u64 (dg n (k / 32) / 2 ^ (k % 32)) 1 = ((n / 2 ^ k % 2 : Nat) : Int) := by
  unfold dg
  rw [pow32]
  have e : (((n / 2 ^ (32 * (k / 32)) % 4294967296 : Nat) : Int) / 2 ^ (k % 32)) = ((n / 2 ^ (32 * (k / 32)) % 4294967296 / 2 ^ (k % 32) : Nat) : Int) := by simp
  rw [e]
  have hb : n / 2 ^ (32 * (k / 32)) % 4294967296 / 2 ^ (k % 32) < 18446744073709551616 := Nat.lt_of_le_of_lt (Nat.div_le_self _ _) (by omega)
  have h := bits_and_u64_nat _ 1 hb (by omega)
  rw [Nat.and_one_is_mod] at h
  refine h.trans ?_
  congr 1
  have hs : (4294967296 : Nat) = 2 ^ (k % 32) * 2 ^ (32 - k % 32) := by rw [← Nat.pow_add, show k % 32 + (32 - k % 32) = 32 by omega]
  rw [hs, Nat.mod_mul_right_div_self, Nat.div_div_eq_div_mul, ← Nat.pow_add, show 32 * (k / 32) + k % 32 = k by omega]
  exact Nat.mod_mod_of_dvd _ ⟨2 ^ (31 - k % 32), by rw [← Nat.pow_succ', show (31 - k % 32).succ = 32 - k % 32 by omega]⟩
theorem or_join (a b : Int) (a0 : 0 ≤ a) (a1 : a ≤ 4294967295) (b0 : 0 ≤ b) (b1 : b ≤ 4294967295) : bits .or .u64 (b * 4294967296) a = b * 4294967296 + a := by
  obtain ⟨a, rfl⟩ := Int.eq_ofNat_of_zero_le a0
  obtain ⟨b, rfl⟩ := Int.eq_ofNat_of_zero_le b0
  have h := bits_or_u64_nat (b * 4294967296) a (by omega) (by omega)
  rw [nat_join 32 (b * 4294967296) a (by omega) (by omega)] at h
  have e : ((b : Int) * 4294967296) = ((b * 4294967296 : Nat) : Int) := by simp
  rw [e]
  exact h.trans (by omega)
theorem two_digits (n : Nat) (h : n < 18446744073709551616) : dg n 1 * 4294967296 + dg n 0 = n := by
  rw [dg_zero64, dg_one64 n h]; omega
theorem A8_up64 (n : Nat) (h : n < 18446744073709551616) :
    Value.agg #[.int .u64 0, .int .u64 0, .int .u64 (dg n 0), .int .u64 (dg n 1), .int .u64 0, .int .u64 0, .int .u64 0, .int .u64 0] = A8 (n * 18446744073709551616) := by
  have up : ∀ k, dg (n * 18446744073709551616) (k + 2) = dg n k := fun k => by
    unfold dg
    rw [Nat.pow_add, Nat.mul_comm (4294967296 ^ k), ← Nat.div_div_eq_div_mul, show (4294967296 : Nat) ^ 2 = 18446744073709551616 by decide, Nat.mul_div_cancel _ (by omega)]
  have e0 : dg (n * 18446744073709551616) 0 = 0 := by unfold dg; rw [Nat.pow_zero, Nat.div_one]; omega
  have e1 : dg (n * 18446744073709551616) 1 = 0 := by unfold dg; rw [Nat.pow_one]; omega
  unfold A8
  rw [e0, e1, up 0, up 1, up 2, up 3, up 4, up 5, dg_two64 n h 0, dg_two64 n h 1, dg_two64 n h 2, dg_two64 n h 3]
theorem B8_val : B8 = 115792089237316195423570985008687907853269984665640564039457584007913129639936 := by unfold B8; decide
end Go.Proofs.Ytdleeeahonfnkaa

/- Wnum -/
namespace Go.Proofs.Ytdleeeahonfnkaa
open Go.RowKit

def wh (v : Int) : Int := v / 18446744073709551616
def wl (v : Int) : Int := v % 18446744073709551616
abbrev Wv (v : Int) : Value := .agg #[.int .i64 (wh v), .int .u64 (wl v)]
structure InW (v : Int) : Prop where
  lo : -170141183460469231731687303715884105728 ≤ v
  hi : v < 170141183460469231731687303715884105728
theorem wl_lo (v : Int) : 0 ≤ wl v := by unfold wl; omega
theorem wl_hi (v : Int) : wl v < 18446744073709551616 := by unfold wl; omega
theorem wh_lo {v : Int} (h : InW v) : -9223372036854775808 ≤ wh v := by have := h.lo; unfold wh; omega
theorem wh_hi {v : Int} (h : InW v) : wh v ≤ 9223372036854775807 := by have := h.hi; unfold wh; omega
theorem wh_neg (v : Int) : wh v < 0 ↔ v < 0 := by unfold wh; omega
theorem ret_val {a b : Value} (h : a = b) : Ending.returned a = .returned b := by rw [h]
theorem ret_int {k : IntKind} {a b : Int} (h : a = b) : Ending.returned (.int k a) = .returned (.int k b) := by rw [h]
theorem agg2 {k l : IntKind} {a b c d : Int} (h1 : a = c) (h2 : b = d) : Value.agg #[.int k a, .int l b] = Value.agg #[.int k c, .int l d] := by rw [h1, h2]
theorem tuple2 {k l : IntKind} {a b c d : Int} (h1 : a = c) (h2 : b = d) : Ending.returned (.tuple #[.int k a, .int l b]) = Ending.returned (.tuple #[.int k c, .int l d]) := by rw [h1, h2]
theorem tupleb {k : IntKind} {a c : Int} {b d : Bool} (h1 : a = c) (h2 : b = d) : Ending.returned (.tuple #[.int k a, .bool b]) = Ending.returned (.tuple #[.int k c, .bool d]) := by rw [h1, h2]

/-! Sums and differences with a carry -/
def addLo (x y : Int) : Int := (x + y) % 18446744073709551616
def addHi (x y : Int) : Int := (x + y) / 18446744073709551616
def subLo (y : Int) : Int := (-y) % 18446744073709551616
def subBo (y : Int) : Int := (y + 18446744073709551615) / 18446744073709551616

/-! The other sign; the size -/
def nneg (v : Int) : Int := if v = -170141183460469231731687303715884105728 then v else -v
theorem neg_hi {v : Int} (h : InW v) : wrap64 (wrap64 (-wh v) - wrap64 (subBo (wl v))) = wh (nneg v) := by
  have := h.lo; have := h.hi
  unfold wrap64 subBo nneg wh wl
  split <;> omega
theorem neg_lo (v : Int) : subLo (wl v) = wl (nneg v) := by
  unfold subLo nneg wl
  split <;> omega
theorem nneg_in {v : Int} (h : InW v) : InW (nneg v) := by
  have := h.lo; have := h.hi
  unfold nneg
  split <;> constructor <;> omega
theorem size_neg {v : Int} (h : InW v) (hn : v < 0) : IntKind.u64.wrap (wh (nneg v)) = wh v.natAbs ∧ wl (nneg v) = wl v.natAbs := by
  have := h.lo; have := h.hi
  simp only [IntKind.wrap_u64]
  unfold nneg wh wl
  split <;> constructor <;> omega
theorem size_pos {v : Int} (h : InW v) (hn : ¬ v < 0) : IntKind.u64.wrap (wh v) = wh v.natAbs ∧ wl v = wl v.natAbs := by
  have := h.lo; have := h.hi
  simp only [IntKind.wrap_u64]
  unfold wh wl
  constructor <;> omega

/-! A size with its sign again -/
def sok (z : Int) : Bool := decide (-9223372036854775808 ≤ z) && decide (z ≤ 9223372036854775807)
def sval (z : Int) : Int := if sok z = true then z else 0
theorem sok_yes {z : Int} (h1 : -9223372036854775808 ≤ z) (h2 : z ≤ 9223372036854775807) : true = sok z ∧ z = sval z := by
  have : sok z = true := by unfold sok; simp [h1, h2]
  exact ⟨this.symm, by unfold sval; rw [if_pos this]⟩
theorem sok_no {z : Int} (h : z < -9223372036854775808 ∨ 9223372036854775807 < z) : false = sok z ∧ 0 = sval z := by
  have : sok z = false := by unfold sok; rcases h with h | h <;> simp <;> omega
  exact ⟨this.symm, by unfold sval; rw [if_neg (by rw [this]; simp)]⟩
def withSign (b : Bool) (n : Nat) : Int := if b = true then -(n : Int) else n
def cmpI (x y : Int) : Int := if x = y then 0 else if x < y then -1 else 1
end Go.Proofs.Ytdleeeahonfnkaa

/- Inv -/
namespace Go.Proofs.Ytdleeeahonfnkaa
open Go.RowKit
abbrev BgR (s : Bool) (n : Nat) : Value := .agg #[.bool s, .int .u64 (dg n 0), .int .u64 (dg n 1), .int .u64 (dg n 2), .int .u64 (dg n 3), .int .u64 (dg n 4), .int .u64 (dg n 5), .int .u64 (dg n 6), .int .u64 (dg n 7)]
theorem ret_bool {a b : Bool} (h : a = b) : Ending.returned (.bool a) = .returned (.bool b) := by rw [h]

theorem bcell {W w1 : World} (hb : Below W.heap.size W w1) : (∀ b o, b < W.heap.size → w1.cell? ⟨b, o, none⟩ = W.cell? ⟨b, o, none⟩) ∧ (∀ b o, b < W.heap.size → w1.frozen? ⟨b, o, none⟩ = W.frozen? ⟨b, o, none⟩) :=
  ⟨fun b o h => hb.cell (p := ⟨b, o, none⟩) h, fun b o h => hb.frozen (p := ⟨b, o, none⟩) h⟩
theorem Below.undrew {W w1 : World} (hb : Below W.drew.heap.size W.drew w1) : Below W.heap.size W w1 := ⟨hb.os, hb.tape, hb.output, hb.size, hb.block⟩
theorem Below.setCells {B : Nat} {a : World} {b : Nat} (hB : B ≤ b) : ∀ (vs : List Value) (o : Nat) (w : World), Below B a w → Below B a (w.setCells b o vs)
  | [], _, _, h => h
  | v :: r, o, w, h => by rw [World.setCells]; exact Below.setCells hB r (o + 1) _ (h.setCell hB v)
theorem Below.set2 {B : Nat} {a w : World} {b : Nat} (hB : B ≤ b) (h : Below B a w) (v0 v1 : Value) : Below B a ((w.setCell ⟨b, 0, none⟩ v0).setCell ⟨b, 1, none⟩ v1) := ((h.setCell hB _).setCell hB _)
theorem Below.set8 {B : Nat} {a w : World} {b : Nat} (hB : B ≤ b) (h : Below B a w) (v0 v1 v2 v3 v4 v5 v6 v7 : Value) : Below B a ((((((((w.setCell ⟨b, 0, none⟩ v0).setCell ⟨b, 1, none⟩ v1).setCell ⟨b, 2, none⟩ v2).setCell ⟨b, 3, none⟩ v3).setCell ⟨b, 4, none⟩ v4).setCell ⟨b, 5, none⟩ v5).setCell ⟨b, 6, none⟩ v6).setCell ⟨b, 7, none⟩ v7) := ((((((((h.setCell hB _).setCell hB _).setCell hB _).setCell hB _).setCell hB _).setCell hB _).setCell hB _).setCell hB _)
theorem Below.set9 {B : Nat} {a w : World} {b : Nat} (hB : B ≤ b) (h : Below B a w) (v0 v1 v2 v3 v4 v5 v6 v7 v8 : Value) : Below B a (((((((((w.setCell ⟨b, 0, none⟩ v0).setCell ⟨b, 1, none⟩ v1).setCell ⟨b, 2, none⟩ v2).setCell ⟨b, 3, none⟩ v3).setCell ⟨b, 4, none⟩ v4).setCell ⟨b, 5, none⟩ v5).setCell ⟨b, 6, none⟩ v6).setCell ⟨b, 7, none⟩ v7).setCell ⟨b, 8, none⟩ v8) := (((((((((h.setCell hB _).setCell hB _).setCell hB _).setCell hB _).setCell hB _).setCell hB _).setCell hB _).setCell hB _).setCell hB _)
theorem heap_setCells (b : Nat) : ∀ (vs : List Value) (o : Nat) (w : World), (w.setCells b o vs).heap.size = w.heap.size
  | [], _, _ => rfl
  | v :: r, o, w => by rw [World.setCells, heap_setCells b r (o + 1)]; simp [World.setCell]

/-- What the cell holds. -/
def atv (w : World) (b o : Nat) : Value := (w.cell? ⟨b, o, none⟩).getD undef
theorem cell_atv {w : World} {b o : Nat} (h : (w.cell? ⟨b, o, none⟩).isSome = true) : w.cell? ⟨b, o, none⟩ = some (atv w b o) := by
  unfold atv
  obtain ⟨v, hv⟩ := Option.isSome_iff_exists.1 h
  rw [hv]; rfl
/-- w: as the call began; W: as the statement began; R: the result's block, of n cells. -/
abbrev Inv (w W : World) (R n : Nat) (w' : World) : Prop :=
  (∀ b o, b ≠ R → b < W.heap.size → w'.cell? ⟨b, o, none⟩ = W.cell? ⟨b, o, none⟩) ∧ (∀ o, o < n → w'.cell? ⟨R, o, none⟩ = some (atv w' R o)) ∧ (∀ o, o < n → w'.frozen? ⟨R, o, none⟩ = false) ∧ Below w.heap.size w w' ∧ W.heap.size ≤ w'.heap.size
theorem Inv.start {w W : World} {R n : Nat} (h1 : W.there R 0 n) (h2 : Below w.heap.size w W) : Inv w W R n W.drew :=
  ⟨fun _ _ _ _ => by simp, fun o ho => cell_atv (by have := (h1 o ho).1; simpa using this), fun o ho => by have := (h1 o ho).2; simpa using this, h2.drew, Nat.le_refl _⟩
theorem Inv.start0 {w W : World} {R n : Nat} (h1 : W.there R 0 n) (h2 : Below w.heap.size w W) : Inv w W R n W :=
  ⟨fun _ _ _ _ => rfl, fun o ho => cell_atv (by have := (h1 o ho).1; simpa using this), fun o ho => by have := (h1 o ho).2; simpa using this, h2, Nat.le_refl _⟩
theorem Inv.drew {w W w1 : World} {R n : Nat} (h : Inv w W R n w1) : Inv w W R n w1.drew := by
  obtain ⟨h1, h2, h3, h4, h5⟩ := h
  exact ⟨fun b o hne hlt => by simpa using h1 b o hne hlt, fun j hj => cell_atv (by have := h2 j hj; simp at this ⊢; rw [this]; rfl), fun j hj => by simpa using h3 j hj, h4.drew, h5⟩
theorem Inv.call {w W w1 w2 : World} {R n : Nat} (hR : R < W.heap.size) (hw : w.heap.size ≤ W.heap.size) (h : Inv w W R n w1) (hb : Below w1.heap.size w1 w2) : Inv w W R n w2 := by
  obtain ⟨h1, h2, h3, h4, h5⟩ := h
  refine ⟨fun b o hne hlt => ?_, fun j hj => ?_, fun j hj => ?_, h4.trans (hb.mono (by omega)), Nat.le_trans h5 hb.size⟩
  · rw [hb.cell (p := ⟨b, o, none⟩) (by show b < _; omega)]; exact h1 b o hne hlt
  · refine cell_atv ?_
    rw [hb.cell (p := ⟨R, j, none⟩) (by show R < _; omega), h2 j hj]; rfl
  · rw [hb.frozen (p := ⟨R, j, none⟩) (by show R < _; omega), h3 j hj]
theorem Inv.set {w W w1 : World} {R n : Nat} (hw : w.heap.size ≤ R) (o : Nat) (v : Value) (h : Inv w W R n w1) : Inv w W R n (w1.setCell ⟨R, o, none⟩ v) := by
  obtain ⟨h1, h2, h3, h4, h5⟩ := h
  refine ⟨fun b o' hne hlt => ?_, fun j hj => ?_, fun j hj => ?_, h4.setCell hw v, by simpa [World.setCell] using h5⟩
  · rw [World.cell?_setCell_other _ _ _ _ (fun e => hne (by have := congrArg Addr.block e; exact this.symm))]
    exact h1 b o' hne hlt
  · refine cell_atv ?_
    have := World.isSome_setCells R [v] o w1 ⟨R, j, none⟩ (by rw [h2 j hj]; rfl)
    exact this
  · have := World.frozen?_setCells R [v] o w1 ⟨R, j, none⟩
    exact this.trans (h3 j hj)
theorem Inv.alloc {w W w1 : World} {R n : Nat} (hR : R < W.heap.size) (hw : w.heap.size ≤ W.heap.size) (h : Inv w W R n w1) (o : Obj) : Inv w W R n (w1.alloc o) :=
  Inv.call hR hw h ((Below.refl _ _).alloc (Nat.le_refl _) o)
theorem Inv.other {w W w1 : World} {R n : Nat} (hR : R < W.heap.size) (hw : w.heap.size ≤ W.heap.size) (h : Inv w W R n w1) {b : Nat} (hb : W.heap.size ≤ b) (o : Nat) (v : Value) : Inv w W R n (w1.setCell ⟨b, o, none⟩ v) := by
  obtain ⟨h1, h2, h3, h4, h5⟩ := h
  have hne : ∀ b' o', b' < W.heap.size → (⟨b, o, none⟩ : Addr) ≠ ⟨b', o', none⟩ := fun b' o' hlt e => by have := congrArg Addr.block e; simp at this; omega
  refine ⟨fun b' o' hne' hlt => ?_, fun j hj => ?_, fun j hj => ?_, h4.setCell (by show _ ≤ b; omega) v, by simpa [World.setCell] using h5⟩
  · rw [World.cell?_setCell_other _ _ _ _ (hne b' o' hlt)]; exact h1 b' o' hne' hlt
  · refine cell_atv ?_
    rw [World.cell?_setCell_other _ _ _ _ (hne R j hR), h2 j hj]; rfl
  · have := World.frozen?_setCells b [v] o w1 ⟨R, j, none⟩
    exact this.trans (h3 j hj)

/-- As 'Inv', without a result's block. -/
abbrev Ext (w W : World) (w' : World) : Prop := (∀ b o, b < W.heap.size → w'.cell? ⟨b, o, none⟩ = W.cell? ⟨b, o, none⟩) ∧ Below w.heap.size w w' ∧ W.heap.size ≤ w'.heap.size
theorem Ext.start {w W : World} (h2 : Below w.heap.size w W) : Ext w W W.drew := ⟨fun _ _ _ => by simp, h2.drew, Nat.le_refl _⟩
theorem Ext.start0 {w W : World} (h2 : Below w.heap.size w W) : Ext w W W := ⟨fun _ _ _ => rfl, h2, Nat.le_refl _⟩
theorem Ext.drew {w W w1 : World} (h : Ext w W w1) : Ext w W w1.drew := ⟨fun b o hlt => by simpa using h.1 b o hlt, h.2.1.drew, h.2.2⟩
theorem Ext.call {w W w1 w2 : World} (hw : w.heap.size ≤ W.heap.size) (h : Ext w W w1) (hb : Below w1.heap.size w1 w2) : Ext w W w2 := by
  obtain ⟨h1, h4, h5⟩ := h
  refine ⟨fun b o hlt => ?_, h4.trans (hb.mono (by omega)), Nat.le_trans h5 hb.size⟩
  rw [hb.cell (p := ⟨b, o, none⟩) (by show b < _; omega)]; exact h1 b o hlt
theorem Ext.alloc {w W w1 : World} (hw : w.heap.size ≤ W.heap.size) (h : Ext w W w1) (o : Obj) : Ext w W (w1.alloc o) :=
  Ext.call hw h ((Below.refl _ _).alloc (Nat.le_refl _) o)
theorem Ext.other {w W w1 : World} (hw : w.heap.size ≤ W.heap.size) (h : Ext w W w1) {b : Nat} (hb : W.heap.size ≤ b) (o : Nat) (v : Value) : Ext w W (w1.setCell ⟨b, o, none⟩ v) := by
  obtain ⟨h1, h4, h5⟩ := h
  have hne : ∀ b' o', b' < W.heap.size → (⟨b, o, none⟩ : Addr) ≠ ⟨b', o', none⟩ := fun b' o' hlt e => by have := congrArg Addr.block e; simp at this; omega
  refine ⟨fun b' o' hlt => ?_, h4.setCell (by show _ ≤ b; omega) v, by simpa [World.setCell] using h5⟩
  rw [World.cell?_setCell_other _ _ _ _ (hne b' o' hlt)]; exact h1 b' o' hlt
theorem results_mid {P : Program} {fn : Func} {p : Tmp} {ty : TypeId} (h : fn.results = #[.cell p ty]) (tmps : Array Value) (w : World) (g : Nat) (cs : List Value) (d : TypeDesc)
    (hp : tmps.getD p undef = .pointer (some ⟨g, 0, none⟩)) (hc : w.rangeAt g 0 cs)
    (hu : P.underlying ty = some d) (hd : d.isRow = true) (hi : (P.info? ty).map (·.size) = some cs.length) :
    (results fn tmps).run P w = .ok (.agg cs.toArray) w := by
  have hp' : tmps[p]?.getD undef = .pointer (some ⟨g, 0, none⟩) := by simpa using hp
  simp [results, h, hp', asAddr, run_loadVar_mid w g 0 ty cs d hc hu hd hi]
/-- A new block's cells are there. -/
theorem there_of_row {w : World} {R : Nat} {C : Array Value} {t : TypeId} (h : w.heap[R]? = some (.cells C t (0, 0))) (n : Nat) (hn : n ≤ C.size) : w.there R 0 n := fun j hj => by
  rw [cell_of_row w R (0 + j) C t _ h]
  refine ⟨?_, by simp [World.frozen?, h]⟩
  rw [Array.getElem?_eq_getElem (by omega)]; rfl
end Go.Proofs.Ytdleeeahonfnkaa

/- Bits -/
namespace Go.Proofs.Ytdleeeahonfnkaa
open Go.RowKit

theorem lead_any (n : Int) (w : World) (h0 : 0 ≤ n) (h1 : n ≤ 18446744073709551615) :
    Calls Try.prog 140 #[.int .u64 n] w fun e w' => e = .returned (.int .i64 (64 - (Lib.bitLen n.toNat : Int))) ∧ w = w' := by
  have hl := len_le64 n h0 h1
  go_enter Try.func140, Try.ntmps140
  go_wp2_with fail
  refine (len64_int n _ h0 h1).mono ?_
  rintro e w' ⟨rfl, rfl⟩
  go_wp2
  go_ret
  exact ⟨rfl, rfl⟩

/-! Sums and differences with a carry -/
theorem add64_run (x y : Int) (w : World) (hx : 0 ≤ x) (hy : 0 ≤ y) :
    (callFunc 136 #[.int .u64 x, .int .u64 y, .int .u64 0]).run Try.prog w = .ok (.value (.tuple #[.int .u64 (addLo x y), .int .u64 (addHi x y)])) w := by
  rw [run_callFunc_extern Try.func136 (by kernel_rfl) (by kernel_rfl) (by kernel_rfl) (e := add64Entry) (by kernel_rfl), run_add64 x y 0 hx hy (by omega) (by omega)]
  simp only [Result.andThen, Int.add_zero]
  rfl
def sub64Entry : Array Value → Sem Value := fun args => do
  let (x, y, b) ← Extern.MathBitsCarry.three "Sub64" args
  pure (Extern.MathBitsCarry.pair ((x + Extern.MathBitsCarry.m64 - y - b) % Extern.MathBitsCarry.m64) (if x < y + b then 1 else 0))
theorem run_sub64 (y : Nat) (w : World) (P : Program) :
    (sub64Entry #[.int .u64 0, .int .u64 y, .int .u64 0]).run P w = .ok (.tuple #[.int .u64 (((18446744073709551616 - y) % 18446744073709551616 : Nat) : Int), .int .u64 ((if 0 < y then 1 else 0 : Nat) : Int)]) w := by
  have : (sub64Entry #[.int .u64 0, .int .u64 y, .int .u64 0]).run P w = .ok (Extern.MathBitsCarry.pair ((0 + Extern.MathBitsCarry.m64 - y - 0) % Extern.MathBitsCarry.m64) (if 0 < y + 0 then 1 else 0)) w := rfl
  rw [this]
  simp only [Extern.MathBitsCarry.pair, Extern.MathBitsCarry.m64, Nat.zero_add, Nat.sub_zero, Nat.add_zero]
  rfl
theorem sub64_run (y : Int) (w : World) (h0 : 0 ≤ y) (h1 : y < 18446744073709551616) :
    (callFunc 155 #[.int .u64 0, .int .u64 y, .int .u64 0]).run Try.prog w = .ok (.value (.tuple #[.int .u64 (subLo y), .int .u64 (subBo y)])) w := by
  obtain ⟨n, rfl⟩ := Int.eq_ofNat_of_zero_le h0
  rw [run_callFunc_extern Try.func155 (by kernel_rfl) (by kernel_rfl) (by kernel_rfl) (e := sub64Entry) (by kernel_rfl), run_sub64]
  have e1 : (((18446744073709551616 - n) % 18446744073709551616 : Nat) : Int) = subLo n := by unfold subLo; omega
  have e2 : ((if 0 < n then 1 else 0 : Nat) : Int) = subBo n := by unfold subBo; split <;> omega
  rw [e1, e2]
  rfl

/-! The product -/
theorem mask_mod (e : Int) : bits .and .u64 (e % 18446744073709551616) 4294967295 = e % 18446744073709551616 % 4294967296 :=
  and_mask _ (Int.emod_nonneg _ (by decide)) (Int.emod_lt_of_pos _ (by decide))
set_option maxHeartbeats 1000000 in
theorem mul64_any (x y : Int) (w : World) (x0 : 0 ≤ x) (x1 : x < 18446744073709551616) (y0 : 0 ≤ y) (y1 : y < 18446744073709551616) :
    Calls Try.prog 139 #[.int .u64 x, .int .u64 y] w fun e w' => e = .returned (.tuple #[.int .u64 (x * y / 18446744073709551616), .int .u64 (x * y % 18446744073709551616)]) ∧ w = w' := by
  go_enter Try.func139, Try.ntmps139
  go_wp2
  go_ret2
  refine ⟨tuple2 ?_ (IntKind.wrap_u64 _), rfl⟩
  refine Eq.trans ?_ (mul64_arith x y x0 x1 y0 y1)
  simp only [IntKind.wrap_u64, and_mask x x0 x1, and_mask y y0 y1, mask_mod]
end Go.Proofs.Ytdleeeahonfnkaa

/- DivN -/
namespace Go.Proofs.Ytdleeeahonfnkaa

def qt (U a b c : Nat) : Nat := (U * 4294967296 + c) / (a * 4294967296 + b)
theorem qt_key {U a b q r : Nat} (h : q * a + r = U) : q * (a * 4294967296 + b) + r * 4294967296 = U * 4294967296 + q * b := by
  subst h; grind
theorem qt_stop {U a b c q r : Nat} (h : q * a + r = U) (ha : 0 < a) (hs : q * b ≤ 4294967296 * r + c) (hq : qt U a b c ≤ q) : q = qt U a b c := by
  refine Nat.le_antisymm ?_ hq
  refine (Nat.le_div_iff_mul_le (by omega)).2 ?_
  have := qt_key (b := b) h
  omega
theorem qt_step {U a b c q r : Nat} (h : q * a + r = U) (_ : 0 < a) (hc : c < 4294967296) (hU : U < a * 4294967296 + b) (hs : 4294967296 ≤ q ∨ 4294967296 * r + c < q * b) : qt U a b c ≤ q - 1 ∧ 1 ≤ q := by
  have hlt : qt U a b c < q := by
    refine (Nat.div_lt_iff_lt_mul (by omega)).2 ?_
    rcases hs with hs | hs
    · have h1 : (U + 1) * 4294967296 ≤ (a * 4294967296 + b) * 4294967296 := Nat.mul_le_mul_right _ hU
      have h2 : 4294967296 * (a * 4294967296 + b) ≤ q * (a * 4294967296 + b) := Nat.mul_le_mul_right _ hs
      omega
    · have := qt_key (b := b) h
      omega
  omega
theorem qt_brk {U a b c q r : Nat} (h : q * a + r = U) (ha : 0 < a) (hb : b < 4294967296) (hU : U < a * 4294967296 + b) (hr : 4294967296 ≤ r) (hq : qt U a b c ≤ q) : q = qt U a b c := by
  refine qt_stop h ha ?_ hq
  have h1 : q * a < 4294967296 * a := by omega
  have h2 : q < 4294967296 := Nat.lt_of_mul_lt_mul_right h1
  have h3 : q * b ≤ 4294967296 * 4294967296 := Nat.mul_le_mul (by omega) (by omega)
  have h4 : 4294967296 * 4294967296 ≤ 4294967296 * r := Nat.mul_le_mul_left _ hr
  omega
theorem dec_mul {U a q r : Nat} (h1 : 1 ≤ q) (h : q * a + r = U) : (q - 1) * a + (r + a) = U := by
  have e : (q - 1) * a + a = q * a := by rw [← Nat.succ_mul]; congr 1; omega
  omega
theorem qt_first {U a b c : Nat} (ha : 0 < a) (hc : c < 4294967296) (hU : U < a * 4294967296 + b) : qt U a b c ≤ U / a := by
  refine Nat.le_of_lt_succ ((Nat.div_lt_iff_lt_mul (by omega)).2 ?_)
  have h1 := Nat.lt_div_mul_add (a := U) ha
  have h2 : U + 1 ≤ (U / a + 1) * a := by rw [Nat.add_mul]; omega
  have h3 := Nat.mul_le_mul_right 4294967296 h2
  have h4 : (U / a + 1) * (a * 4294967296 + b) = (U / a + 1) * a * 4294967296 + (U / a + 1) * b := by rw [Nat.mul_add, Nat.mul_assoc]
  have h5 : 0 ≤ (U / a + 1) * b := Nat.zero_le _
  rw [show (U / a).succ = U / a + 1 from rfl, h4]
  omega
theorem qt_small {U a b c : Nat} (_ : 0 < a) (hc : c < 4294967296) (hU : U < a * 4294967296 + b) : qt U a b c < 4294967296 := by
  refine (Nat.div_lt_iff_lt_mul (by omega)).2 ?_
  have h1 : (U + 1) * 4294967296 ≤ (a * 4294967296 + b) * 4294967296 := Nat.mul_le_mul_right _ hU
  rw [Nat.mul_comm 4294967296]
  omega
def rt (U a b c : Nat) : Nat := (U * 4294967296 + c) % (a * 4294967296 + b)
theorem rt_lt {U a b c : Nat} (ha : 0 < a) : rt U a b c < a * 4294967296 + b := Nat.mod_lt _ (by omega)
theorem rt_wrap (U a b c Y : Nat) (hY : Y = a * 4294967296 + b) (hY2 : Y < 18446744073709551616) (ha : 0 < a) :
    IntKind.u64.wrap (IntKind.u64.wrap (IntKind.u64.wrap ((U : Int) * 4294967296) + c) - IntKind.u64.wrap ((qt U a b c : Int) * Y)) = (rt U a b c : Int) := by
  have h2 := rt_lt (U := U) (b := b) (c := c) ha
  have e1 : ((qt U a b c : Int) * Y) = ((qt U a b c * Y : Nat) : Int) := by simp
  rw [e1]
  have e2 : qt U a b c * Y + rt U a b c = U * 4294967296 + c := by
    unfold qt rt
    rw [← hY]
    exact Nat.div_add_mod' _ _
  generalize qt U a b c * Y = X at *
  simp only [IntKind.wrap_u64]
  omega
/-- Both digits together, to any base. -/
theorem two_core (B Y c d U T2 : Nat) (hT : T2 = (U * B + c) * B + d) (hY : 0 < Y) :
    ((U * B + c) / Y) * B + (((U * B + c) % Y) * B + d) / Y = T2 / Y ∧ (((U * B + c) % Y) * B + d) % Y = T2 % Y := by
  subst hT
  have k1 := Nat.div_add_mod (U * B + c) Y
  generalize (U * B + c) = M at *
  have k2 := Nat.div_add_mod (M % Y * B + d) Y
  have k3 := Nat.mod_lt (M % Y * B + d) hY
  have key : M * B + d = (M % Y * B + d) % Y + Y * (M / Y * B + (M % Y * B + d) / Y) := by
    have h1 : M * B = Y * (M / Y) * B + M % Y * B := by rw [← Nat.add_mul, k1]
    rw [Nat.mul_add, ← Nat.mul_assoc]
    omega
  constructor
  · rw [key, Nat.add_mul_div_left _ _ hY, Nat.div_eq_of_lt k3]
    omega
  · rw [key, Nat.add_mul_mod_self_left, Nat.mod_eq_of_lt k3]
theorem two_qt (T y s U L a b Y : Nat) (hT : T * 2 ^ s = (U * 4294967296 + L / 4294967296) * 4294967296 + L % 4294967296) (hY : Y = a * 4294967296 + b) (hy : y * 2 ^ s = Y) (ha : 0 < a) :
    qt U a b (L / 4294967296) * 4294967296 + qt (rt U a b (L / 4294967296)) a b (L % 4294967296) = T / y ∧ rt (rt U a b (L / 4294967296)) a b (L % 4294967296) / 2 ^ s = T % y := by
  have hP : 0 < 2 ^ s := Nat.two_pow_pos s
  have e1 : T / y = (T * 2 ^ s) / (y * 2 ^ s) := (Nat.mul_div_mul_right _ _ hP).symm
  have e2 : (T * 2 ^ s) % (y * 2 ^ s) = T % y * 2 ^ s := Nat.mul_mod_mul_right _ _ _
  rw [hy] at e1 e2
  obtain ⟨c1, c2⟩ := two_core 4294967296 Y (L / 4294967296) (L % 4294967296) U (T * 2 ^ s) hT (by omega)
  unfold qt rt
  rw [← hY, e1]
  refine ⟨c1, ?_⟩
  rw [c2, e2, Nat.mul_div_cancel _ hP]
end Go.Proofs.Ytdleeeahonfnkaa

/- RootN -/
namespace Go.Proofs.Ytdleeeahonfnkaa

def dq (n D : Nat) : Nat := n / D + (if D ≤ 2 * (n % D) then 1 else 0)

/-! The root, by steps from above -/
def isq : Nat → Nat
  | 0 => 0
  | n + 1 => if (isq n + 1) * (isq n + 1) ≤ n + 1 then isq n + 1 else isq n
theorem isq_spec : ∀ n, isq n * isq n ≤ n ∧ n < (isq n + 1) * (isq n + 1)
  | 0 => by simp [isq]
  | n + 1 => by
    obtain ⟨h1, h2⟩ := isq_spec n
    unfold isq
    split
    · rename_i h
      refine ⟨h, ?_⟩
      have : (isq n + 1 + 1) * (isq n + 1 + 1) = (isq n + 1) * (isq n + 1) + 2 * (isq n + 1) + 1 := by grind
      omega
    · rename_i h
      exact ⟨by omega, by omega⟩
theorem isq_uniq {n r : Nat} (h1 : r * r ≤ n) (h2 : n < (r + 1) * (r + 1)) : r = isq n := by
  obtain ⟨g1, g2⟩ := isq_spec n
  rcases Nat.lt_trichotomy r (isq n) with h | h | h
  · have := Nat.mul_le_mul (show r + 1 ≤ isq n from h) (show r + 1 ≤ isq n from h)
    omega
  · exact h
  · have := Nat.mul_le_mul (show isq n + 1 ≤ r from h) (show isq n + 1 ≤ r from h)
    omega
theorem isq_le {n x : Nat} (h : n < (x + 1) * (x + 1)) : isq n ≤ x := by
  obtain ⟨g1, _⟩ := isq_spec n
  rcases Nat.lt_or_ge x (isq n) with h2 | h2
  · have := Nat.mul_le_mul (show x + 1 ≤ isq n from h2) (show x + 1 ≤ isq n from h2)
    omega
  · exact h2
theorem newton_end {n x : Nat} (hx : 0 < x) (h : isq n ≤ x) (hq : x ≤ n / x) : x = isq n := by
  refine isq_uniq ((Nat.le_div_iff_mul_le hx).1 hq) ?_
  obtain ⟨_, g2⟩ := isq_spec n
  exact Nat.lt_of_lt_of_le g2 (Nat.mul_le_mul (by omega) (by omega))
theorem newton_step {n x : Nat} (hx : 0 < x) : isq n ≤ (x + n / x) / 2 := by
  obtain ⟨g1, _⟩ := isq_spec n
  generalize isq n = r at *
  rw [Nat.le_div_iff_mul_le (by omega)]
  have hz := Nat.zero_le (n / x)
  generalize hQ : n / x = Q at *
  rcases Nat.lt_or_ge (2 * r) x with h | h
  · omega
  · have h1 : 2 * r - x ≤ Q := by
      rw [← hQ, Nat.le_div_iff_mul_le hx]
      refine Nat.le_trans ?_ g1
      obtain ⟨k, hk⟩ : ∃ k, 2 * r = x + k := ⟨2 * r - x, by omega⟩
      rw [hk, Nat.add_sub_cancel_left]
      have e4 : 4 * (k * x) ≤ (x + k) * (x + k) := by
        rcases Nat.le_total x k with hh | hh
        · obtain ⟨d, rfl⟩ : ∃ d, k = x + d := ⟨k - x, by omega⟩
          have : (x + (x + d)) * (x + (x + d)) = 4 * ((x + d) * x) + d * d := by grind
          omega
        · obtain ⟨d, rfl⟩ : ∃ d, x = k + d := ⟨x - k, by omega⟩
          have : (k + d + k) * (k + d + k) = 4 * (k * (k + d)) + d * d := by grind
          omega
      have e5 : (x + k) * (x + k) = 4 * (r * r) := by rw [← hk]; grind
      omega
    omega
/-- What Div64 asks of its divisor. -/
theorem newton_room {n x : Nat} (hn : n < 85070591730234615865843651857942052864) (h : isq n ≤ x) (hx : 0 < x) : n / 18446744073709551616 < x := by
  obtain ⟨g1, g2⟩ := isq_spec n
  have h1 := Nat.mul_le_mul (show isq n + 1 ≤ x + 1 by omega) (show isq n + 1 ≤ x + 1 by omega)
  rw [Nat.div_lt_iff_lt_mul (by omega)]
  rcases Nat.lt_or_ge x 9223372036854775808 with h2 | h2
  · have h3 : (x + 1) * (x + 1) = x * (x + 2) + 1 := by grind
    have h4 : x * (x + 2) ≤ x * 9223372036854775810 := Nat.mul_le_mul_left _ (by omega)
    omega
  · omega
end Go.Proofs.Ytdleeeahonfnkaa

/- Flag -/
namespace Go.Proofs.Ytdleeeahonfnkaa
open Go.RowKit

/-- The flag: at ⟨p, o⟩ lies h, and it may be written. -/
structure Fl (p o : Nat) (h : Bool) (w : World) : Prop where
  cell : w.cell? ⟨p, o, none⟩ = some (.bool h)
  free : w.frozen? ⟨p, o, none⟩ = false
  lt : p < w.heap.size
/-- Between w and w' the flag became h; of what w held nothing else has changed. -/
structure FlW (p o : Nat) (h : Bool) (w w' : World) : Prop where
  out : Below w.heap.size (w.setCell ⟨p, o, none⟩ (.bool h)) w'

theorem size_set (w : World) (a : Addr) (v : Value) : (w.setCell a v).heap.size = w.heap.size := by simp [World.setCell]
theorem block_cell {w : World} {p o : Nat} {h : Value} (hc : w.cell? ⟨p, o, none⟩ = some h) : ∃ c t f, w.heap[p]? = some (.cells c t f) ∧ c[o]? = some h := by
  unfold World.cell? at hc
  split at hc
  · rename_i c t f hb
    exact ⟨c, t, f, hb, by simpa using hc⟩
  · cases hc
theorem set_block {w : World} {p o : Nat} {c : Array Value} {t : TypeId} {f : Nat × Nat} (hb : w.heap[p]? = some (.cells c t f)) (v : Value) : (w.setCell ⟨p, o, none⟩ v).heap[p]? = some (.cells (c.setIfInBounds o v) t f) := by
  simp [World.setCell, Array.getElem?_modify, hb]
theorem set_cell_same {w : World} {p o : Nat} {h : Value} (hc : w.cell? ⟨p, o, none⟩ = some h) (v : Value) : (w.setCell ⟨p, o, none⟩ v).cell? ⟨p, o, none⟩ = some v := by
  obtain ⟨c, t, f, hb, hget⟩ := block_cell hc
  have ho : o < c.size := by
    rcases Nat.lt_or_ge o c.size with h1 | h1
    · exact h1
    · rw [Array.getElem?_eq_none_iff.2 h1] at hget; cases hget
  unfold World.cell?
  rw [set_block hb v]
  simp [ho]
theorem set_cell_other {w : World} {p o b i : Nat} (hne : b ≠ p ∨ i ≠ o) (v : Value) : (w.setCell ⟨p, o, none⟩ v).cell? ⟨b, i, none⟩ = w.cell? ⟨b, i, none⟩ :=
  World.cell?_setCell_other _ _ _ _ (fun e => by have h1 := congrArg Addr.block e; have h2 := congrArg Addr.off e; simp at h1 h2; rcases hne with h | h <;> omega)
theorem set_frozen (w : World) (p o b i : Nat) (v : Value) : (w.setCell ⟨p, o, none⟩ v).frozen? ⟨b, i, none⟩ = w.frozen? ⟨b, i, none⟩ := by
  have := World.frozen?_setCells p [v] o w ⟨b, i, none⟩
  exact this

theorem FlW.size {p o : Nat} {h : Bool} {w w' : World} (k : FlW p o h w w') : w.heap.size ≤ w'.heap.size := by have := k.out.size; rwa [size_set] at this
theorem FlW.fl {p o : Nat} {h g : Bool} {w w' : World} (f : Fl p o g w) (k : FlW p o h w w') : Fl p o h w' :=
  ⟨by rw [k.out.cell (p := ⟨p, o, none⟩) f.lt]; exact set_cell_same f.cell _, by rw [k.out.frozen (p := ⟨p, o, none⟩) f.lt, set_frozen]; exact f.free, Nat.lt_of_lt_of_le f.lt k.size⟩
theorem FlW.cell {p o : Nat} {h : Bool} {w w' : World} (k : FlW p o h w w') {b i : Nat} (hb : b < w.heap.size) (hne : b ≠ p ∨ i ≠ o) : w'.cell? ⟨b, i, none⟩ = w.cell? ⟨b, i, none⟩ := by
  rw [k.out.cell (p := ⟨b, i, none⟩) hb]; exact set_cell_other hne _
theorem FlW.frozen {p o : Nat} {h : Bool} {w w' : World} (k : FlW p o h w w') {b i : Nat} (hb : b < w.heap.size) : w'.frozen? ⟨b, i, none⟩ = w.frozen? ⟨b, i, none⟩ := by
  rw [k.out.frozen (p := ⟨b, i, none⟩) hb]; exact set_frozen _ _ _ _ _ _
theorem FlW.block {p o : Nat} {h : Bool} {w w' : World} (k : FlW p o h w w') {b : Nat} (hb : b < w.heap.size) (hne : b ≠ p) : w'.heap[b]? = w.heap[b]? := by
  rw [k.out.block b hb, Below.heap_setCell _ _ _ _ hne]
theorem set_again (w : World) (p o : Nat) (u v : Value) (b : Nat) : ((w.setCell ⟨p, o, none⟩ u).setCell ⟨p, o, none⟩ v).heap[b]? = (w.setCell ⟨p, o, none⟩ v).heap[b]? := by
  by_cases h : b = p
  · subst h
    cases hb : w.heap[b]? with
    | none => simp [World.setCell, Array.getElem?_modify, hb]
    | some x => cases x <;> simp [World.setCell, Array.getElem?_modify, hb]
  · rw [Below.heap_setCell _ _ _ _ h, Below.heap_setCell _ _ _ _ h, Below.heap_setCell _ _ _ _ h]
theorem set_heap_congr {w w' : World} {p o : Nat} {v : Value} {b : Nat} (h : w'.heap[b]? = w.heap[b]?) : (w'.setCell ⟨p, o, none⟩ v).heap[b]? = (w.setCell ⟨p, o, none⟩ v).heap[b]? := by
  simp only [World.setCell, Array.getElem?_modify, h]
theorem FlW.set {p o : Nat} (h : Bool) (w : World) : FlW p o h w (w.setCell ⟨p, o, none⟩ (.bool h)) := ⟨Below.refl _ _⟩
theorem FlW.refl {p o : Nat} {h : Bool} {w : World} (f : Fl p o h w) : FlW p o h w w := by
  refine ⟨⟨rfl, rfl, rfl, by rw [size_set]; exact Nat.le_refl _, fun b hb => ?_⟩⟩
  by_cases hp : b = p
  · subst hp
    obtain ⟨c, t, fr, hbk, hget⟩ := block_cell f.cell
    rw [set_block hbk, hbk]
    congr 2
    refine Array.ext_getElem? fun i => ?_
    rw [Array.getElem?_setIfInBounds]
    split
    · rename_i e; subst e
      split
      · exact hget
      · rename_i hl; rw [Array.getElem?_eq_none_iff.2 (by omega)]
    · rfl
  · rw [Below.heap_setCell _ _ _ _ hp]
theorem FlW.then {p o : Nat} {h : Bool} {w w1 w2 : World} (k : FlW p o h w w1) (hb : Below w1.heap.size w1 w2) : FlW p o h w w2 := ⟨k.out.trans (hb.mono k.size)⟩
theorem FlW.thenAt {p o N : Nat} {h : Bool} {w w1 w2 : World} (k : FlW p o h w w1) (hN : w.heap.size ≤ N) (hb : Below N w1 w2) : FlW p o h w w2 := ⟨k.out.trans (hb.mono hN)⟩
theorem FlW.trans {p o : Nat} {h g : Bool} {w w1 w2 : World} (k : FlW p o h w w1) (l : FlW p o g w1 w2) : FlW p o g w w2 := by
  refine ⟨⟨l.out.os.trans k.out.os, l.out.tape.trans k.out.tape, l.out.output.trans k.out.output, ?_, fun b hb => ?_⟩⟩
  · rw [size_set]; exact Nat.le_trans k.size l.size
  · rw [l.out.block b (Nat.lt_of_lt_of_le hb k.size), ← set_again w p o (.bool h) (.bool g) b]
    exact set_heap_congr (k.out.block b hb)
theorem FlW.after {p o : Nat} {h g : Bool} {w w1 w2 : World} (f : Fl p o g w) (hb : Below w.heap.size w w1) (l : FlW p o h w1 w2) : FlW p o h w w2 :=
  ((FlW.refl f).then hb).trans l
/-- Where the flag lies in a block that is newer than N, all below N is as it was. -/
theorem FlW.below {p o N : Nat} {h : Bool} {w w' : World} (k : FlW p o h w w') (hN : N ≤ w.heap.size) (hp : N ≤ p) : Below N w w' :=
  ((Below.refl N w).setCell (p := ⟨p, o, none⟩) hp (.bool h)).trans (k.out.mono hN)
theorem FlW.alloc {p o : Nat} {h : Bool} {w w1 : World} (k : FlW p o h w w1) (x : Obj) : FlW p o h w (w1.alloc x) := k.then ((Below.refl _ _).alloc (Nat.le_refl _) _)
theorem FlW.drew {p o : Nat} {h : Bool} {w w1 : World} (k : FlW p o h w w1) : FlW p o h w w1.drew := ⟨k.out.drew⟩
theorem FlW.other {p o b i : Nat} {h : Bool} {w w1 : World} (k : FlW p o h w w1) (hb : w.heap.size ≤ b) (v : Value) : FlW p o h w (w1.setCell ⟨b, i, none⟩ v) := ⟨k.out.setCell (p := ⟨b, i, none⟩) hb v⟩
theorem Fl.below {p o : Nat} {h : Bool} {w w1 : World} (f : Fl p o h w) (hb : Below w.heap.size w w1) : Fl p o h w1 := FlW.fl f ((FlW.refl f).then hb)
theorem Fl.alloc {p o : Nat} {h : Bool} {w : World} (f : Fl p o h w) (x : Obj) : Fl p o h (w.alloc x) := f.below ((Below.refl _ _).alloc (Nat.le_refl _) _)
theorem Fl.drew {p o : Nat} {h : Bool} {w : World} (f : Fl p o h w) : Fl p o h w.drew := ⟨f.cell, f.free, f.lt⟩
theorem Fl.made (w : World) (t : TypeId) (h : Bool) : Fl w.heap.size 0 h (w.alloc (.cells #[.bool h] t)) := by
  have e : (w.alloc (.cells #[.bool h] t)).heap[w.heap.size]? = some (.cells #[.bool h] t (0, 0)) := heap_alloc_new w _
  exact ⟨by rw [cell_of_row _ _ _ _ _ _ e]; rfl, by unfold World.frozen?; rw [e]; rfl, by simp⟩
theorem Fl.made_at (w : World) (t : TypeId) (h : Bool) {B : Nat} (hB : w.heap.size = B) : Fl B 0 h (w.alloc (.cells #[.bool h] t)) := by subst hB; exact Fl.made w t h
/-- As 'Ext', where the block p may change. -/
abbrev FExt (p : Nat) (W w' : World) : Prop := (∀ b i, b ≠ p → b < W.heap.size → w'.cell? ⟨b, i, none⟩ = W.cell? ⟨b, i, none⟩) ∧ W.heap.size ≤ w'.heap.size
theorem FExt.start0 (p : Nat) (W : World) : FExt p W W := ⟨fun _ _ _ _ => rfl, Nat.le_refl _⟩
theorem FExt.start (p : Nat) (W : World) : FExt p W W.drew := ⟨fun _ _ _ _ => by simp, Nat.le_refl _⟩
theorem FExt.drew {p : Nat} {W w1 : World} (h : FExt p W w1) : FExt p W w1.drew := ⟨fun b i hne hlt => by simpa using h.1 b i hne hlt, h.2⟩
theorem FExt.call {p : Nat} {W w1 w2 : World} (h : FExt p W w1) (hb : Below w1.heap.size w1 w2) : FExt p W w2 :=
  ⟨fun b i hne hlt => (hb.cell (p := ⟨b, i, none⟩) (Nat.lt_of_lt_of_le hlt h.2)).trans (h.1 b i hne hlt), Nat.le_trans h.2 hb.size⟩
theorem FExt.flag {p o : Nat} {g : Bool} {W w1 w2 : World} (h : FExt p W w1) (k : FlW p o g w1 w2) : FExt p W w2 :=
  ⟨fun b i hne hlt => (k.cell (Nat.lt_of_lt_of_le hlt h.2) (.inl hne)).trans (h.1 b i hne hlt), Nat.le_trans h.2 k.size⟩
theorem FExt.alloc {p : Nat} {W w1 : World} (h : FExt p W w1) (x : Obj) : FExt p W (w1.alloc x) := h.call ((Below.refl _ _).alloc (Nat.le_refl _) _)
theorem FExt.other {p : Nat} {W w1 : World} (h : FExt p W w1) {b : Nat} (hb : W.heap.size ≤ b) (i : Nat) (v : Value) : FExt p W (w1.setCell ⟨b, i, none⟩ v) :=
  ⟨fun b' i' hne hlt => (set_cell_other (.inl (by omega)) v).trans (h.1 b' i' hne hlt), by rw [size_set]; exact h.2⟩
end Go.Proofs.Ytdleeeahonfnkaa

/- Mem -/
namespace Go.Proofs.Ytdleeeahonfnkaa
open Go.RowKit

theorem cellAt {N b i : Nat} {w w' : World} (h : Below N w w') (hb : b < N) : w'.cell? ⟨b, i, none⟩ = w.cell? ⟨b, i, none⟩ := h.cell (p := ⟨b, i, none⟩) hb
theorem i64_id (x : Int) (h1 : -9223372036854775808 ≤ x) (h2 : x ≤ 9223372036854775807) : IntKind.i64.wrap x = x := by
  rw [IntKind.wrap_i64]; omega
theorem alloc_old {w : World} {B : Nat} {o : Obj} (h : w.heap[B]? = some o) (x : Obj) : (w.alloc x).heap[B]? = some o := by
  have hl : B < w.heap.size := by
    rcases Nat.lt_or_ge B w.heap.size with h1 | h1
    · exact h1
    · rw [Array.getElem?_eq_none_iff.2 h1] at h; cases h
  rw [Below.heap_alloc _ _ _ hl]; exact h
theorem size_alloc (w : World) (o : Obj) : (w.alloc o).heap.size = w.heap.size + 1 := by simp
/-- All that X held is as it was. -/
abbrev BExt (X w' : World) : Prop := (∀ b o, b < X.heap.size → w'.cell? ⟨b, o, none⟩ = X.cell? ⟨b, o, none⟩) ∧ Below X.heap.size X w'
theorem BExt.of {X w' : World} (h : Below X.heap.size X w') : BExt X w' := ⟨fun b o hlt => h.cell (p := ⟨b, o, none⟩) hlt, h⟩
theorem BExt.start (X : World) : BExt X X.drew := .of (Below.refl _ _).drew
theorem BExt.start0 (X : World) : BExt X X := .of (Below.refl _ _)
theorem BExt.drew {X w1 : World} (h : BExt X w1) : BExt X w1.drew := .of h.2.drew
theorem BExt.call {X w1 w2 : World} (h : BExt X w1) (hb : Below w1.heap.size w1 w2) : BExt X w2 := .of (h.2.trans (hb.mono h.2.size))
theorem BExt.alloc {X w1 : World} (h : BExt X w1) (o : Obj) : BExt X (w1.alloc o) := .of (h.2.alloc h.2.size o)
theorem BExt.other {X w1 : World} (h : BExt X w1) {b i : Nat} (hb : X.heap.size ≤ b) (v : Value) : BExt X (w1.setCell ⟨b, i, none⟩ v) := .of (h.2.setCell (p := ⟨b, i, none⟩) hb v)
/-- The cells of the list hold what it says. -/
structure Mem (w : World) (L : List (Nat × Nat × Value)) : Prop where
  all : ∀ x ∈ L, x.1 < w.heap.size ∧ w.cell? ⟨x.1, x.2.1, none⟩ = some x.2.2
theorem Mem.nil (w : World) : Mem w [] := ⟨fun _ h => by cases h⟩
theorem Mem.cons {w : World} {L : List (Nat × Nat × Value)} {b i : Nat} {v : Value} (h : w.cell? ⟨b, i, none⟩ = some v) (m : Mem w L) : Mem w ((b, i, v) :: L) :=
  ⟨fun x hx => by
    rcases List.mem_cons.1 hx with rfl | hx
    · exact ⟨World.block_lt_of_cell? w ⟨b, i, none⟩ h, h⟩
    · exact m.all x hx⟩
theorem Mem.below {w w' : World} {L : List (Nat × Nat × Value)} (m : Mem w L) (hb : Below w.heap.size w w') : Mem w' L :=
  ⟨fun x hx => ⟨Nat.lt_of_lt_of_le (m.all x hx).1 hb.size, (cellAt hb (m.all x hx).1).trans (m.all x hx).2⟩⟩
theorem Mem.alloc {w : World} {L : List (Nat × Nat × Value)} (m : Mem w L) (o : Obj) : Mem (w.alloc o) L := m.below ((Below.refl _ _).alloc (Nat.le_refl _) o)
theorem Mem.drew {w : World} {L : List (Nat × Nat × Value)} (m : Mem w L) : Mem w.drew L := m.below (Below.refl _ _).drew
theorem Mem.set {w : World} {L : List (Nat × Nat × Value)} (m : Mem w L) {b i : Nat} (h : ∀ x ∈ L, x.1 ≠ b ∨ x.2.1 ≠ i) (v : Value) : Mem (w.setCell ⟨b, i, none⟩ v) L :=
  ⟨fun x hx => ⟨by rw [size_set]; exact (m.all x hx).1, (set_cell_other (h x hx) v).trans (m.all x hx).2⟩⟩
theorem Mem.flag {w w' : World} {L : List (Nat × Nat × Value)} {p o : Nat} {h : Bool} (m : Mem w L) (hp : ∀ x ∈ L, x.1 ≠ p) (k : FlW p o h w w') : Mem w' L :=
  ⟨fun x hx => ⟨Nat.lt_of_lt_of_le (m.all x hx).1 k.size, (k.cell (m.all x hx).1 (.inl (hp x hx))).trans (m.all x hx).2⟩⟩
theorem Mem.head {w : World} {L : List (Nat × Nat × Value)} {b i : Nat} {v : Value} (m : Mem w ((b, i, v) :: L)) : w.cell? ⟨b, i, none⟩ = some v := (m.all _ (List.mem_cons_self ..)).2
theorem Mem.lt {w : World} {L : List (Nat × Nat × Value)} {b i : Nat} {v : Value} (m : Mem w ((b, i, v) :: L)) : b < w.heap.size := (m.all _ (List.mem_cons_self ..)).1
theorem Mem.tail {w : World} {L : List (Nat × Nat × Value)} {x : Nat × Nat × Value} (m : Mem w (x :: L)) : Mem w L := ⟨fun y hy => m.all y (List.mem_cons_of_mem _ hy)⟩
theorem Mem.append {w : World} {L M : List (Nat × Nat × Value)} (m : Mem w L) (n : Mem w M) : Mem w (L ++ M) :=
  ⟨fun x hx => by
    rcases List.mem_append.1 hx with h | h
    · exact m.all x h
    · exact n.all x h⟩
/-- A new block's cells. -/
theorem Mem.made (w : World) (c : Array Value) (t : TypeId) {B : Nat} (hB : w.heap.size = B) : Mem (w.alloc (.cells c t)) (c.toList.zipIdx.map fun x => (B, x.2, x.1)) := by
  subst hB
  refine ⟨fun x hx => ?_⟩
  obtain ⟨y, hy, rfl⟩ := List.mem_map.1 hx
  have e : (w.alloc (.cells c t)).heap[w.heap.size]? = some (.cells c t (0, 0)) := heap_alloc_new w _
  refine ⟨by simp, ?_⟩
  rw [cell_of_row _ _ _ _ _ _ e]
  have := List.mem_zipIdx' hy
  obtain ⟨h1, h2⟩ := this
  simp at h1 h2
  rw [h2]
  simp [h1]
/-- A block that is known whole. -/
def Blk (w : World) (B : Nat) (c : Array Value) (t : TypeId) : Prop := w.heap[B]? = some (.cells c t (0, 0))
theorem Blk.lt {w : World} {B : Nat} {c : Array Value} {t : TypeId} (h : Blk w B c t) : B < w.heap.size := by
  rcases Nat.lt_or_ge B w.heap.size with h1 | h1
  · exact h1
  · have := (Array.getElem?_eq_none_iff.2 h1).symm.trans h
    cases this
theorem Blk.made (w : World) (c : Array Value) (t : TypeId) {B : Nat} (hB : w.heap.size = B) : Blk (w.alloc (.cells c t)) B c t := by subst hB; exact heap_alloc_new w _
theorem Blk.below {w w' : World} {B N : Nat} {c : Array Value} {t : TypeId} (h : Blk w B c t) (hb : Below N w w') (hB : B < N) : Blk w' B c t := (hb.block _ hB).trans h
theorem Blk.call {w w' : World} {B : Nat} {c : Array Value} {t : TypeId} (h : Blk w B c t) (hb : Below w.heap.size w w') : Blk w' B c t := h.below hb h.lt
theorem Blk.flag {w w' : World} {B p o : Nat} {f : Bool} {c : Array Value} {t : TypeId} (h : Blk w B c t) (hp : B ≠ p) (k : FlW p o f w w') : Blk w' B c t := (k.block h.lt hp).trans h
theorem Blk.alloc {w : World} {B : Nat} {c : Array Value} {t : TypeId} (h : Blk w B c t) (o : Obj) : Blk (w.alloc o) B c t := alloc_old h o
theorem Blk.drew {w : World} {B : Nat} {c : Array Value} {t : TypeId} (h : Blk w B c t) : Blk w.drew B c t := h
theorem Blk.other {w : World} {B b i : Nat} {c : Array Value} {t : TypeId} (h : Blk w B c t) (hb : B ≠ b) (v : Value) : Blk (w.setCell ⟨b, i, none⟩ v) B c t := (Below.heap_setCell _ _ _ _ hb).trans h
theorem Blk.set {w : World} {B i : Nat} {c : Array Value} {t : TypeId} (h : Blk w B c t) (v : Value) : Blk (w.setCell ⟨B, i, none⟩ v) B (c.setIfInBounds i v) t := set_block h v
theorem Blk.cell {w : World} {B : Nat} {c : Array Value} {t : TypeId} (h : Blk w B c t) (i : Nat) : w.cell? ⟨B, i, none⟩ = c[i]? := cell_of_row _ _ _ _ _ _ h
theorem Blk.free {w : World} {B : Nat} {c : Array Value} {t : TypeId} (h : Blk w B c t) (i : Nat) : w.frozen? ⟨B, i, none⟩ = false := by
  unfold World.frozen?
  rw [show w.heap[B]? = _ from h]
  simp
end Go.Proofs.Ytdleeeahonfnkaa
