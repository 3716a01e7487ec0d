/- Small facts on blocks of eight numbers and on digits to the base 2 to the 32; nothing of a program is used. -/
import Derived.WalkKit
import Derived.WalkLawsBesides
import Derived.WalkSpells
import Derived.Laws.Rows
import Derived.Lib.Hide
import Derived.WalkSmall
import Derived.Laws.Bits64b
namespace Go.Proofs.Ytahedampmjfoeaa
open Go.RowKit

/-- Digit i of n to the base 2^32. -/
def dg (n : Nat) (i : Nat) : Int := ((n / 4294967296 ^ i % 4294967296 : Nat) : Int)
theorem dg_lo (n i : Nat) : 0 ≤ dg n i := by unfold dg; omega
theorem dg_hi (n i : Nat) : dg n i ≤ 4294967295 := by unfold dg; omega
def row8 (f : Nat → Int) : Array Value := #[.int .u64 (f 0), .int .u64 (f 1), .int .u64 (f 2), .int .u64 (f 3), .int .u64 (f 4), .int .u64 (f 5), .int .u64 (f 6), .int .u64 (f 7)]
theorem row8_get (f : Nat → Int) (j : Nat) (h : j < 8) : (row8 f)[j]? = some (.int .u64 (f j)) := by
  match j, h with
  | 0, _ => rfl
  | 1, _ => rfl
  | 2, _ => rfl
  | 3, _ => rfl
  | 4, _ => rfl
  | 5, _ => rfl
  | 6, _ => rfl
  | 7, _ => rfl
theorem row8_congr (f g : Nat → Int) (h : ∀ j, j < 8 → f j = g j) : row8 f = row8 g := by
  unfold row8
  rw [h 0 (by omega), h 1 (by omega), h 2 (by omega), h 3 (by omega), h 4 (by omega), h 5 (by omega), h 6 (by omega), h 7 (by omega)]
/-- The block B holds eight numbers. -/
def Has8 (w : World) (t : TypeId) (B : Nat) (f : Nat → Int) : Prop := w.heap[B]? = some (.cells (row8 f) t (0, 0))
theorem Has8.cell {w : World} {t : TypeId} {B : Nat} {f : Nat → Int} (h : Has8 w t B f) (j : Nat) (hj : j < 8) : w.cell? ⟨B, j, none⟩ = some (.int .u64 (f j)) := by
  rw [cell_of_row w B j _ t _ h, row8_get f j hj]
theorem Has8.free {w : World} {t : TypeId} {B : Nat} {f : Nat → Int} (h : Has8 w t B f) (j : Nat) : w.frozen? ⟨B, j, none⟩ = false := by
  simp [World.frozen?, show w.heap[B]? = _ from h]
theorem Has8.drew {w : World} {t : TypeId} {B : Nat} {f : Nat → Int} (h : Has8 w t B f) : Has8 w.drew t B f := h
theorem Has8.drewN {w : World} {t : TypeId} {B n : Nat} {f : Nat → Int} (h : Has8 w t B f) : Has8 (w.drewN n) t B f := by
  induction n generalizing w with
  | zero => exact h
  | succ n ih => exact ih (w := w.drew) h
theorem Has8.lt {w : World} {t : TypeId} {B : Nat} {f : Nat → Int} (h : Has8 w t B f) : B < w.heap.size := by
  rcases Nat.lt_or_ge B w.heap.size with h1 | h1
  · exact h1
  · have := (Array.getElem?_eq_none_iff.2 h1).symm.trans h
    cases this
theorem Has8.alloc {w : World} {t : TypeId} {B : Nat} {f : Nat → Int} (h : Has8 w t B f) (o : Obj) : Has8 (w.alloc o) t B f := by
  unfold Has8
  rw [Below.heap_alloc w o B h.lt]; exact h
theorem Has8.made (w : World) (t : TypeId) (f : Nat → Int) : Has8 (w.alloc (.cells (row8 f) t)) t w.heap.size f := heap_alloc_new w _
theorem Has8.other {w : World} {t : TypeId} {B : Nat} {f : Nat → Int} (h : Has8 w t B f) {a : Addr} (ha : B ≠ a.block) (v : Value) : Has8 (w.setCell a v) t B f := by
  unfold Has8
  rw [Below.heap_setCell _ _ _ _ ha]; exact h
theorem Has8.below {w w' : World} {t : TypeId} {B N : Nat} {f : Nat → Int} (h : Has8 w t B f) (hb : Below N w w') (hB : B < N) : Has8 w' t B f := (hb.block B hB).trans h
theorem Has8.congr {w : World} {t : TypeId} {B : Nat} {f g : Nat → Int} (h : Has8 w t B f) (e : ∀ j, j < 8 → f j = g j) : Has8 w t B g := by
  unfold Has8 at *
  rw [h, row8_congr f g e]
def upd (f : Nat → Int) (k : Nat) (v : Int) : Nat → Int := fun j => if j = k then v else f j
theorem Has8.set {w : World} {t : TypeId} {B : Nat} {f : Nat → Int} (h : Has8 w t B f) (k : Nat) (hk : k < 8) (v : Int) : Has8 (w.setCell ⟨B, k, none⟩ (.int .u64 v)) t B (upd f k v) := by
  unfold Has8 World.setCell at *
  simp only [Array.getElem?_modify, if_pos, h, Option.map_some]
  match k, hk with
  | 0, _ => rfl
  | 1, _ => rfl
  | 2, _ => rfl
  | 3, _ => rfl
  | 4, _ => rfl
  | 5, _ => rfl
  | 6, _ => rfl
  | 7, _ => rfl
theorem Has8.cells {w : World} {t : TypeId} {B : Nat} {f : Nat → Int} (h : Has8 w t B f) :
    w.cell? ⟨B, 0, none⟩ = some (.int .u64 (f 0)) ∧ w.cell? ⟨B, 1, none⟩ = some (.int .u64 (f 1)) ∧ w.cell? ⟨B, 2, none⟩ = some (.int .u64 (f 2)) ∧ w.cell? ⟨B, 3, none⟩ = some (.int .u64 (f 3)) ∧
    w.cell? ⟨B, 4, none⟩ = some (.int .u64 (f 4)) ∧ w.cell? ⟨B, 5, none⟩ = some (.int .u64 (f 5)) ∧ w.cell? ⟨B, 6, none⟩ = some (.int .u64 (f 6)) ∧ w.cell? ⟨B, 7, none⟩ = some (.int .u64 (f 7)) :=
  ⟨h.cell 0 (by omega), h.cell 1 (by omega), h.cell 2 (by omega), h.cell 3 (by omega), h.cell 4 (by omega), h.cell 5 (by omega), h.cell 6 (by omega), h.cell 7 (by omega)⟩
theorem Has8.made_at (w : World) (t : TypeId) {B : Nat} (hB : w.heap.size = B) (f : Nat → Int) : Has8 (w.alloc (.cells (row8 f) t)) t B f := by subst hB; exact Has8.made w t f
theorem and_mask (x : Int) (h0 : 0 ≤ x) (h1 : x < 18446744073709551616) : bits .and .u64 x 4294967295 = x % 4294967296 := by
  obtain ⟨a, rfl⟩ := Int.eq_ofNat_of_zero_le h0
  have h := bits_and_u64_nat a 4294967295 (by omega) (by omega)
  have e : a &&& 4294967295 = a % 4294967296 := Nat.and_two_pow_sub_one_eq_mod a 32
  rw [e] at h
  exact h

abbrev A8 (n : Nat) : Value := .agg #[.int .u64 (dg n 0), .int .u64 (dg n 1), .int .u64 (dg n 2), .int .u64 (dg n 3), .int .u64 (dg n 4), .int .u64 (dg n 5), .int .u64 (dg n 6), .int .u64 (dg n 7)]
end Go.Proofs.Ytahedampmjfoeaa
