/- Package wide: sums of any number of terms. -/
import Derived.Test.YtahedampmjfoeaaWideD
namespace Go.Proofs.Ytahedampmjfoeaa
open Go.RowKit

/-! Signs of numbers of 64 bits -/
theorem bits_sign (x : BitVec 64) : IntKind.i64.wrap (x.toNat : Int) < 0 ↔ x.msb = true := by
  rw [BitVec.msb_eq_decide, IntKind.wrap_i64]
  have := x.isLt
  simp only [decide_eq_true_eq]
  omega
theorem msb_int (a : Int) (h1 : -9223372036854775808 ≤ a) (h2 : a ≤ 9223372036854775807) : (BitVec.ofInt 64 a).msb = decide (a < 0) := by
  rw [BitVec.msb_eq_decide, BitVec.toNat_ofInt]
  by_cases h : a < 0
  · rw [decide_eq_true h]; simp only [decide_eq_true_eq]; omega
  · rw [decide_eq_false h]; simp only [decide_eq_false_iff_not]; omega
theorem wrap_bv (x : BitVec 64) : BitVec.ofInt 64 (IntKind.i64.wrap (x.toNat : Int)) = x := by
  apply BitVec.eq_of_toNat_eq
  rw [BitVec.toNat_ofInt, IntKind.wrap_i64]
  have := x.isLt
  omega
/-- Only two numbers of one sign can go too far, and then the sign turns. -/
theorem turned (p q n : Int) (p1 : -9223372036854775808 ≤ p) (p2 : p ≤ 9223372036854775807) (q1 : -9223372036854775808 ≤ q) (q2 : q ≤ 9223372036854775807) (n1 : -9223372036854775808 ≤ n) (n2 : n ≤ 9223372036854775807) :
    bits .and .i64 (bits .xor .i64 p n) (bits .xor .i64 q n) < 0 ↔ ((p < 0) ↔ ¬ n < 0) ∧ ((q < 0) ↔ ¬ n < 0) := by
  have e : bits .and .i64 (bits .xor .i64 p n) (bits .xor .i64 q n) = IntKind.i64.wrap (((BitVec.ofInt 64 p ^^^ BitVec.ofInt 64 n) &&& (BitVec.ofInt 64 q ^^^ BitVec.ofInt 64 n)).toNat : Int) := by
    show IntKind.i64.wrap ((BitVec.ofInt 64 (IntKind.i64.wrap ((BitVec.ofInt 64 p ^^^ BitVec.ofInt 64 n).toNat : Int)) &&& BitVec.ofInt 64 (IntKind.i64.wrap ((BitVec.ofInt 64 q ^^^ BitVec.ofInt 64 n).toNat : Int))).toNat : Int) = _
    rw [wrap_bv, wrap_bv]
  rw [e, bits_sign, BitVec.msb_and, BitVec.msb_xor, BitVec.msb_xor, msb_int p p1 p2, msb_int q q1 q2, msb_int n n1 n2]
  by_cases a : p < 0 <;> by_cases b : q < 0 <;> by_cases c : n < 0 <;> simp [a, b, c]

def nextHi (x y : Int) : Int := wrap64 (wrap64 (wh x + wh y) + wrap64 (addHi (wl x) (wl y)))
theorem next_lo (x y : Int) : addLo (wl x) (wl y) = wl (x + y) := by unfold addLo wl; omega
theorem next_hi {x y : Int} (hx : InW x) (hy : InW y) (hs : InW (x + y)) : nextHi x y = wh (x + y) := by
  have := hx.lo; have := hx.hi; have := hy.lo; have := hy.hi; have := hs.lo; have := hs.hi
  unfold nextHi wrap64 addHi wh wl
  omega
theorem next_bd (x y : Int) : -9223372036854775808 ≤ nextHi x y ∧ nextHi x y ≤ 9223372036854775807 := by unfold nextHi wrap64; omega
theorem next_ok {x y : Int} (hx : InW x) (hy : InW y) : bits .and .i64 (bits .xor .i64 (wh x) (nextHi x y)) (bits .xor .i64 (wh y) (nextHi x y)) < 0 ↔ ¬ InW (x + y) := by
  rw [turned _ _ _ (wh_lo hx) (wh_hi hx) (wh_lo hy) (wh_hi hy) (next_bd x y).1 (next_bd x y).2]
  have := hx.lo; have := hx.hi; have := hy.lo; have := hy.hi
  have e : InW (x + y) ↔ -170141183460469231731687303715884105728 ≤ x + y ∧ x + y < 170141183460469231731687303715884105728 := ⟨fun h => ⟨h.lo, h.hi⟩, fun h => ⟨h.1, h.2⟩⟩
  rw [e]
  unfold nextHi wrap64 addHi wh wl
  omega
def accum (xs : Nat → Int) : Nat → Int
  | 0 => 0
  | k + 1 => accum xs k + xs k
theorem inW_zero : InW 0 := ⟨by omega, by omega⟩
theorem wh_zero : wh 0 = 0 := rfl
theorem wl_zero : wl 0 = 0 := rfl

/-- The slice's numbers, in memory. -/
structure Holds (w : World) (b o n : Nat) (xs : Nat → Int) : Prop where
  hi : ∀ i, i < n → w.cell? ⟨b, o + i * 2, none⟩ = some (.int .i64 (wh (xs i)))
  lo : ∀ i, i < n → w.cell? ⟨b, o + i * 2 + 1, none⟩ = some (.int .u64 (wl (xs i)))
theorem heap_set2 {w : World} {B : Nat} {a b : Value} {t : TypeId} {fr : Nat × Nat} (h : w.heap[B]? = some (.cells #[a, b] t fr)) (x y : Value) : ((w.setCell ⟨B, 0, none⟩ x).setCell ⟨B, 1, none⟩ y).heap[B]? = some (.cells #[x, y] t fr) := by
  simp [World.setCell, Array.getElem?_modify, h]
def addRes (xs : Nat → Int) (n m : Nat) : Value := if m = n then .tuple #[Wv (accum xs n), .bool true] else .tuple #[.agg #[.int .i64 0, .int .u64 0], .bool false]
set_option maxHeartbeats 2000000 in
theorem wadd_any (b o n c m : Nat) (xs : Nat → Int) (w : World) (hn : n ≤ 9223372036854775807) (hb : b < w.heap.size) (hx : ∀ i, i < n → InW (xs i)) (hm : m ≤ n) (hok : ∀ k, k ≤ m → InW (accum xs k)) (hend : m = n ∨ ¬ InW (accum xs (m + 1))) (hc : Holds w b o n xs) :
    Calls Try.prog 24 #[.slice (some ⟨b, o, none⟩) n c] w fun e w' => e = .returned (addRes xs n m) ∧ Below w.heap.size w w' := by
  go_enter Try.func24, Try.ntmps24
  go_wp2
  go_loopw [12] (fun i wr => ∃ k : Nat, k ≤ m ∧ i = .int .i64 k ∧ wr.heap[w.heap.size]? = some (.cells #[.int .i64 0, .int .u64 0] 27 (0, 0)) ∧ wr.heap[w.heap.size + 1]? = some (.cells #[.int .i64 (wh (accum xs k)), .int .u64 (wl (accum xs k))] 27 (0, 0)) ∧ w.heap.size + 1 < wr.heap.size ∧ Below w.heap.size w wr) (fun i _ => n - (intOf i).toNat)
  case atStart =>
    refine ⟨0, Nat.zero_le _, rfl, ?_, ?_, by simp, ((Below.refl _ _).alloc (Nat.le_refl _) _).alloc (by simp) _⟩
    · exact heap_alloc2_old w _ _
    · exact heap_alloc2_new w _ _
  case round =>
    obtain ⟨k, hk, rfl, e0, e1, hz, hB⟩ := hrel
    have c0 : wr.cell? ⟨w.heap.size, 0, none⟩ = some (.int .i64 0) := by rw [cell_of_row wr _ _ _ _ _ e0]; rfl
    have c1 : wr.cell? ⟨w.heap.size, 1, none⟩ = some (.int .u64 0) := by rw [cell_of_row wr _ _ _ _ _ e0]; rfl
    have a0 : wr.cell? ⟨w.heap.size + 1, 0, none⟩ = some (.int .i64 (wh (accum xs k))) := by rw [cell_of_row wr _ _ _ _ _ e1]; rfl
    have a1 : wr.cell? ⟨w.heap.size + 1, 1, none⟩ = some (.int .u64 (wl (accum xs k))) := by rw [cell_of_row wr _ _ _ _ _ e1]; rfl
    have g : ∀ o, wr.frozen? ⟨w.heap.size + 1, o, none⟩ = false := fun o => by simp [World.frozen?, e1]
    have g0 : ∀ o, wr.frozen? ⟨w.heap.size, o, none⟩ = false := fun o => by simp [World.frozen?, e0]
    have E0 := Lib.hid e0
    have E1 := Lib.hid e1
    clear e0 e1
    have hz0 : w.heap.size < wr.heap.size := by omega
    have h0 : (0 : Int) ≤ k := by omega
    by_cases hlt : k < n
    · have b0 := (hB.cell (p := ⟨b, o + k * 2, none⟩) hb).trans (hc.hi k hlt)
      have b1 := (hB.cell (p := ⟨b, o + k * 2 + 1, none⟩) hb).trans (hc.lo k hlt)
      have hrun := fun w => add64_run (wl (accum xs k)) (wl (xs k)) w (wl_lo _) (wl_lo _)
      have h8 : (k : Int) < n := by omega
      have HX := Lib.hid (hx k hlt)
      have HK := Lib.hid (hok k hk)
      by_cases hkm : k < m
      · have H := Lib.hid (hok (k + 1) hkm)
        have ht := mt (next_ok HK.out HX.out).1 (fun f => f H.out)
        unfold nextHi at ht
        clear hok hx hc hend
        go_wp2
        go_roundw
        case rel =>
          refine ⟨k + 1, hkm, by go_num, ?_, ?_, ?_, ?_⟩
          · rw [Below.heap_alloc _ _ _ (by simp [World.setCell]; omega), Below.heap_alloc _ _ _ (by simp [World.setCell]; omega), Below.heap_setCell _ _ _ _ (by simp), Below.heap_setCell _ _ _ _ (by simp)]
            exact E0.out
          · rw [Below.heap_alloc _ _ _ (by simp [World.setCell]; omega), Below.heap_alloc _ _ _ (by simp [World.setCell]; omega), heap_set2 E1.out, next_lo]
            rw [show wrap64 (wrap64 (wh (accum xs k) + wh (xs k)) + wrap64 (addHi (wl (accum xs k)) (wl (xs k)))) = wh (accum xs (k + 1)) from next_hi HK.out HX.out H.out]
            rfl
          · simp [World.setCell]; omega
          · exact (((hB.setCell (Nat.le_add_right _ _) _).setCell (Nat.le_add_right _ _) _).alloc (by simp [World.setCell]; omega) _).alloc (by simp [World.setCell]; omega) _
        case measure => simp [intOf]; omega
      · obtain rfl : k = m := by omega
        have hne : ¬ k = n := by omega
        have H := Lib.hid (hend.resolve_left hne)
        have HR := Lib.hid (show addRes xs n k = .tuple #[.agg #[.int .i64 0, .int .u64 0], .bool false] by unfold addRes; rw [if_neg hne])
        have ht := (next_ok HK.out HX.out).2 H.out
        unfold nextHi at ht
        clear hok hx hc hend hne hm
        go_wp2
        rw [HR.out]
        exact bodyPost_ret (v := .tuple #[.agg #[.int .i64 0, .int .u64 0], .bool false]) (by simp [results, Try.results24, go_sem, c0, c1, hz0]) rfl ⟨rfl, (((hB.setCell (Nat.le_refl _) _).setCell (Nat.le_refl _) _).alloc (by simp [World.setCell]; omega) _).alloc (by simp [World.setCell]; omega) _⟩
    · obtain rfl : k = n := by omega
      obtain rfl : k = m := by omega
      have HR := Lib.hid (show addRes xs k k = .tuple #[Wv (accum xs k), .bool true] by unfold addRes; rw [if_pos rfl])
      clear hok hx hc hend hm
      go_wp2
      rw [HR.out]
      exact bodyPost_ret (v := .tuple #[Wv (accum xs k), .bool true]) (by simp [results, Try.results24, go_sem, c0, c1]) rfl ⟨rfl, (hB.setCell (Nat.le_refl _) _).setCell (Nat.le_refl _) _⟩
end Go.Proofs.Ytahedampmjfoeaa
