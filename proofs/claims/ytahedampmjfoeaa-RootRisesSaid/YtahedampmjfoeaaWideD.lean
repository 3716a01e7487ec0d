/- Package wide: the other sign; products; comparing. -/
import Derived.Test.YtahedampmjfoeaaWideC
namespace Go.Proofs.Ytahedampmjfoeaa
open Go.RowKit

theorem wneg_no (v : Int) (w : World) (h : wh v = -9223372036854775808) (h2 : wl v = 0) :
    Calls Try.prog 20 #[Wv v] w fun e w' => e = .returned (.tuple #[.agg #[.int .i64 0, .int .u64 0], .bool false]) ∧ Below w.heap.size w w' := by
  have t1 : (wh v == -9223372036854775808) = true := by rw [h]; rfl
  have t2 : (wl v == 0) = true := by rw [h2]; rfl
  clear h h2
  go_enter Try.func20, Try.ntmps20
  go_wp2_with fail
  exact bodyPost_ret (v := .tuple #[.agg #[.int .i64 0, .int .u64 0], .bool false]) (by simp [results, Try.results20, go_sem]) rfl ⟨rfl, ((Below.refl _ _).alloc (Nat.le_refl _) _).alloc (by simp) _⟩
theorem not_min (v : Int) (h : v ≠ -170141183460469231731687303715884105728) (h2 : wh v = -9223372036854775808) : (wl v == 0) = false := by
  rw [beq_eq_false_iff_ne]; unfold wh at h2; unfold wl; omega
theorem nneg_eq (v : Int) (h : v ≠ -170141183460469231731687303715884105728) : nneg v = -v := by unfold nneg; rw [if_neg h]
set_option maxHeartbeats 1000000 in
theorem wneg_yes (v : Int) (w : World) (hv : InW v) (h : v ≠ -170141183460469231731687303715884105728) :
    Calls Try.prog 20 #[Wv v] w fun e w' => e = .returned (.tuple #[Wv (-v), .bool true]) ∧ Below w.heap.size w w' := by
  rw [← nneg_eq v h]
  by_cases h1 : wh v = -9223372036854775808
  · have t1 : (wh v == -9223372036854775808) = true := by rw [h1]; rfl
    have t2 := not_min v h h1
    clear h1 h
    go_enter Try.func20, Try.ntmps20
    go_wp2_with fail
    generalize hW : World.alloc (World.alloc w _) _ = W
    have e0 : W.heap[w.heap.size + 1]? = some (.cells #[.int .i64 0, .int .u64 0] 27 (0, 0)) := by subst hW; exact heap_alloc2_new w _ _
    have hB : Below w.heap.size w W := by subst hW; exact ((Below.refl _ _).alloc (Nat.le_refl _) _).alloc (by simp) _
    have hw : w.heap.size + 1 < W.heap.size := by subst hW; simp
    clear hW
    refine (negate_any v _ hv).mono ?_
    rintro e w1 ⟨rfl, hb⟩
    have e1 := (hb.block _ hw).trans e0
    have a0 : w1.cell? ⟨w.heap.size + 1, 0, none⟩ = some (.int .i64 0) := by rw [cell_of_row w1 _ _ _ _ _ e1]; rfl
    have a1 : w1.cell? ⟨w.heap.size + 1, 1, none⟩ = some (.int .u64 0) := by rw [cell_of_row w1 _ _ _ _ _ e1]; rfl
    have g : ∀ o, w1.frozen? ⟨w.heap.size + 1, o, none⟩ = false := fun o => by simp [World.frozen?, e1]
    have HB := hB.trans (hb.mono (by omega))
    clear e0 e1 hb hB hw
    go_wp2_with fail
    exact bodyPost_ret (v := .tuple #[Wv (nneg v), .bool true]) (by simp [results, Try.results20, go_sem, a0, a1]) rfl ⟨rfl, Below.set2 (Nat.le_add_right _ _) HB _ _⟩
  · have t1 : (wh v == -9223372036854775808) = false := by rw [beq_eq_false_iff_ne]; exact h1
    clear h1 h
    go_enter Try.func20, Try.ntmps20
    go_wp2_with fail
    generalize hW : World.alloc (World.alloc w _) _ = W
    have e0 : W.heap[w.heap.size + 1]? = some (.cells #[.int .i64 0, .int .u64 0] 27 (0, 0)) := by subst hW; exact heap_alloc2_new w _ _
    have hB : Below w.heap.size w W := by subst hW; exact ((Below.refl _ _).alloc (Nat.le_refl _) _).alloc (by simp) _
    have hw : w.heap.size + 1 < W.heap.size := by subst hW; simp
    clear hW
    refine (negate_any v _ hv).mono ?_
    rintro e w1 ⟨rfl, hb⟩
    have e1 := (hb.block _ hw).trans e0
    have a0 : w1.cell? ⟨w.heap.size + 1, 0, none⟩ = some (.int .i64 0) := by rw [cell_of_row w1 _ _ _ _ _ e1]; rfl
    have a1 : w1.cell? ⟨w.heap.size + 1, 1, none⟩ = some (.int .u64 0) := by rw [cell_of_row w1 _ _ _ _ _ e1]; rfl
    have g : ∀ o, w1.frozen? ⟨w.heap.size + 1, o, none⟩ = false := fun o => by simp [World.frozen?, e1]
    have HB := hB.trans (hb.mono (by omega))
    clear e0 e1 hb hB hw
    go_wp2_with fail
    exact bodyPost_ret (v := .tuple #[Wv (nneg v), .bool true]) (by simp [results, Try.results20, go_sem, a0, a1]) rfl ⟨rfl, Below.set2 (Nat.le_add_right _ _) HB _ _⟩

theorem bits_neg1 (b : Int) (b1 : -9223372036854775808 ≤ b) (b2 : b ≤ 9223372036854775807) : bits .and .i64 (-1) b = b := by
  show IntKind.i64.wrap ((BitVec.ofInt 64 (-1) &&& BitVec.ofInt 64 b).toNat : Int) = b
  have e : BitVec.ofInt 64 (-1) = BitVec.allOnes 64 := by decide
  rw [e, BitVec.allOnes_and, BitVec.toNat_ofInt, IntKind.wrap_i64]
  omega
theorem bits_zero (b : Int) : bits .and .i64 0 b = 0 := by
  show IntKind.i64.wrap ((BitVec.ofInt 64 0 &&& BitVec.ofInt 64 b).toNat : Int) = 0
  have e : BitVec.ofInt 64 0 = 0#64 := by decide
  rw [e, BitVec.zero_and]
  rfl
theorem top_neg (a : Int) (h : a < 0) (h1 : -9223372036854775808 ≤ a) : a / 9223372036854775808 = -1 := by omega
theorem top_pos (a : Int) (h : ¬ a < 0) (h1 : a ≤ 9223372036854775807) : a / 9223372036854775808 = 0 := by omega
theorem mul_parts (a b : Int) (a1 : -9223372036854775808 ≤ a) (a2 : a ≤ 9223372036854775807) (b1 : -9223372036854775808 ≤ b) (b2 : b ≤ 9223372036854775807) :
    wrap64 (wrap64 (wrap64 (IntKind.u64.wrap a * IntKind.u64.wrap b / 18446744073709551616) - bits .and .i64 (a / 9223372036854775808) b) - bits .and .i64 (b / 9223372036854775808) a) = wh (a * b) ∧
      IntKind.u64.wrap a * IntKind.u64.wrap b % 18446744073709551616 = wl (a * b) := by
  have hb : -85070591730234615865843651857942052864 ≤ a * b ∧ a * b ≤ 85070591730234615865843651857942052864 := by
    have h1 : (a * b).natAbs = a.natAbs * b.natAbs := Int.natAbs_mul a b
    have h2 : a.natAbs * b.natAbs ≤ 9223372036854775808 * 9223372036854775808 := Nat.mul_le_mul (by omega) (by omega)
    omega
  unfold wh wl
  simp only [IntKind.wrap_u64]
  by_cases ha : a < 0
  · rw [top_neg a ha a1, bits_neg1 b b1 b2, show a % 18446744073709551616 = a + 18446744073709551616 by omega]
    by_cases hbn : b < 0
    · rw [top_neg b hbn b1, bits_neg1 a a1 a2, show b % 18446744073709551616 = b + 18446744073709551616 by omega,
        show (a + 18446744073709551616) * (b + 18446744073709551616) = a * b + (a + b + 18446744073709551616) * 18446744073709551616 by grind]
      generalize a * b = c at *
      unfold wrap64
      omega
    · rw [top_pos b hbn b2, bits_zero, show b % 18446744073709551616 = b by omega, show (a + 18446744073709551616) * b = a * b + b * 18446744073709551616 by grind]
      generalize a * b = c at *
      unfold wrap64
      omega
  · rw [top_pos a ha a2, bits_zero, show a % 18446744073709551616 = a by omega]
    by_cases hbn : b < 0
    · rw [top_neg b hbn b1, bits_neg1 a a1 a2, show b % 18446744073709551616 = b + 18446744073709551616 by omega, show a * (b + 18446744073709551616) = a * b + a * 18446744073709551616 by grind]
      generalize a * b = c at *
      unfold wrap64
      omega
    · rw [top_pos b hbn b2, bits_zero, show b % 18446744073709551616 = b by omega]
      generalize a * b = c at *
      unfold wrap64
      omega
theorem wrap_hi (x : Int) : IntKind.u64.wrap x < 18446744073709551616 := by rw [IntKind.wrap_u64]; omega
theorem wmul_any (a b : Int) (w : World) (a1 : -9223372036854775808 ≤ a) (a2 : a ≤ 9223372036854775807) (b1 : -9223372036854775808 ≤ b) (b2 : b ≤ 9223372036854775807) :
    Calls Try.prog 15 #[.int .i64 a, .int .i64 b] w fun e w' => e = .returned (Wv (a * b)) ∧ Below w.heap.size w w' := by
  have HM := Lib.hid (mul_parts a b a1 a2 b1 b2)
  go_enter Try.func15, Try.ntmps15
  go_wp2_with fail
  refine (mul64_any (IntKind.u64.wrap a) (IntKind.u64.wrap b) _ (wrap_lo a) (wrap_hi a) (wrap_lo b) (wrap_hi b)).mono ?_
  rintro e w' ⟨rfl, rfl⟩
  go_wp2_with fail
  refine bodyPost_ret (v := Value.agg #[.int .i64 (wrap64 (wrap64 (wrap64 (IntKind.u64.wrap a * IntKind.u64.wrap b / 18446744073709551616) - bits .and .i64 (a / 9223372036854775808) b) - bits .and .i64 (b / 9223372036854775808) a)), .int .u64 (IntKind.u64.wrap a * IntKind.u64.wrap b % 18446744073709551616)]) (by simp [results, Try.results15, go_sem]) rfl ⟨ret_val (agg2 HM.out.1 HM.out.2), (Below.refl _ _).alloc (Nat.le_refl _) _⟩

theorem cmp_val (x y : Int) : cmpI x y = if wh x < wh y then -1 else if wh x = wh y then (if wl x < wl y then -1 else if wl x = wl y then 0 else 1) else 1 := by
  unfold cmpI wh wl
  repeat split
  all_goals omega
theorem wcmp_any (x y : Int) (w : World) :
    Calls Try.prog 22 #[Wv x, Wv y] w fun e w' => e = .returned (.int .i64 (cmpI x y)) ∧ Below w.heap.size w w' := by
  have HC := Lib.hid (cmp_val x y)
  by_cases h1 : wh x < wh y
  · go_enter Try.func22, Try.ntmps22
    go_wp2_with fail
    go_ret
    exact ⟨ret_int (by rw [HC.out, if_pos h1]), ((Below.refl _ _).alloc (Nat.le_refl _) _).alloc (by simp) _⟩
  · by_cases h2 : wh x = wh y
    · have t1 : (wh x == wh y) = true := by rw [beq_iff_eq]; exact h2
      have H2 := Lib.hid h2
      clear h2
      by_cases h3 : wl x < wl y
      · go_enter Try.func22, Try.ntmps22
        go_wp2_with fail
        go_ret
        exact ⟨ret_int (by rw [HC.out, if_neg (Int.not_lt.2 h1), if_pos H2.out, if_pos h3]), ((Below.refl _ _).alloc (Nat.le_refl _) _).alloc (by simp) _⟩
      · by_cases h4 : wl x = wl y
        · have t2 : (wl x == wl y) = true := by rw [beq_iff_eq]; exact h4
          have H4 := Lib.hid h4
          clear h4
          go_enter Try.func22, Try.ntmps22
          go_wp2_with fail
          go_ret
          exact ⟨ret_int (by rw [HC.out, if_neg (Int.not_lt.2 h1), if_pos H2.out, if_neg (Int.not_lt.2 h3), if_pos H4.out]), ((Below.refl _ _).alloc (Nat.le_refl _) _).alloc (by simp) _⟩
        · have t2 : (wl x == wl y) = false := by rw [beq_eq_false_iff_ne]; exact h4
          have H4 := Lib.hid h4
          clear h4
          go_enter Try.func22, Try.ntmps22
          go_wp2_with fail
          go_ret
          exact ⟨ret_int (by rw [HC.out, if_neg (Int.not_lt.2 h1), if_pos H2.out, if_neg (Int.not_lt.2 h3), if_neg H4.out]), ((Below.refl _ _).alloc (Nat.le_refl _) _).alloc (by simp) _⟩
    · have t1 : (wh x == wh y) = false := by rw [beq_eq_false_iff_ne]; exact h2
      have H2 := Lib.hid h2
      clear h2
      go_enter Try.func22, Try.ntmps22
      go_wp2_with fail
      go_ret
      exact ⟨ret_int (by rw [HC.out, if_neg (Int.not_lt.2 h1), if_neg H2.out]), ((Below.refl _ _).alloc (Nat.le_refl _) _).alloc (by simp) _⟩
end Go.Proofs.Ytahedampmjfoeaa
