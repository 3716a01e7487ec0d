/- Together. -/
import Derived.Test.YtfkeljolpcbbkaaPA
import Derived.Test.YtfkeljolpcbbkaaPB

/- QA -/
namespace Go.Proofs.Ytfkeljolpcbbkaa
open Go.RowKit

abbrev Qv (b : Bool) (n : Int) : Value := .agg #[.int .u64 (wh n), .int .u64 (wl n), .bool b]
structure InQ (n : Int) : Prop where
  lo : 0 ≤ n
  hi : n < 340282366920938463463374607431768211456
theorem qh_lo {n : Int} (h : InQ n) : 0 ≤ wh n := by have := h.lo; unfold wh; omega
theorem qh_hi {n : Int} (h : InQ n) : wh n < 18446744073709551616 := by have := h.hi; unfold wh; omega

theorem or_disj (z x : Int) (z0 : 0 ≤ z) (x0 : 0 ≤ x) (x1 : x < 4294967296) : bits .or .u64 (z * 4294967296 % 18446744073709551616) x = (z * 4294967296 + x) % 18446744073709551616 := by
  obtain ⟨n, rfl⟩ := Int.eq_ofNat_of_zero_le z0
  obtain ⟨m, rfl⟩ := Int.eq_ofNat_of_zero_le x0
  show IntKind.u64.wrap ((BitVec.ofInt 64 _ ||| BitVec.ofInt 64 _).toNat : Int) = _
  have e : ((n : Int) * 4294967296 % 18446744073709551616) = ((n % 4294967296 * 4294967296 : Nat) : Int) := by omega
  rw [e, BitVec.toNat_or, BitVec.toNat_ofInt, BitVec.toNat_ofInt, IntKind.wrap_u64]
  have k := Nat.two_pow_add_eq_or_of_lt (i := 32) (b := m) (by omega) (n % 4294967296)
  have e1 : ((((n % 4294967296 * 4294967296 : Nat) : Int) % ((2 ^ 64 : Nat) : Int)).toNat) = 2 ^ 32 * (n % 4294967296) := by omega
  have e2 : (((m : Nat) : Int) % ((2 ^ 64 : Nat) : Int)).toNat = m := by omega
  rw [e1, e2, ← k]
  omega
set_option maxHeartbeats 1000000 in
theorem q_product (x y : Int) (w : World) (x0 : 0 ≤ x) (x1 : x < 18446744073709551616) (y0 : 0 ≤ y) (y1 : y < 18446744073709551616) :
    Calls Try.prog 187 #[.int .u64 x, .int .u64 y] w fun e w' => e = .returned (.tuple #[.int .u64 (wh (x * y)), .int .u64 (wl (x * y))]) ∧ w = w' := by
  go_enter Try.func187, Try.ntmps187
  go_wp2
  go_ret2
  refine ⟨tuple2 ?_ ?_, rfl⟩
  · refine Eq.trans ?_ (mul64_arith x y x0 x1 y0 y1)
    simp only [IntKind.wrap_u64, and_mask x x0 x1, and_mask y y0 y1, mask_mod]
    rw [Int.add_comm (x % 4294967296 * (y / 4294967296) % 18446744073709551616)]
  · simp only [IntKind.wrap_u64, and_mask x x0 x1, and_mask y y0 y1, mask_mod]
    have e : x * y = (x / 4294967296) * (y / 4294967296) * 18446744073709551616 + ((x / 4294967296) * (y % 4294967296) + (x % 4294967296) * (y / 4294967296)) * 4294967296 + (x % 4294967296) * (y % 4294967296) := by
      conv => lhs; rw [← Int.mul_ediv_add_emod x 4294967296, ← Int.mul_ediv_add_emod y 4294967296]
      rw [Int.add_mul, Int.mul_add, Int.mul_add]
      generalize x / 4294967296 = a
      generalize x % 4294967296 = b
      generalize y / 4294967296 = c
      generalize y % 4294967296 = d
      rw [show 4294967296 * a * (4294967296 * c) = a * c * 18446744073709551616 by rw [Int.mul_assoc, Int.mul_left_comm a, ← Int.mul_assoc, Int.mul_comm _ (a * c)]; rfl, show 4294967296 * a * d = a * d * 4294967296 by rw [Int.mul_assoc, Int.mul_comm], show b * (4294967296 * c) = b * c * 4294967296 by rw [Int.mul_left_comm, Int.mul_comm], Int.add_mul]
      omega
    rw [or_disj _ _ (Int.emod_nonneg _ (by decide)) (Int.emod_nonneg _ (by decide)) (Int.emod_lt_of_pos _ (by decide))]
    unfold wl
    rw [e]
    generalize x / 4294967296 * (y / 4294967296) = a
    generalize x / 4294967296 * (y % 4294967296) = b
    generalize x % 4294967296 * (y / 4294967296) = c
    generalize x % 4294967296 * (y % 4294967296) = d
    omega
theorem q_size (a : Int) (w : World) (h1 : -1152921504606846976 ≤ a) (h2 : a ≤ 1152921504606846976) :
    Calls Try.prog 184 #[.int .i64 a] w fun e w' => e = .returned (.int .u64 a.natAbs) ∧ w = w' := by
  by_cases h3 : a < 0
  · go_enter Try.func184, Try.ntmps184
    go_wp2
    go_ret
    refine ⟨ret_int ?_, rfl⟩
    omega
  · go_enter Try.func184, Try.ntmps184
    go_wp2
    go_ret
    refine ⟨ret_int ?_, rfl⟩
    omega
end Go.Proofs.Ytfkeljolpcbbkaa

/- QB -/
namespace Go.Proofs.Ytfkeljolpcbbkaa
open Go.RowKit

theorem q_less (n m : Int) (b c : Bool) (w : World) :
    Calls Try.prog 186 #[Qv b n, Qv c m] w fun e w' => e = .returned (.bool (decide (n < m))) ∧ Below w.heap.size w w' := by
  by_cases h1 : wh n < wh m
  · have HE := Lib.hid (decide_eq_true (show n < m by unfold wh at h1; omega))
    go_enter Try.func186, Try.ntmps186
    go_wp2
    go_ret
    exact ⟨by rw [HE.out]; rfl, ((Below.refl _ _).alloc (Nat.le_refl _) _).alloc (by simp) _⟩
  · by_cases h2 : wh n = wh m
    · by_cases h3 : wl n < wl m
      · have HE := Lib.hid (decide_eq_true (show n < m by unfold wh at h2; unfold wl at h3; omega))
        go_enter Try.func186, Try.ntmps186
        go_wp2
        go_ret
        exact ⟨by rw [HE.out]; rfl, ((Below.refl _ _).alloc (Nat.le_refl _) _).alloc (by simp) _⟩
      · have HE := Lib.hid (decide_eq_false (show ¬ n < m by unfold wh at h2; unfold wl at h3; omega))
        go_enter Try.func186, Try.ntmps186
        go_wp2
        go_ret
        exact ⟨by rw [HE.out]; rfl, ((Below.refl _ _).alloc (Nat.le_refl _) _).alloc (by simp) _⟩
    · have HE := Lib.hid (decide_eq_false (show ¬ n < m by unfold wh at h1 h2; omega))
      go_enter Try.func186, Try.ntmps186
      go_wp2
      go_ret
      exact ⟨by rw [HE.out]; rfl, ((Below.refl _ _).alloc (Nat.le_refl _) _).alloc (by simp) _⟩
theorem q_mul (a b : Int) (w : World) (h1 : -1152921504606846976 ≤ a) (h2 : a ≤ 1152921504606846976) (h3 : -1152921504606846976 ≤ b) (h4 : b ≤ 1152921504606846976) :
    Calls Try.prog 147 #[.int .i64 a, .int .i64 b] w fun e w' => e = .returned (Qv (decide (a < 0) != decide (b < 0)) ((a.natAbs : Int) * (b.natAbs : Int))) ∧ Below w.heap.size w w' := by
  have HS := Lib.hid (fun w => q_size a w h1 h2)
  have HT := Lib.hid (fun w => q_size b w h3 h4)
  have HP := Lib.hid (fun w => q_product a.natAbs b.natAbs w (by omega) (by omega) (by omega) (by omega))
  go_enter Try.func147, Try.ntmps147
  go_wp2_with fail
  refine (HS.out _).mono ?_
  rintro e w1 ⟨rfl, rfl⟩
  go_wp2_with fail
  refine (HT.out _).mono ?_
  rintro e w1 ⟨rfl, rfl⟩
  go_wp2_with fail
  refine (HP.out _).mono ?_
  rintro e w1 ⟨rfl, rfl⟩
  go_wp2_with fail
  exact bodyPost_ret (v := Qv (!(decide (a < 0) == decide (b < 0))) ((a.natAbs : Int) * (b.natAbs : Int))) (by simp [results, Try.results147, go_sem]) rfl ⟨rfl, (Below.refl _ _).alloc (Nat.le_refl _) _⟩
end Go.Proofs.Ytfkeljolpcbbkaa

/- QC -/
namespace Go.Proofs.Ytfkeljolpcbbkaa
open Go.RowKit

theorem qv_eq {b c : Bool} {n x y : Int} (h1 : x = wh n) (h2 : y = wl n) (h3 : b = c) : Ending.returned (Value.agg #[.int .u64 x, .int .u64 y, .bool b]) = Ending.returned (Qv c n) := by rw [h1, h2, h3]
set_option maxHeartbeats 1000000 in
theorem q_add_same (n m : Int) (b : Bool) (w : World) (hn : InQ n) (hm : InQ m) (hs : InQ (n + m)) :
    Calls Try.prog 146 #[Qv b n, Qv b m] w fun e w' => e = .returned (Qv b (n + m)) ∧ Below w.heap.size w w' := by
  have l1 := qh_lo hn
  have l2 := qh_hi hn
  have l3 := qh_lo hm
  have l4 := qh_hi hm
  have HI := Lib.hid (And.intro hn (And.intro hm hs))
  clear hn hm hs
  by_cases h1 : IntKind.u64.wrap (wl n + wl m) < wl n
  · go_enter Try.func146, Try.ntmps146
    go_wp2_with fail
    refine bodyPost_ret (v := .agg #[.int .u64 (IntKind.u64.wrap (IntKind.u64.wrap (wh n + wh m) + 1)), .int .u64 (IntKind.u64.wrap (wl n + wl m)), .bool b]) (by simp [results, Try.results146, go_sem]) rfl ⟨qv_eq ?_ ?_ rfl, ((((Below.refl _ _).alloc (Nat.le_refl _) _).alloc (by simp) _).alloc (by simp <;> omega) _)⟩
    · obtain ⟨⟨_, _⟩, ⟨_, _⟩, ⟨_, _⟩⟩ := HI.out
      simp only [IntKind.wrap_u64] at *
      unfold wh wl at *
      omega
    · simp only [IntKind.wrap_u64] at *
      unfold wl at *
      omega
  · go_enter Try.func146, Try.ntmps146
    go_wp2_with fail
    refine bodyPost_ret (v := .agg #[.int .u64 (IntKind.u64.wrap (wh n + wh m)), .int .u64 (IntKind.u64.wrap (wl n + wl m)), .bool b]) (by simp [results, Try.results146, go_sem]) rfl ⟨qv_eq ?_ ?_ rfl, ((((Below.refl _ _).alloc (Nat.le_refl _) _).alloc (by simp) _).alloc (by simp <;> omega) _)⟩
    · obtain ⟨⟨_, _⟩, ⟨_, _⟩, ⟨_, _⟩⟩ := HI.out
      simp only [IntKind.wrap_u64] at *
      unfold wh wl at *
      omega
    · simp only [IntKind.wrap_u64] at *
      unfold wl at *
      omega
theorem three (w : World) (a b : Bool) (n m : Int) (t : TypeId) (c : Array Value) (t' : TypeId) {W : World} (hW : ((w.alloc (.cells #[.int .u64 (wh n), .int .u64 (wl n), .bool a] t)).alloc (.cells #[.int .u64 (wh m), .int .u64 (wl m), .bool b] t)).alloc (.cells c t') = W) :
    W.heap[w.heap.size]? = some (.cells #[.int .u64 (wh n), .int .u64 (wl n), .bool a] t (0, 0)) ∧ W.heap[w.heap.size + 1]? = some (.cells #[.int .u64 (wh m), .int .u64 (wl m), .bool b] t (0, 0)) ∧ W.heap[w.heap.size + 1 + 1]? = some (.cells c t' (0, 0)) ∧ W.heap.size = w.heap.size + 3 ∧ Below w.heap.size w W := by
  subst hW
  have k0 := heap_alloc_new w (.cells #[.int .u64 (wh n), .int .u64 (wl n), .bool a] t)
  have B0 := (Below.refl w.heap.size w).alloc (Nat.le_refl _) (.cells #[.int .u64 (wh n), .int .u64 (wl n), .bool a] t)
  have s0 : (w.alloc (.cells #[.int .u64 (wh n), .int .u64 (wl n), .bool a] t)).heap.size = w.heap.size + 1 := by simp
  generalize World.alloc w _ = W0 at *
  have k1 := heap_alloc_new W0 (.cells #[.int .u64 (wh m), .int .u64 (wl m), .bool b] t)
  have B1 := (Below.refl W0.heap.size W0).alloc (Nat.le_refl _) (.cells #[.int .u64 (wh m), .int .u64 (wl m), .bool b] t)
  have s1 : (W0.alloc (.cells #[.int .u64 (wh m), .int .u64 (wl m), .bool b] t)).heap.size = w.heap.size + 1 + 1 := by simp; omega
  generalize World.alloc W0 _ = W1 at *
  have k2 := heap_alloc_new W1 (.cells c t')
  have B2 := (Below.refl W1.heap.size W1).alloc (Nat.le_refl _) (.cells c t')
  have s2 : (W1.alloc (.cells c t')).heap.size = w.heap.size + 3 := by simp; omega
  generalize World.alloc W1 _ = W2 at *
  rw [s0] at k1
  rw [s1] at k2
  exact ⟨(B2.block _ (by omega)).trans ((B1.block _ (by omega)).trans k0), (B2.block _ (by omega)).trans k1, k2, s2, (B0.trans (B1.mono (by omega))).trans (B2.mono (by omega))⟩
set_option maxHeartbeats 1000000 in
theorem q_add_more (n m : Int) (b c : Bool) (hbc : (b == c) = false) (w : World) (hn : InQ n) (hm : InQ m) (hs : ¬ n < m) :
    Calls Try.prog 146 #[Qv b n, Qv c m] w fun e w' => e = .returned (Qv b (n - m)) ∧ Below w.heap.size w w' := by
  have l1 := qh_lo hn
  have l2 := qh_hi hn
  have l3 := qh_lo hm
  have l4 := qh_hi hm
  have HI := Lib.hid (And.intro hn (And.intro hm hs))
  have HL := Lib.hid (fun w => q_less n m b c w)
  have HF := Lib.hid (decide_eq_false hs)
  clear hn hm hs
  have h1 : wl n < wl m ∨ ¬ wl n < wl m := by omega
  rcases h1 with h1 | h1
  · go_enter Try.func146, Try.ntmps146
    go_wp2_with fail
    generalize hW : World.alloc _ _ = W
    obtain ⟨e0, e1, e2, hw, hB⟩ := three w _ _ n m _ _ _ hW
    clear hW
    refine (HL.out _).mono ?_
    rintro e w1 ⟨rfl, hb⟩
    rw [HF.out]
    have e0 := (hb.block _ (by omega)).trans e0
    have e1 := (hb.block _ (by omega)).trans e1
    have e2 := (hb.block _ (by omega)).trans e2
    have a0 : w1.cell? ⟨w.heap.size, 0, none⟩ = some (.int .u64 (wh n)) := by rw [cell_of_row w1 _ _ _ _ _ e0]; rfl
    have a1 : w1.cell? ⟨w.heap.size, 1, none⟩ = some (.int .u64 (wl n)) := by rw [cell_of_row w1 _ _ _ _ _ e0]; rfl
    have a2 : w1.cell? ⟨w.heap.size, 2, none⟩ = some (.bool b) := by rw [cell_of_row w1 _ _ _ _ _ e0]; rfl
    have b0 : w1.cell? ⟨w.heap.size + 1, 0, none⟩ = some (.int .u64 (wh m)) := by rw [cell_of_row w1 _ _ _ _ _ e1]; rfl
    have b1 : w1.cell? ⟨w.heap.size + 1, 1, none⟩ = some (.int .u64 (wl m)) := by rw [cell_of_row w1 _ _ _ _ _ e1]; rfl
    have b2 : w1.cell? ⟨w.heap.size + 1, 2, none⟩ = some (.bool c) := by rw [cell_of_row w1 _ _ _ _ _ e1]; rfl
    have d0 : w1.cell? ⟨w.heap.size + 1 + 1, 0, none⟩ = some (.int .u64 0) := by rw [cell_of_row w1 _ _ _ _ _ e2]; rfl
    have d1 : w1.cell? ⟨w.heap.size + 1 + 1, 1, none⟩ = some (.int .u64 0) := by rw [cell_of_row w1 _ _ _ _ _ e2]; rfl
    have d2 : w1.cell? ⟨w.heap.size + 1 + 1, 2, none⟩ = some (.bool false) := by rw [cell_of_row w1 _ _ _ _ _ e2]; rfl
    have g : ∀ o, w1.frozen? ⟨w.heap.size + 1 + 1, o, none⟩ = false := fun o => by simp [World.frozen?, e2]
    have HB := hB.trans (hb.mono (by omega))
    clear e0 e1 e2 hb hB hw
    go_wp2_with fail
    refine bodyPost_ret (v := .agg #[.int .u64 (IntKind.u64.wrap (IntKind.u64.wrap (wh n - wh m) - 1)), .int .u64 (IntKind.u64.wrap (wl n - wl m)), .bool b]) (by simp [results, Try.results146, go_sem, d0, d1, d2]) rfl ⟨qv_eq ?_ ?_ rfl, ((HB.setCell (by simp <;> omega) _).setCell (by simp <;> omega) _).setCell (by simp <;> omega) _⟩
    · obtain ⟨⟨_, _⟩, ⟨_, _⟩, _⟩ := HI.out
      clear HB HL HF a0 a1 a2 b0 b1 b2 d0 d1 d2 g
      simp only [IntKind.wrap_u64] at *
      unfold wh wl at *
      omega
    · simp only [IntKind.wrap_u64]
      unfold wl
      omega
  · go_enter Try.func146, Try.ntmps146
    go_wp2_with fail
    generalize hW : World.alloc _ _ = W
    obtain ⟨e0, e1, e2, hw, hB⟩ := three w _ _ n m _ _ _ hW
    clear hW
    refine (HL.out _).mono ?_
    rintro e w1 ⟨rfl, hb⟩
    rw [HF.out]
    have e0 := (hb.block _ (by omega)).trans e0
    have e1 := (hb.block _ (by omega)).trans e1
    have e2 := (hb.block _ (by omega)).trans e2
    have a0 : w1.cell? ⟨w.heap.size, 0, none⟩ = some (.int .u64 (wh n)) := by rw [cell_of_row w1 _ _ _ _ _ e0]; rfl
    have a1 : w1.cell? ⟨w.heap.size, 1, none⟩ = some (.int .u64 (wl n)) := by rw [cell_of_row w1 _ _ _ _ _ e0]; rfl
    have a2 : w1.cell? ⟨w.heap.size, 2, none⟩ = some (.bool b) := by rw [cell_of_row w1 _ _ _ _ _ e0]; rfl
    have b0 : w1.cell? ⟨w.heap.size + 1, 0, none⟩ = some (.int .u64 (wh m)) := by rw [cell_of_row w1 _ _ _ _ _ e1]; rfl
    have b1 : w1.cell? ⟨w.heap.size + 1, 1, none⟩ = some (.int .u64 (wl m)) := by rw [cell_of_row w1 _ _ _ _ _ e1]; rfl
    have b2 : w1.cell? ⟨w.heap.size + 1, 2, none⟩ = some (.bool c) := by rw [cell_of_row w1 _ _ _ _ _ e1]; rfl
    have d0 : w1.cell? ⟨w.heap.size + 1 + 1, 0, none⟩ = some (.int .u64 0) := by rw [cell_of_row w1 _ _ _ _ _ e2]; rfl
    have d1 : w1.cell? ⟨w.heap.size + 1 + 1, 1, none⟩ = some (.int .u64 0) := by rw [cell_of_row w1 _ _ _ _ _ e2]; rfl
    have d2 : w1.cell? ⟨w.heap.size + 1 + 1, 2, none⟩ = some (.bool false) := by rw [cell_of_row w1 _ _ _ _ _ e2]; rfl
    have g : ∀ o, w1.frozen? ⟨w.heap.size + 1 + 1, o, none⟩ = false := fun o => by simp [World.frozen?, e2]
    have HB := hB.trans (hb.mono (by omega))
    clear e0 e1 e2 hb hB hw
    go_wp2_with fail
    refine bodyPost_ret (v := .agg #[.int .u64 (IntKind.u64.wrap (wh n - wh m)), .int .u64 (IntKind.u64.wrap (wl n - wl m)), .bool b]) (by simp [results, Try.results146, go_sem, d0, d1, d2]) rfl ⟨qv_eq ?_ ?_ rfl, ((HB.setCell (by simp <;> omega) _).setCell (by simp <;> omega) _).setCell (by simp <;> omega) _⟩
    · obtain ⟨⟨_, _⟩, ⟨_, _⟩, _⟩ := HI.out
      clear HB HL HF a0 a1 a2 b0 b1 b2 d0 d1 d2 g
      simp only [IntKind.wrap_u64] at *
      unfold wh wl at *
      omega
    · simp only [IntKind.wrap_u64]
      unfold wl
      omega
set_option maxHeartbeats 1000000 in
theorem q_add_less (n m : Int) (b c : Bool) (hbc : (b == c) = false) (w : World) (hn : InQ n) (hm : InQ m) (hs : n < m) :
    Calls Try.prog 146 #[Qv b n, Qv c m] w fun e w' => e = .returned (Qv c (m - n)) ∧ Below w.heap.size w w' := by
  have l1 := qh_lo hn
  have l2 := qh_hi hn
  have l3 := qh_lo hm
  have l4 := qh_hi hm
  have HI := Lib.hid (And.intro hn (And.intro hm hs))
  have HL := Lib.hid (fun w => q_less n m b c w)
  have HF := Lib.hid (decide_eq_true hs)
  clear hn hm hs
  have h1 : wl m < wl n ∨ ¬ wl m < wl n := by omega
  rcases h1 with h1 | h1
  · go_enter Try.func146, Try.ntmps146
    go_wp2_with fail
    generalize hW : World.alloc _ _ = W
    obtain ⟨e0, e1, e2, hw, hB⟩ := three w _ _ n m _ _ _ hW
    clear hW
    refine (HL.out _).mono ?_
    rintro e w1 ⟨rfl, hb⟩
    rw [HF.out]
    have e0 := (hb.block _ (by omega)).trans e0
    have e1 := (hb.block _ (by omega)).trans e1
    have e2 := (hb.block _ (by omega)).trans e2
    have a0 : w1.cell? ⟨w.heap.size, 0, none⟩ = some (.int .u64 (wh n)) := by rw [cell_of_row w1 _ _ _ _ _ e0]; rfl
    have a1 : w1.cell? ⟨w.heap.size, 1, none⟩ = some (.int .u64 (wl n)) := by rw [cell_of_row w1 _ _ _ _ _ e0]; rfl
    have a2 : w1.cell? ⟨w.heap.size, 2, none⟩ = some (.bool b) := by rw [cell_of_row w1 _ _ _ _ _ e0]; rfl
    have b0 : w1.cell? ⟨w.heap.size + 1, 0, none⟩ = some (.int .u64 (wh m)) := by rw [cell_of_row w1 _ _ _ _ _ e1]; rfl
    have b1 : w1.cell? ⟨w.heap.size + 1, 1, none⟩ = some (.int .u64 (wl m)) := by rw [cell_of_row w1 _ _ _ _ _ e1]; rfl
    have b2 : w1.cell? ⟨w.heap.size + 1, 2, none⟩ = some (.bool c) := by rw [cell_of_row w1 _ _ _ _ _ e1]; rfl
    have d0 : w1.cell? ⟨w.heap.size + 1 + 1, 0, none⟩ = some (.int .u64 0) := by rw [cell_of_row w1 _ _ _ _ _ e2]; rfl
    have d1 : w1.cell? ⟨w.heap.size + 1 + 1, 1, none⟩ = some (.int .u64 0) := by rw [cell_of_row w1 _ _ _ _ _ e2]; rfl
    have d2 : w1.cell? ⟨w.heap.size + 1 + 1, 2, none⟩ = some (.bool false) := by rw [cell_of_row w1 _ _ _ _ _ e2]; rfl
    have g : ∀ o, w1.frozen? ⟨w.heap.size + 1 + 1, o, none⟩ = false := fun o => by simp [World.frozen?, e2]
    have ga : ∀ o, w1.frozen? ⟨w.heap.size, o, none⟩ = false := fun o => by simp [World.frozen?, e0]
    have gb : ∀ o, w1.frozen? ⟨w.heap.size + 1, o, none⟩ = false := fun o => by simp [World.frozen?, e1]
    have HB := hB.trans (hb.mono (by omega))
    clear e0 e1 e2 hb hB hw
    go_wp2_with fail
    refine bodyPost_ret (v := .agg #[.int .u64 (IntKind.u64.wrap (IntKind.u64.wrap (wh m - wh n) - 1)), .int .u64 (IntKind.u64.wrap (wl m - wl n)), .bool c]) (by simp [results, Try.results146, go_sem, d0, d1, d2]) rfl ⟨qv_eq ?_ ?_ rfl, (((((((((HB.setCell (by simp <;> omega) _).setCell (by simp <;> omega) _).setCell (by simp <;> omega) _).setCell (by simp <;> omega) _).setCell (by simp <;> omega) _).setCell (by simp <;> omega) _).setCell (by simp <;> omega) _).setCell (by simp <;> omega) _).setCell (by simp <;> omega) _)⟩
    · obtain ⟨⟨_, _⟩, ⟨_, _⟩, _⟩ := HI.out
      clear HB HL HF a0 a1 a2 b0 b1 b2 d0 d1 d2 g ga gb
      simp only [IntKind.wrap_u64] at *
      unfold wh wl at *
      omega
    · simp only [IntKind.wrap_u64]
      unfold wl
      omega
  · go_enter Try.func146, Try.ntmps146
    go_wp2_with fail
    generalize hW : World.alloc _ _ = W
    obtain ⟨e0, e1, e2, hw, hB⟩ := three w _ _ n m _ _ _ hW
    clear hW
    refine (HL.out _).mono ?_
    rintro e w1 ⟨rfl, hb⟩
    rw [HF.out]
    have e0 := (hb.block _ (by omega)).trans e0
    have e1 := (hb.block _ (by omega)).trans e1
    have e2 := (hb.block _ (by omega)).trans e2
    have a0 : w1.cell? ⟨w.heap.size, 0, none⟩ = some (.int .u64 (wh n)) := by rw [cell_of_row w1 _ _ _ _ _ e0]; rfl
    have a1 : w1.cell? ⟨w.heap.size, 1, none⟩ = some (.int .u64 (wl n)) := by rw [cell_of_row w1 _ _ _ _ _ e0]; rfl
    have a2 : w1.cell? ⟨w.heap.size, 2, none⟩ = some (.bool b) := by rw [cell_of_row w1 _ _ _ _ _ e0]; rfl
    have b0 : w1.cell? ⟨w.heap.size + 1, 0, none⟩ = some (.int .u64 (wh m)) := by rw [cell_of_row w1 _ _ _ _ _ e1]; rfl
    have b1 : w1.cell? ⟨w.heap.size + 1, 1, none⟩ = some (.int .u64 (wl m)) := by rw [cell_of_row w1 _ _ _ _ _ e1]; rfl
    have b2 : w1.cell? ⟨w.heap.size + 1, 2, none⟩ = some (.bool c) := by rw [cell_of_row w1 _ _ _ _ _ e1]; rfl
    have d0 : w1.cell? ⟨w.heap.size + 1 + 1, 0, none⟩ = some (.int .u64 0) := by rw [cell_of_row w1 _ _ _ _ _ e2]; rfl
    have d1 : w1.cell? ⟨w.heap.size + 1 + 1, 1, none⟩ = some (.int .u64 0) := by rw [cell_of_row w1 _ _ _ _ _ e2]; rfl
    have d2 : w1.cell? ⟨w.heap.size + 1 + 1, 2, none⟩ = some (.bool false) := by rw [cell_of_row w1 _ _ _ _ _ e2]; rfl
    have g : ∀ o, w1.frozen? ⟨w.heap.size + 1 + 1, o, none⟩ = false := fun o => by simp [World.frozen?, e2]
    have ga : ∀ o, w1.frozen? ⟨w.heap.size, o, none⟩ = false := fun o => by simp [World.frozen?, e0]
    have gb : ∀ o, w1.frozen? ⟨w.heap.size + 1, o, none⟩ = false := fun o => by simp [World.frozen?, e1]
    have HB := hB.trans (hb.mono (by omega))
    clear e0 e1 e2 hb hB hw
    go_wp2_with fail
    refine bodyPost_ret (v := .agg #[.int .u64 (IntKind.u64.wrap (wh m - wh n)), .int .u64 (IntKind.u64.wrap (wl m - wl n)), .bool c]) (by simp [results, Try.results146, go_sem, d0, d1, d2]) rfl ⟨qv_eq ?_ ?_ rfl, (((((((((HB.setCell (by simp <;> omega) _).setCell (by simp <;> omega) _).setCell (by simp <;> omega) _).setCell (by simp <;> omega) _).setCell (by simp <;> omega) _).setCell (by simp <;> omega) _).setCell (by simp <;> omega) _).setCell (by simp <;> omega) _).setCell (by simp <;> omega) _)⟩
    · obtain ⟨⟨_, _⟩, ⟨_, _⟩, _⟩ := HI.out
      clear HB HL HF a0 a1 a2 b0 b1 b2 d0 d1 d2 g ga gb
      simp only [IntKind.wrap_u64] at *
      unfold wh wl at *
      omega
    · simp only [IntKind.wrap_u64]
      unfold wl
      omega
end Go.Proofs.Ytfkeljolpcbbkaa

/- QD -/
namespace Go.Proofs.Ytfkeljolpcbbkaa
open Go.RowKit

def qs (b c : Bool) (n m : Int) : Bool := if b = c then b else if n < m then c else b
def qn (b c : Bool) (n m : Int) : Int := if b = c then n + m else if n < m then m - n else n - m
theorem q_add (b c : Bool) (n m : Int) (w : World) (hn : InQ n) (hm : InQ m) (hs : b = c → InQ (n + m)) :
    Calls Try.prog 146 #[Qv b n, Qv c m] w fun e w' => e = .returned (Qv (qs b c n m) (qn b c n m)) ∧ Below w.heap.size w w' := by
  by_cases h : b = c
  · subst h
    unfold qs qn
    rw [if_pos rfl, if_pos rfl]
    exact q_add_same n m b w hn hm (hs rfl)
  · have hb : (b == c) = false := by simpa using h
    unfold qs qn
    rw [if_neg h, if_neg h]
    by_cases k : n < m
    · rw [if_pos k, if_pos k]; exact q_add_less n m b c hb w hn hm k
    · rw [if_neg k, if_neg k]; exact q_add_more n m b c hb w hn hm k
def qval (b : Bool) (n : Int) : Int := if b = true then -n else n
theorem qval_add (b c : Bool) (n m : Int) : qval (qs b c n m) (qn b c n m) = qval b n + qval c m := by
  unfold qval qs qn
  cases b <;> cases c <;> simp <;> repeat split
  all_goals omega
/-! A power of two, and a division by it, in halves -/
theorem half_far (s : Nat) (h1 : 65 ≤ s) (h2 : s ≤ 126) : IntKind.u64.wrap (2 ^ (s - 65)) = wh ((2 ^ (s - 1) : Nat) : Int) ∧ 0 = wl ((2 ^ (s - 1) : Nat) : Int) := by
  have hp := pow_lt (s - 65) 61 (by omega)
  have e1 : 2 ^ (s - 1) = 2 ^ (s - 65) * 18446744073709551616 := by rw [show s - 1 = (s - 65) + 64 by omega, Nat.pow_add]
  rw [e1, pow_int]
  generalize 2 ^ (s - 65) = q at *
  simp only [IntKind.wrap_u64]
  unfold wh wl
  omega
theorem half_near (s : Nat) (h1 : 1 ≤ s) (h2 : s ≤ 64) : 0 = wh ((2 ^ (s - 1) : Nat) : Int) ∧ IntKind.u64.wrap (2 ^ (s - 1)) = wl ((2 ^ (s - 1) : Nat) : Int) := by
  have hp := pow_lt (s - 1) 63 (by omega)
  rw [pow_int]
  generalize 2 ^ (s - 1) = q at *
  simp only [IntKind.wrap_u64]
  unfold wh wl
  omega
theorem over_far (n s : Nat) (h1 : 64 ≤ s) (hn : n < 340282366920938463463374607431768211456) : 0 = wh ((n / 2 ^ s : Nat) : Int) ∧ wh n / 2 ^ (s - 64) = wl ((n / 2 ^ s : Nat) : Int) := by
  have e1 : n / 2 ^ s = n / 18446744073709551616 / 2 ^ (s - 64) := by
    rw [Nat.div_div_eq_div_mul, show (18446744073709551616 : Nat) = 2 ^ 64 by decide, ← Nat.pow_add, show 64 + (s - 64) = s by omega]
  have hq : n / 18446744073709551616 < 18446744073709551616 := by omega
  have hlt : n / 18446744073709551616 / 2 ^ (s - 64) < 18446744073709551616 := Nat.lt_of_le_of_lt (Nat.div_le_self _ _) hq
  constructor
  · rw [e1, whN, Nat.div_eq_of_lt hlt]; rfl
  · rw [e1, wlN, whN, Nat.mod_eq_of_lt hlt, div_pow_int]
theorem or_comm64 (a b : Int) : bits .or .u64 a b = bits .or .u64 b a := by
  show IntKind.u64.wrap ((BitVec.ofInt 64 a ||| BitVec.ofInt 64 b).toNat : Int) = IntKind.u64.wrap ((BitVec.ofInt 64 b ||| BitVec.ofInt 64 a).toNat : Int)
  rw [BitVec.or_comm]
theorem over_near (n s : Nat) (h1 : s < 64) (hn : n < 340282366920938463463374607431768211456) :
    wh n / 2 ^ s = wh ((n / 2 ^ s : Nat) : Int) ∧ bits .or .u64 (wl n / 2 ^ s) (IntKind.u64.wrap (wh n * 2 ^ (64 - s))) = wl ((n / 2 ^ s : Nat) : Int) := by
  have hq : n / 18446744073709551616 < 18446744073709551616 := by omega
  constructor
  · rw [whN, whN, div_pow_int, Nat.div_div_eq_div_mul, Nat.div_div_eq_div_mul, Nat.mul_comm]
  · have hP : 0 < 2 ^ s := Nat.two_pow_pos s
    have hPQ : 2 ^ s * 2 ^ (64 - s) = 18446744073709551616 := by rw [← Nat.pow_add, show s + (64 - s) = 64 by omega]
    have eh : IntKind.u64.wrap (wh n * 2 ^ (64 - s)) = ((n / 18446744073709551616 * 2 ^ (64 - s) % 18446744073709551616 : Nat) : Int) := by
      rw [IntKind.wrap_u64, whN, pow_int, ← Int.natCast_mul]; omega
    rw [or_comm64, eh, wlN, wlN, div_pow_int, or_parts _ _ (64 - s) (Nat.mod_lt _ (by omega)) ?_ (by omega) ?_]
    · congr 1
      have e2 : n = n % 18446744073709551616 + 2 ^ s * (2 ^ (64 - s) * (n / 18446744073709551616)) := by rw [← Nat.mul_assoc, hPQ]; omega
      have e3 : n / 2 ^ s = n % 18446744073709551616 / 2 ^ s + 2 ^ (64 - s) * (n / 18446744073709551616) := by
        rw [show n / 2 ^ s = (n % 18446744073709551616 + 2 ^ s * (2 ^ (64 - s) * (n / 18446744073709551616))) / 2 ^ s by rw [← e2], Nat.add_mul_div_left _ _ hP]
      have hlo : n % 18446744073709551616 / 2 ^ s < 2 ^ (64 - s) := by
        refine (Nat.div_lt_iff_lt_mul hP).2 ?_
        rw [Nat.mul_comm, hPQ]; omega
      have hd : (n / 18446744073709551616 * 2 ^ (64 - s) % 18446744073709551616) % 2 ^ (64 - s) = 0 := by
        rw [Nat.mod_mod_of_dvd _ ⟨2 ^ s, by rw [Nat.mul_comm, hPQ]⟩]; exact Nat.mul_mod_left _ _
      rw [e3, Nat.mul_comm (2 ^ (64 - s))]
      generalize n / 18446744073709551616 * 2 ^ (64 - s) = X at *
      generalize n % 18446744073709551616 / 2 ^ s = Y at *
      have hm : X % 18446744073709551616 + Y < 18446744073709551616 := by
        have d1 : X % 18446744073709551616 ≤ 18446744073709551616 - 2 ^ (64 - s) := by
          have h3 := Nat.mod_lt X (show 0 < 18446744073709551616 by omega)
          obtain ⟨c, hc⟩ := Nat.dvd_of_mod_eq_zero hd
          rw [hc] at h3 ⊢
          have h4 : 2 ^ (64 - s) * c < 2 ^ (64 - s) * 2 ^ s := by rw [Nat.mul_comm _ (2 ^ s), hPQ]; exact h3
          have h5 : c < 2 ^ s := Nat.lt_of_mul_lt_mul_left h4
          have h6 : 2 ^ (64 - s) * (c + 1) ≤ 2 ^ (64 - s) * 2 ^ s := Nat.mul_le_mul_left _ h5
          rw [Nat.mul_comm _ (2 ^ s), hPQ, Nat.mul_add] at h6
          omega
        have : 2 ^ (64 - s) ≤ 18446744073709551616 := pow_lt (64 - s) 64 (by omega)
        omega
      omega
    · refine (Nat.div_lt_iff_lt_mul hP).2 ?_
      rw [Nat.mul_comm, hPQ]; omega
    · rw [Nat.mod_mod_of_dvd _ ⟨2 ^ s, by rw [Nat.mul_comm, hPQ]⟩]; exact Nat.mul_mod_left _ _
end Go.Proofs.Ytfkeljolpcbbkaa

/- QE -/
namespace Go.Proofs.Ytfkeljolpcbbkaa
open Go.RowKit

theorem made3 (w : World) (x y z : Array Value) (t t' t'' : TypeId) {W : World} (hW : ((w.alloc (.cells x t)).alloc (.cells y t')).alloc (.cells z t'') = W) :
    W.heap[w.heap.size]? = some (.cells x t (0, 0)) ∧ W.heap[w.heap.size + 1]? = some (.cells y t' (0, 0)) ∧ W.heap[w.heap.size + 1 + 1]? = some (.cells z t'' (0, 0)) ∧ W.heap.size = w.heap.size + 3 ∧ Below w.heap.size w W := by
  subst hW
  have k0 := heap_alloc_new w (.cells x t)
  have B0 := (Below.refl w.heap.size w).alloc (Nat.le_refl _) (.cells x t)
  have s0 : (w.alloc (.cells x t)).heap.size = w.heap.size + 1 := by simp
  generalize World.alloc w _ = W0 at *
  have k1 := heap_alloc_new W0 (.cells y t')
  have B1 := (Below.refl W0.heap.size W0).alloc (Nat.le_refl _) (.cells y t')
  have s1 : (W0.alloc (.cells y t')).heap.size = w.heap.size + 1 + 1 := by simp; omega
  generalize World.alloc W0 _ = W1 at *
  have k2 := heap_alloc_new W1 (.cells z t'')
  have B2 := (Below.refl W1.heap.size W1).alloc (Nat.le_refl _) (.cells z t'')
  have s2 : (W1.alloc (.cells z t'')).heap.size = w.heap.size + 3 := by simp; omega
  generalize World.alloc W1 _ = W2 at *
  rw [s0] at k1
  rw [s1] at k2
  exact ⟨(B2.block _ (by omega)).trans ((B1.block _ (by omega)).trans k0), (B2.block _ (by omega)).trans k1, k2, s2, (B0.trans (B1.mono (by omega))).trans (B2.mono (by omega))⟩
theorem q_shift_zero (n : Int) (b : Bool) (w : World) :
    Calls Try.prog 149 #[Qv b n, .int .i64 0] w fun e w' => e = .returned (Qv b n) ∧ Below w.heap.size w w' := by
  go_enter Try.func149, Try.ntmps149
  go_wp2_with fail
  exact bodyPost_ret (v := Qv b n) (by simp [results, Try.results149, go_sem]) rfl ⟨rfl, ((Below.refl _ _).alloc (Nat.le_refl _) _).alloc (by simp) _⟩
theorem rq_pos (n s : Nat) (h : 1 ≤ s) : rq n s = (n + 2 ^ (s - 1)) / 2 ^ s := by unfold rq halfOf; rw [if_neg (by omega)]
theorem inq_nat {n : Nat} (h : n < 340282366920938463463374607431768211456) : InQ n := ⟨by omega, by omega⟩
theorem add_at (n p : Nat) (h l : Int) (hh : h = wh p) (hl : l = wl p) (b : Bool) (w : World) (hs : n + p < 340282366920938463463374607431768211456) :
    Calls Try.prog 146 #[Qv b n, .agg #[.int .u64 h, .int .u64 l, .bool b]] w fun e w' => e = .returned (Qv b ((n + p : Nat) : Int)) ∧ Below w.heap.size w w' := by
  subst hh hl
  exact q_add_same n p b w (inq_nat (by omega)) (inq_nat (by omega)) (inq_nat hs)
set_option maxHeartbeats 1000000 in
theorem q_shift_far (n s : Nat) (b : Bool) (w : World) (hs : 65 ≤ s) (hs2 : s ≤ 126) (hn : n + 2 ^ (s - 1) < 340282366920938463463374607431768211456) :
    Calls Try.prog 149 #[Qv b n, .int .i64 s] w fun e w' => e = .returned (Qv b ((rq n s : Nat) : Int)) ∧ Below w.heap.size w w' := by
  have g1 : ¬ (s : Int) = 0 := by omega
  have g2 : (64 : Int) ≤ s - 1 := by omega
  have g3 : (64 : Int) ≤ s := by omega
  have g4 : IntKind.i64.wrap ((s : Int) - 65) = ((s - 65 : Nat) : Int) := by rw [IntKind.wrap_i64]; omega
  have g5 : IntKind.i64.wrap ((s : Int) - 64) = ((s - 64 : Nat) : Int) := by rw [IntKind.wrap_i64]; omega
  have HA := Lib.hid (fun w => add_at n (2 ^ (s - 1)) _ _ (half_far s hs hs2).1 (half_far s hs hs2).2 b w hn)
  have HE := Lib.hid (over_far (n + 2 ^ (s - 1)) s (by omega) hn)
  rw [rq_pos n s (by omega)]
  clear hn
  generalize hN : n + 2 ^ (s - 1) = M at *
  go_enter Try.func149, Try.ntmps149
  go_wp2_with fail
  generalize hW : World.alloc _ _ = W
  obtain ⟨e0, e1, _, hw, hB⟩ := made3 w _ _ _ _ _ _ hW
  clear hW
  refine (HA.out _).mono ?_
  rintro e w1 ⟨rfl, hb⟩
  have e0 := (hb.block _ (by omega)).trans e0
  have e1 := (hb.block _ (by omega)).trans e1
  have a0 : w1.cell? ⟨w.heap.size, 0, none⟩ = some (.int .u64 (wh n)) := by rw [cell_of_row w1 _ _ _ _ _ e0]; rfl
  have a1 : w1.cell? ⟨w.heap.size, 1, none⟩ = some (.int .u64 (wl n)) := by rw [cell_of_row w1 _ _ _ _ _ e0]; rfl
  have a2 : w1.cell? ⟨w.heap.size, 2, none⟩ = some (.bool b) := by rw [cell_of_row w1 _ _ _ _ _ e0]; rfl
  have ga : ∀ o, w1.frozen? ⟨w.heap.size, o, none⟩ = false := fun o => by simp [World.frozen?, e0]
  have d0 : w1.cell? ⟨w.heap.size + 1, 0, none⟩ = some (.int .u64 0) := by rw [cell_of_row w1 _ _ _ _ _ e1]; rfl
  have d1 : w1.cell? ⟨w.heap.size + 1, 1, none⟩ = some (.int .u64 0) := by rw [cell_of_row w1 _ _ _ _ _ e1]; rfl
  have d2 : w1.cell? ⟨w.heap.size + 1, 2, none⟩ = some (.bool false) := by rw [cell_of_row w1 _ _ _ _ _ e1]; rfl
  have g : ∀ o, w1.frozen? ⟨w.heap.size + 1, o, none⟩ = false := fun o => by simp [World.frozen?, e1]
  have HB := hB.trans (hb.mono (by omega))
  clear e0 e1 hb hB hw
  go_wp2_with fail
  refine bodyPost_ret (v := .agg #[.int .u64 0, .int .u64 (wh M / 2 ^ (s - 64)), .bool b]) (by simp [results, Try.results149, go_sem, d0, d1, d2]) rfl ⟨qv_eq HE.out.1 HE.out.2 rfl, (((((HB.setCell (by simp <;> omega) _).setCell (by simp <;> omega) _).setCell (by simp <;> omega) _).setCell (by simp <;> omega) _).setCell (by simp <;> omega) _).setCell (by simp <;> omega) _⟩
set_option maxHeartbeats 1000000 in
theorem q_shift_near (n s : Nat) (b : Bool) (w : World) (hs : 1 ≤ s) (hs2 : s < 64) (hn : n + 2 ^ (s - 1) < 340282366920938463463374607431768211456) :
    Calls Try.prog 149 #[Qv b n, .int .i64 s] w fun e w' => e = .returned (Qv b ((rq n s : Nat) : Int)) ∧ Below w.heap.size w w' := by
  have g1 : ¬ (s : Int) = 0 := by omega
  have g2 : ¬ (64 : Int) ≤ s - 1 := by omega
  have g3 : ¬ (64 : Int) ≤ s := by omega
  have g4 : IntKind.i64.wrap ((s : Int) - 1) = ((s - 1 : Nat) : Int) := by rw [IntKind.wrap_i64]; omega
  have g5 : IntKind.i64.wrap (64 - (s : Int)) = ((64 - s : Nat) : Int) := by rw [IntKind.wrap_i64]; omega
  have HA := Lib.hid (fun w => add_at n (2 ^ (s - 1)) _ _ (half_near s hs (by omega)).1 (half_near s hs (by omega)).2 b w hn)
  have HE := Lib.hid (over_near (n + 2 ^ (s - 1)) s hs2 hn)
  rw [rq_pos n s (by omega)]
  clear hn
  generalize hN : n + 2 ^ (s - 1) = M at *
  go_enter Try.func149, Try.ntmps149
  go_wp2_with fail
  generalize hW : World.alloc _ _ = W
  obtain ⟨e0, e1, _, hw, hB⟩ := made3 w _ _ _ _ _ _ hW
  clear hW
  refine (HA.out _).mono ?_
  rintro e w1 ⟨rfl, hb⟩
  have e0 := (hb.block _ (by omega)).trans e0
  have e1 := (hb.block _ (by omega)).trans e1
  have a0 : w1.cell? ⟨w.heap.size, 0, none⟩ = some (.int .u64 (wh n)) := by rw [cell_of_row w1 _ _ _ _ _ e0]; rfl
  have a1 : w1.cell? ⟨w.heap.size, 1, none⟩ = some (.int .u64 (wl n)) := by rw [cell_of_row w1 _ _ _ _ _ e0]; rfl
  have a2 : w1.cell? ⟨w.heap.size, 2, none⟩ = some (.bool b) := by rw [cell_of_row w1 _ _ _ _ _ e0]; rfl
  have ga : ∀ o, w1.frozen? ⟨w.heap.size, o, none⟩ = false := fun o => by simp [World.frozen?, e0]
  have d0 : w1.cell? ⟨w.heap.size + 1, 0, none⟩ = some (.int .u64 0) := by rw [cell_of_row w1 _ _ _ _ _ e1]; rfl
  have d1 : w1.cell? ⟨w.heap.size + 1, 1, none⟩ = some (.int .u64 0) := by rw [cell_of_row w1 _ _ _ _ _ e1]; rfl
  have d2 : w1.cell? ⟨w.heap.size + 1, 2, none⟩ = some (.bool false) := by rw [cell_of_row w1 _ _ _ _ _ e1]; rfl
  have g : ∀ o, w1.frozen? ⟨w.heap.size + 1, o, none⟩ = false := fun o => by simp [World.frozen?, e1]
  have HB := hB.trans (hb.mono (by omega))
  clear e0 e1 hb hB hw
  go_wp2_with fail
  refine bodyPost_ret (v := .agg #[.int .u64 (wh M / 2 ^ s), .int .u64 (bits .or .u64 (wl M / 2 ^ s) (IntKind.u64.wrap (wh M * 2 ^ (64 - s)))), .bool b]) (by simp [results, Try.results149, go_sem, d0, d1, d2]) rfl ⟨qv_eq HE.out.1 HE.out.2 rfl, (((((HB.setCell (by simp <;> omega) _).setCell (by simp <;> omega) _).setCell (by simp <;> omega) _).setCell (by simp <;> omega) _).setCell (by simp <;> omega) _).setCell (by simp <;> omega) _⟩
set_option maxHeartbeats 1000000 in
theorem q_shift_64 (n : Nat) (b : Bool) (w : World) (hn : n + 9223372036854775808 < 340282366920938463463374607431768211456) :
    Calls Try.prog 149 #[Qv b n, .int .i64 64] w fun e w' => e = .returned (Qv b ((rq n 64 : Nat) : Int)) ∧ Below w.heap.size w w' := by
  have HA := Lib.hid (fun w => add_at n 9223372036854775808 0 9223372036854775808 rfl rfl b w hn)
  have HE := Lib.hid (over_far (n + 9223372036854775808) 64 (by omega) hn)
  rw [show rq n 64 = (n + 9223372036854775808) / 2 ^ 64 from rfl]
  clear hn
  generalize hN : n + 9223372036854775808 = M at *
  go_enter Try.func149, Try.ntmps149
  go_wp2_with fail
  generalize hW : World.alloc _ _ = W
  obtain ⟨e0, e1, _, hw, hB⟩ := made3 w _ _ _ _ _ _ hW
  clear hW
  refine (HA.out _).mono ?_
  rintro e w1 ⟨rfl, hb⟩
  have e0 := (hb.block _ (by omega)).trans e0
  have e1 := (hb.block _ (by omega)).trans e1
  have a0 : w1.cell? ⟨w.heap.size, 0, none⟩ = some (.int .u64 (wh n)) := by rw [cell_of_row w1 _ _ _ _ _ e0]; rfl
  have a1 : w1.cell? ⟨w.heap.size, 1, none⟩ = some (.int .u64 (wl n)) := by rw [cell_of_row w1 _ _ _ _ _ e0]; rfl
  have a2 : w1.cell? ⟨w.heap.size, 2, none⟩ = some (.bool b) := by rw [cell_of_row w1 _ _ _ _ _ e0]; rfl
  have ga : ∀ o, w1.frozen? ⟨w.heap.size, o, none⟩ = false := fun o => by simp [World.frozen?, e0]
  have d0 : w1.cell? ⟨w.heap.size + 1, 0, none⟩ = some (.int .u64 0) := by rw [cell_of_row w1 _ _ _ _ _ e1]; rfl
  have d1 : w1.cell? ⟨w.heap.size + 1, 1, none⟩ = some (.int .u64 0) := by rw [cell_of_row w1 _ _ _ _ _ e1]; rfl
  have d2 : w1.cell? ⟨w.heap.size + 1, 2, none⟩ = some (.bool false) := by rw [cell_of_row w1 _ _ _ _ _ e1]; rfl
  have g : ∀ o, w1.frozen? ⟨w.heap.size + 1, o, none⟩ = false := fun o => by simp [World.frozen?, e1]
  have HB := hB.trans (hb.mono (by omega))
  clear e0 e1 hb hB hw
  go_wp2_with fail
  refine bodyPost_ret (v := .agg #[.int .u64 0, .int .u64 (wh M), .bool b]) (by simp [results, Try.results149, go_sem, d0, d1, d2]) rfl ⟨qv_eq HE.out.1 ((Int.ediv_one _).symm.trans HE.out.2) rfl, (((((HB.setCell (by simp <;> omega) _).setCell (by simp <;> omega) _).setCell (by simp <;> omega) _).setCell (by simp <;> omega) _).setCell (by simp <;> omega) _).setCell (by simp <;> omega) _⟩
theorem q_shift (n s : Nat) (b : Bool) (w : World) (hs : s ≤ 126) (hn : n + halfOf s < 340282366920938463463374607431768211456) :
    Calls Try.prog 149 #[Qv b n, .int .i64 s] w fun e w' => e = .returned (Qv b ((rq n s : Nat) : Int)) ∧ Below w.heap.size w w' := by
  rcases Nat.eq_zero_or_pos s with h | h
  · subst h
    rw [show rq n 0 = n by unfold rq halfOf; simp]
    exact q_shift_zero n b w
  · have e : halfOf s = 2 ^ (s - 1) := by unfold halfOf; rw [if_neg (by omega)]
    rw [e] at hn
    rcases Nat.lt_trichotomy s 64 with h1 | h1 | h1
    · exact q_shift_near n s b w h h1 hn
    · subst h1; exact q_shift_64 n b w hn
    · exact q_shift_far n s b w h1 hs hn
end Go.Proofs.Ytfkeljolpcbbkaa
